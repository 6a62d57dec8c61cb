/-
  LayRound returns true for any numbers and any text: what is written is read as it was, to the end.
-/
import Derived.Test.YthkpbkkgjeecnaaLaw
import Derived.Deep.RegionHeld3
import Derived.WalkKit
import Derived.ProofKit
import Derived.OpenShut
import Derived.ShutString
import Derived.ChangeOld
import Derived.Below
namespace Go.Proofs.Ythkpbkkgjeecnaa.layRound
open Go.ChangeShapes Go.WideShapes Go.ChangeAt Go.RowKit
open Go.ChangeMaps (open_string shut_string)
set_option linter.unusedVariables false

theorem own : ownKnob Try.prog.godebug = none := by kernel_rfl
theorem laidOut : laidOutB Try.prog = true := by kernel_rfl

open Dg
/-- The cells at A read as the numbers ns. -/
def Ri (w : World) (A : Option Addr) (ns : List Int) : Prop :=
  ns ≠ [] → ∃ b off, A = some ⟨b, off, none⟩ ∧ ∀ i (h : i < ns.length), w.cell? ⟨b, off + i, none⟩ = some (.int .i64 ns[i])
theorem IsRow.ints {w : World} {a : Option Addr} {len cap : Nat} {zs : List Int} (h : IsRow .i64 w a len cap zs) :
    ∃ ns : List Int, ns.length = len ∧ len ≤ cap ∧ cap ≤ maxLen ∧ (∀ x ∈ ns, -9223372036854775808 ≤ x ∧ x ≤ 9223372036854775807) ∧ Ri w a ns := by
  rcases h with ⟨rfl, rfl, rfl, rfl⟩ | ⟨x, rfl, h1, h2, h3, hc, hw⟩
  · exact ⟨[], rfl, Nat.le_refl _, Nat.zero_le _, fun _ h => (by cases h), fun h => absurd rfl h⟩
  · refine ⟨zs.take len, by rw [List.length_take]; omega, h1, h2, fun z hz => bounds_i64 (hw z (List.mem_of_mem_take hz)), fun hl => ?_⟩
    have hp : 0 < zs.length := by
      rcases zs with _ | ⟨z, zs⟩
      · simp at hl
      · simp
    obtain ⟨b, off, rfl, hc'⟩ := ints_at hc hp
    refine ⟨b, off, rfl, fun i hi => ?_⟩
    rw [List.length_take] at hi
    rw [hc' i (by omega), List.getElem_take]
    rw [List.getD_eq_getElem?_getD, List.getElem?_eq_getElem (by omega)]
    rfl
/-- The bytes of signed numbers. -/
def enc (ns : List Int) : List Nat := ns.flatMap fun n => digs (zig n)
theorem enc_nil : enc [] = [] := rfl
theorem enc_cons (n : Int) (ns : List Int) : enc (n :: ns) = digs (zig n) ++ enc ns := rfl
theorem enc_snoc (n : Int) (ns : List Int) : enc (ns ++ [n]) = enc ns ++ digs (zig n) := by
  simp [enc, List.flatMap_append]
theorem enc_byte (ns : List Int) : ∀ x ∈ enc ns, x < 256 := by
  intro x hx
  obtain ⟨n, _, h⟩ := List.mem_flatMap.1 hx
  exact digs_byte _ x h
theorem enc_len (ns : List Int) (h : ∀ x ∈ ns, -9223372036854775808 ≤ x ∧ x ≤ 9223372036854775807) : (enc ns).length ≤ 10 * ns.length := by
  induction ns with
  | nil => simp [enc_nil]
  | cons n ns ih =>
    have h1 := digs_le_ten (zig n) (zig_lt n (h n (by simp)).1 (h n (by simp)).2)
    have h2 := ih fun x hx => h x (List.mem_cons_of_mem _ hx)
    rw [enc_cons, List.length_append, List.length_cons]
    omega
theorem Signed_len (A : Option Addr) (l : List Nat) (k c : Nat) (n : Int) (w : World) (hk : l.length = k) (hn : k ≤ c) (hA : Rd w A l) (hb : k ≤ 900000) (h0 : -9223372036854775808 ≤ n) (h1 : n ≤ 9223372036854775807) :
    Calls Try.prog 12 #[.slice A k c, .int .i64 n] w (Out w (l ++ digs (zig n))) := by
  rw [← hk] at hn hb ⊢
  exact Signed_any A l c n w hn hA hb h0 h1
theorem Text_len (A : Option Addr) (l : List Nat) (k c : Nat) (s : ByteArray) (w : World) (hk : l.length = k) (hn : k ≤ c) (hA : Rd w A l) (hb : k ≤ 900000) (h0 : s.size ≤ 1000) :
    Calls Try.prog 14 #[.slice A k c, .string s] w (Out w (l ++ txt s)) := by
  rw [← hk] at hn hb ⊢
  exact Text_any A l c s w hn hA hb h0
set_option maxHeartbeats 2000000 in
theorem walk (a0 : Option Addr) (len0 cap0 : Nat) (z0 : List Int) (a1 : ByteArray) (w : World) (w0 : IsRow .i64 w a0 len0 cap0 z0) (w1 : a1.size ≤ maxLen) :
    Calls Try.prog 4 #[.slice a0 len0 cap0, .string a1] w fun e w' => e = .returned (.bool true) ∧ Below w.heap.size w w' := by
  obtain ⟨ns, hl0, hlc, hcm, hb0, hr0⟩ := IsRow.ints w0
  clear w0
  unfold maxLen at w1 hcm
  obtain ⟨s, hs⟩ : ∃ s : ByteArray, s = if 200 < a1.size then a1.extract 0 200 else a1 := ⟨_, rfl⟩
  have hss : s.size ≤ 200 := by rw [hs]; split <;> first | (simp only [ByteArray.size_extract]; omega) | omega
  have HL := Lib.hid hl0
  have HB := Lib.hid hb0
  have HR := Lib.hid hr0
  clear hl0 hb0 hr0
  by_cases gs : 200 < a1.size
  all_goals
    first | rw [if_pos gs] at hs | rw [if_neg gs] at hs
    have ES := Lib.hid hs.symm
    first | (subst hs; clear ES) | clear hs
    first
      | have hq0 : decide (200 < (a1.size : Int)) = true := decide_eq_true (by omega)
      | have hq0 : decide (200 < (s.size : Int)) = false := decide_eq_false (by omega)
    go_enter Try.func4, Try.ntmps4
    go_wp2_with fail
    try (generalize a1.extract 0 200 = s at hss ⊢)
    clear w1
    go_loopw [5, 6, 7] (fun v c i wr => ∃ (k : Nat) (A : Option Addr) (n cp : Nat), k ≤ 20 ∧ k ≤ len0 ∧ i = .int .i64 k ∧ c = .int .i64 k ∧ v = .slice A n cp ∧ n ≤ cp ∧ n ≤ 10 * k ∧ Hid ((enc (ns.take k)).length = n) ∧ Hid (Rd wr A (enc (ns.take k))) ∧ Hid (Below w.heap.size w wr)) (fun _ _ i _ => 20 - (intOf i).toNat)
    case atStart => exact ⟨0, none, 0, 0, by omega, by omega, rfl, rfl, rfl, Nat.le_refl _, by omega, rfl, Rd.nil _ _, Below.refl _ _⟩
    case round =>
      obtain ⟨k, A, n, cp, hk, hkl, rfl, rfl, rfl, hnc, hn10, HN, HRd, HBl⟩ := hrel
      by_cases hlt : k < 20 ∧ k < len0
      · obtain ⟨hlt1, hlt2⟩ := hlt
        have hq1 : ((k : Nat) : Int) < (len0 : Int) := by omega
        have hkn : k < ns.length := by rw [HL.out]; exact hlt2
        have hne : ns ≠ [] := by rintro rfl; simp at hkn
        obtain ⟨b, off, rfl, hc⟩ := HR.out hne
        have hcw := hc k hkn
        have hcell := (HBl.out.cell (World.block_lt_of_cell? _ _ hcw)).trans hcw
        have hx := HB.out ns[k] (List.getElem_mem hkn)
        have HT : Hid (enc (ns.take (k + 1)) = enc (ns.take k) ++ digs (zig ns[k])) := by show _ = _; rw [← enc_snoc, List.take_succ_eq_append_getElem hkn]
        clear hc hcw
        generalize ns[k] = x at *
        obtain ⟨hx0, hx1⟩ := hx
        go_wp2_with fail
        refine (Signed_len A _ n cp x _ HN.out hnc HRd.out (by omega) hx0 hx1).mono ?_
        intro e w2 ho
        rw [← HT.out] at ho
        obtain ⟨A2, n2, c2, rfl, HL2, hc2, HR2, HB2⟩ := ho.open_
        clear ho
        have hz := digs_le_ten (zig x) (zig_lt x hx0 hx1)
        have hn2 : n2 ≤ 10 * (k + 1) := by rw [← HL2.out, HT.out, List.length_append, HN.out]; omega
        go_wp2_with fail
        go_roundw
        case rel => exact ⟨k + 1, A2, n2, c2, by omega, by omega, by go_num, by go_num, rfl, hc2, hn2, HL2, HR2, HBl.out.trans (HB2.out.mono HBl.out.size)⟩
        case measure => simp [intOf]; omega
      · obtain ⟨v, hv⟩ : ∃ v, v = ns.take k := ⟨_, rfl⟩
        have hvl : v.length = k := by rw [hv, List.length_take, HL.out]; omega
        have hvb : ∀ x ∈ v, -9223372036854775808 ≤ x ∧ x ≤ 9223372036854775807 := by rw [hv]; exact fun x hx => HB.out x (List.mem_of_mem_take hx)
        have hvr : Ri w a0 v := by
          rw [hv]
          intro hne
          have hne' : ns ≠ [] := by rintro rfl; simp at hne
          obtain ⟨b, off, e, hc⟩ := HR.out hne'
          refine ⟨b, off, e, fun i hi => ?_⟩
          rw [List.length_take] at hi
          rw [hc i (by omega), List.getElem_take]
        rw [← hv] at HN HRd
        have VL := Lib.hid hvl
        have VB := Lib.hid hvb
        have VR := Lib.hid hvr
        have hkl2 : k ≤ len0 := hkl
        clear hv hvl hvb hvr HL HB HR
        by_cases h1 : k < len0
        all_goals
          first
            | (have hq1 : ((k : Nat) : Int) < (len0 : Int) := by omega
               have h20 : ¬ k < 20 := by omega
               have hq2 : decide ((k : Int) < 20) = false := decide_eq_false (by omega))
            | have hq1 : decide ((k : Int) < (len0 : Int)) = false := decide_eq_false (by omega)
          clear hlt
          go_wp2_with fail
          refine (Text_len A _ n cp s _ HN.out hnc HRd.out (by omega) (by omega)).mono ?_
          intro e w2 ho
          obtain ⟨A2, n2, c2, rfl, HL2, hc2, HR2, HB2⟩ := ho.open_
          clear ho
          have hn2 : n2 ≤ 10 * k + 210 := by have := txt_le s hss; rw [← HL2.out, List.length_append, HN.out]; omega
          have C2 := Lib.hid (HBl.out.trans (HB2.out.mono HBl.out.size))
          clear HN HRd HBl HB2
          go_wp2_with fail
          refine (Read_len A2 _ n2 c2 _ HL2.out HR2.out (by omega)).mono ?_
          rintro e w3 ⟨g, rfl, hg, HG, HB3⟩
          have hgw : w.heap.size ≤ g := Nat.le_trans C2.out.size hg
          have C3 := Lib.hid (C2.out.trans (HB3.out.mono C2.out.size))
          clear C2 HB3 HR2 HL2
          go_wp2_with fail
          have hkb : (k : Int) ≤ 20 := by omega
          go_loopw [9] (fun i wr => ∃ j : Nat, j ≤ k ∧ i = .int .i64 j ∧ Hid (Rdr wr g (enc (v.drop j) ++ txt s) 0) ∧ Hid (Below w.heap.size w wr)) (fun i _ => 20 - (intOf i).toNat)
          case atStart => exact ⟨0, by omega, rfl, HG.out, C3.out⟩
          case round =>
            clear HG C3
            obtain ⟨j, hj, rfl, hrd, hbl⟩ := hrel
            by_cases hjk : j < k
            · have hjn : j < v.length := by rw [VL.out]; exact hjk
              have hne : v ≠ [] := by rintro rfl; simp at hjn
              obtain ⟨b, off, rfl, hc⟩ := VR.out hne
              have hcw := hc j hjn
              have hlow := World.block_lt_of_cell? _ _ hcw
              have hcell := (hbl.out.cell hlow).trans hcw
              have hx := VB.out v[j] (List.getElem_mem hjn)
              have HD : Hid (Rdr wr g (digs (zig v[j]) ++ (enc (v.drop (j + 1)) ++ txt s)) 0) := by
                show Rdr _ _ _ _
                rw [← List.append_assoc, ← enc_cons, ← List.drop_eq_getElem_cons hjn]; exact hrd.out
              have hdl : ((digs (zig v[j]) ++ (enc (v.drop (j + 1)) ++ txt s)).length ≤ 1000000) := by
                have h1 := digs_le_ten (zig v[j]) (zig_lt _ hx.1 hx.2)
                have h2 := enc_len (v.drop (j + 1)) fun x hx => VB.out x (List.mem_of_mem_drop hx)
                have h3 := txt_le s hss
                rw [List.length_drop, VL.out] at h2
                rw [List.length_append, List.length_append]; omega
              have hdb : ∀ x ∈ digs (zig v[j]) ++ (enc (v.drop (j + 1)) ++ txt s), x < 256 := by
                intro x hx
                rcases List.mem_append.1 hx with h | h
                · exact digs_byte _ x h
                · rcases List.mem_append.1 h with h | h
                  · exact enc_byte _ x h
                  · exact txt_byte s x h
              clear hc hcw hrd
              generalize v[j] = x at *
              obtain ⟨t, ht⟩ : ∃ t, t = enc (v.drop (j + 1)) ++ txt s := ⟨_, rfl⟩
              rw [← ht] at HD hdl hdb
              have HT := Lib.hid ht
              clear ht
              obtain ⟨hx0, hx1⟩ := hx
              have SIGN : ∀ W : World, Rdr W g (digs (zig x) ++ t) 0 → W.cell? ⟨b, off + j, none⟩ = some (.int .i64 x) → Calls Try.prog 18 #[.pointer (some ⟨g, 0, none⟩)] W fun y w' => y = .returned (.int .i64 x) ∧ Hid (Rdr w' g t 0) ∧ w'.cell? ⟨b, off + j, none⟩ = some (.int .i64 x) ∧ Hid (W.grownBy w' (some g)) := fun W hW hcl => by
                refine (Signed_get g _ 0 W hW hdb hdl).mono ?_
                rintro y w' ⟨h1, h2, h3⟩
                rw [numF_whole _ _ _ (zig_lt x hx0 hx1) (by have := zig_lt x hx0 hx1; omega)] at h1 h2
                refine ⟨by rw [h1]; show Ending.returned (.int .i64 (zag (zig x))) = _; rw [zag_zig], h2, ?_, h3⟩
                refine h3.cell hcl fun e => ?_
                injection e with e
                have : b = g := e
                omega
              have HSIGN := Lib.hid SIGN
              clear SIGN hdb hdl
              have hj0 : (0 : Int) ≤ (j : Int) := Int.natCast_nonneg _
              have hj1 : (j : Int) < (len0 : Int) := by omega
              go_wp2_with fail
              go_region_held3 (fun w' => w'.cell? ⟨b, off + j, none⟩ = some (.int .i64 x)) (first | assumption | go_keep)
                (first
                  | (go_at_call 18; refine (HSIGN.out _ ?_ ?_).mono ?_; (first | exact HD.out | exact HD.out.drew | exact HD.out.drewN _); (first | assumption | exact hcell); rintro e w4 ⟨rfl, hd2, hc2, hg2⟩))
              go_wp2_with fail
              go_roundw
              case rel => exact ⟨j + 1, by omega, by go_num, by show Rdr _ _ _ _; rw [← HT.out]; exact hd2.out, Below.turn hbl.out.drew hg2.out hgw⟩
              case measure => simp [intOf]; omega
            · obtain rfl : j = k := by omega
              have hrd0 : Hid (Rdr wr g (txt s) 0) := by
                have := hrd.out
                rw [List.drop_eq_nil_of_le (by rw [VL.out]; omega), enc_nil, List.nil_append] at this
                exact this
              have TX : Hid (textF 200 (txt s) 0 = (sb s, [], 0)) := by
                have := textF_whole s hss []
                rw [List.append_nil] at this
                exact this
              clear hrd VL VB VR
              go_wp2_with fail
              refine (Text_get g _ 0 _ 200 hrd0.out (txt_byte s) (by have := txt_le s hss; omega)).mono ?_
              rintro e w4 ⟨rfl, hd, hgr⟩
              rw [TX.out] at hd ⊢
              have y0 : bs (sb s, ([] : List Nat), 0).1 = s := bs_sb s
              rw [y0]
              have S4 : Hid (Rdr w4 g [] 0) := hd
              have B4 := Lib.hid (Below.turn hbl.out hgr hgw)
              clear hd hgr y0 TX
              go_wp2_with fail
              refine (End_get g [] 0 _ S4.out (by simp)).mono ?_
              rintro e w5 ⟨rfl, rfl⟩
              rw [endF_nil]
              go_wp2_with fail
              refine (Left_get g [] 0 _ S4.out).mono ?_
              rintro e w5 ⟨rfl, rfl⟩
              go_wp2_with fail
              refine (lives_any _).mono ?_
              rintro e w5 ⟨rfl, hb5⟩
              have HB5 := Lib.hid hb5
              clear hb5
              go_wp2_with fail
              go_ret
              exact ⟨rfl, B4.out.trans (HB5.out.mono B4.out.size)⟩

set_option maxRecDepth 100000 in
theorem lifted (os : Os) (started : os.Started) (H : Type) (enc : TypeId × Value → H) :
    ReturnsInHanded {} Try.checked os 4 .any (Rows.layRoundSpec.pre6 enc Try.prog Try.f4 Rows.layRoundRow.domain false) (Rows.layRoundSpec.post enc Try.prog Try.f4 false true false false) := by
  refine returnsInHanded_of_change (C := Try.checked) own started (by kernel_rfl) Try.func4
    (ChangeSpec.witness6 (enc := enc) (C := Try.checked) false ⟨#[], #[.slice none 0 0, .string ByteArray.empty], []⟩ 8 (by kernel_rfl) (by kernel_rfl) (by kernel_rfl) (by kernel_rfl)) ?_
  intro W base args ds gs before hval0 hW hcnd _
  have hval : ∀ (j : Nat) t v, Try.f4.params[j]? = some t → args[j]? = some v → Value.okWide Try.prog W .any base t v := hval0
  have hW' := hW
  obtain ⟨p, q, hA0, hV, rfl, hfz, hnd⟩ := hW
  have hA : DataW.TrodAll enc Try.prog W 0 (fun _ => true) true Try.f4.params.toList args.toList ds p := hA0
  rw [Try.params4] at hA hval
  obtain ⟨v0, vs0, d0, ds0, p0, q0, hargs, rfl, rfl, h0, r0⟩ := trodAll_cons hA
  obtain ⟨v1, vs1, d1, ds1, p1, q1, rfl, rfl, rfl, h1, r1⟩ := trodAll_cons r0
  obtain ⟨rfl, rfl, rfl⟩ := trodAll_nil r1
  obtain rfl : args = #[v0, v1] := by cases args; simp_all
  obtain ⟨rfl, rfl⟩ := trodVars_none hV
  obtain ⟨a0, len0, cap0, rfl⟩ := okWide_slice Try.underlying30 (hval 0 30 v0 rfl rfl)
  have k0 := h0
  have lt0 : ∀ x ∈ p0, x.block < W.heap.size := by obtain ⟨m, hm⟩ := k0; exact DataW.trod_lt m _ _ _ hm
  obtain ⟨z0, w0⟩ : ∃ zs, IsRow .i64 W a0 len0 cap0 zs := by
    obtain ⟨fuel, hf⟩ := h0
    rcases open_ints Try.underlying30 Try.underlying3 (by kernel_rfl) hf with ⟨hcs, _⟩ | ⟨x, l, c, zs, hcs, _, hl, hm, hz, _, hcell, hwz⟩
    · simp [Value.cells] at hcs
      obtain ⟨rfl, rfl, rfl⟩ := hcs
      exact ⟨[], .inl ⟨rfl, rfl, rfl, rfl⟩⟩
    · simp [Value.cells] at hcs
      obtain ⟨rfl, rfl, rfl⟩ := hcs
      exact ⟨zs, .inr ⟨_, rfl, hl, hm, by simpa using hz, hcell, hwz⟩⟩
  obtain ⟨a1, rfl, rfl, rfl, w1⟩ := open_string Try.underlying9 (hval 1 9 v1 rfl rfl) h1
  clear hA0 hval0
  refine (walk a0 len0 cap0 z0 a1 W w0 w1).mono fun e W' ⟨he, bel⟩ => ?_
  subst he
  exact ⟨_, rfl, _, _, _, [], _, [], hW', trodAll_mk1 (shut_bool Try.underlying4 _), (trodAll_cons_mk (Below.trod laidOut (by kernel_rfl) (of_decide_eq_true (by kernel_rfl)) k0 bel lt0) (trodAll_cons_mk (shut_string Try.underlying9 w1) trodAll_mk0)), rfl, bel.frame _, fun h => by cases h⟩

theorem over : Rows.layRoundRow.holds Try.pinned (OpenSpec.ofChange Rows.layRoundSpec) :=
  OpenClaim.holds_of_wide 4 Try.f4 rfl rfl rfl rfl rfl rfl rfl ⟨rfl, rfl, rfl, rfl, rfl⟩ rfl rfl rfl rfl rfl (by kernel_rfl) Try.func4 (by kernel_rfl)
    (of_decide_eq_true (by kernel_rfl)) (by unfold Func.isWrapper; first | (rw [if_pos (by decide +kernel)]; kernel_rfl) | (rw [if_neg (by decide +kernel)]; exact ⟨rfl, rfl⟩))
    (fun os started H enc _ => lifted os started H enc)

theorem proved : Rows.LayRoundSaid := over
#print axioms proved
end Go.Proofs.Ythkpbkkgjeecnaa.layRound
