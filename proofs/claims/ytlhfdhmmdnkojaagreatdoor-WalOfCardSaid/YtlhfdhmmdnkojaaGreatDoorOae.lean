/-
  Put together, as far as it is used: WvR, WvX, Col, Qa, Qb, Qc, Qd, Qf, Qj, WvC, Qe, WvW, WvE, WvF.
-/
import Derived.Test.YtlhfdhmmdnkojaaGreatDoorOad
import Derived.Test.YtlhfdhmmdnkojaaGreatDoorOab
import Derived.RegionTactic
import Derived.Deep.QuietTactic
import Derived.BigQuiet
import Derived.Lib.ValidLaws
import Derived.Lib.AppendZerosOnto
import Derived.Laws.AppendOwnNone
import Derived.Deep.RegionHeld3
import Derived.Test.YtlhfdhmmdnkojaaGreatDoorShelf
import Derived.Laws.ResultCell
import Derived.OwnWalk
import Derived.Maps.AppendAt
import Derived.Laws.OwnMore
namespace Go.Proofs.YtlhfdhmmdnkojaaGreatDoor
open Go.RowKit Go.Shelf Go.Maps Dg
set_option maxRecDepth 100000
set_option linter.unusedVariables false
theorem pt_byte (x y z : Int) (T : List Wk) : ∀ b ∈ ptB x y z T, b < 256 := by
  intro b hb
  unfold ptB numsB worksB at hb
  rcases List.mem_append.1 hb with h | h
  · rcases List.mem_append.1 h with h | h
    · rcases List.mem_append.1 h with h | h
      · rcases List.mem_append.1 h with h | h
        · exact digs_byte _ b h
        · exact digs_byte _ b h
      · exact digs_byte _ b h
    · exact digs_byte _ b h
  · obtain ⟨x, hx, hb⟩ := List.mem_flatMap.1 h
    unfold wkB at hb
    rcases List.mem_append.1 hb with h | h
    · exact ytxt_byte _ b h
    · rcases List.mem_append.1 h with h | h
      · cases hd : x.d <;> simp [hd] at h <;> omega
      · exact ytxt_byte _ b h
theorem left14_any (g : Nat) (l : List Nat) (e : Nat) (w : World) (h : Rdr w g l e) :
    Calls Tryz.prog 86 #[.pointer (some ⟨g, 0, none⟩)] w fun x w' => x = .returned (.int .i64 l.length) ∧ w = w' := by
  obtain ⟨A, c, hh, hn, hr⟩ := h
  have HH := Lib.hid hh
  clear hh hr
  have c0 := HH.out.cell 0
  simp at c0
  go_enter Tryz.func86, Tryz.ntmps86
  go_wp2_with fail
  go_ret
  exact ⟨rfl, rfl⟩
/-- What is asked of a way that does not panic. -/
def noPanic (Q : Exit → Act → World → Prop) : Exit → Act → World → Prop
  | .panic _, _, _ => False
  | e, a, w => Q e a w
theorem wpIn_noPanic {c : Code} {F : Fence} {n : Nat} {P : Program} {Q : Exit → Act → World → Prop} {a : Act} {w : World} (h : c.wpIn F n P (noPanic Q) a w) : c.wpIn F n P Q a w :=
  wpIn_mono h (by intro e a W h; cases e <;> first | exact h | exact h.elim)
theorem ownW_tur {X : List Nat} {B : Nat} {w w' : World} {v : Value} {T : List Wk} (h : OwnW B w v T) (ht : Tur X w w') (hx : ∀ g, v.ownBlock = some g → g ∉ X) : OwnW B w' v T := by
  rcases h.2 with ⟨hv, hn⟩ | ⟨g, cap, cur, hv, hg, hh, hc, hcm, hsz, htk⟩
  · exact ⟨h.1, .inl ⟨hv, hn⟩⟩
  · exact ⟨h.1, .inr ⟨g, cap, cur, hv, hg, Has.tur (t := 143) (cs := cur) hh ht (hx g (by rw [hv]; rfl)), hc, hcm, hsz, htk⟩⟩
theorem results_ccc {fn : Func} {p0 p1 p2 : Tmp} {t0 t1 t2 : TypeId} (h : fn.results = #[.cell p0 t0, .cell p1 t1, .cell p2 t2]) (tmps : Array Value) (P : Program) (w : World) :
    (results fn tmps).run P w = ((asAddr (tmps.getD p0 undef)).run P w).andThen fun a w₁ => ((loadVar t0 a).run P w₁).andThen fun v w₂ => ((asAddr (tmps.getD p1 undef)).run P w₂).andThen fun a2 w₃ => ((loadVar t1 a2).run P w₃).andThen fun v2 w₄ => ((asAddr (tmps.getD p2 undef)).run P w₄).andThen fun a3 w₅ => ((loadVar t2 a3).run P w₅).andThen fun v3 w₆ => .ok (.tuple #[v, v2, v3]) w₆ := by
  simp only [results, h]
  simp [Sem.run_bind, Result.andThen]
  try (split <;> first | rfl | (simp [Result.andThen]; done) | skip)
theorem rd_tail {w : World} {A : Option Addr} {x : Nat} {l : List Nat} (h : Rd w A (x :: l)) : ∃ b off, A = some ⟨b, off, none⟩ ∧ Rd w (some ⟨b, off + 1, none⟩) l := by
  obtain ⟨b, off, e, hc⟩ := h (by simp)
  refine ⟨b, off, e, fun hl => ⟨b, off + 1, rfl, fun i hi => ?_⟩⟩
  have := hc (i + 1) (by simpa using hi)
  rw [show off + 1 + i = off + (i + 1) by omega, this]
  simp
set_option maxHeartbeats 4000000 in
theorem wread0_any (X Y Z : Nat) (T : List Wk) (Al : Option Addr) (nl cl : Nat) (A : Option Addr) (n c : Nat) (w : World) (hr : Rd w A (0 :: ptB (X : Int) (Y : Int) (Z : Int) T)) (hn : (ptB (X : Int) (Y : Int) (Z : Int) T).length + 1 = n) (hnc : n ≤ c) (hlen : n ≤ 1000000) (hx : X ≤ 9223372036854775807) (hy : Y ≤ 9223372036854775807) (hz : Z ≤ 9223372036854775807) (hT : T.length ≤ 6) (hS : ∀ x ∈ T, x.t.size ≤ 32 ∧ x.k.size ≤ 900) (hTb : Tabs w) (hok : ptOk (X : Int) (Y : Int) (Z : Int) T = true) :
    Calls Tryz.prog 37 #[.slice Al nl cl, .slice A n c] w fun e w' => ∃ v, e = .returned (.tuple #[.slice none 0 0, .agg #[.int .i64 (X : Int), .int .i64 (Y : Int), .int .i64 (Z : Int), v], .int .i64 0]) ∧ Hid (OwnW w.heap.size w' v T) ∧ Hid (Below w.heap.size w w') := by
  have b1 : Below w.heap.size w (((w.alloc (.cells #[.slice none 0 0] 55)).alloc (.cells #[.int .i64 0, .int .i64 0, .int .i64 0, .slice none 0 0] 67)).alloc (.cells #[.int .i64 0] 38)) := (((Below.refl _ w).alloc (Nat.le_refl _) _).alloc (by simp) _).alloc (by simp; omega) _
  have hp : Has (((w.alloc (.cells #[.slice none 0 0] 55)).alloc (.cells #[.int .i64 0, .int .i64 0, .int .i64 0, .slice none 0 0] 67)).alloc (.cells #[.int .i64 0] 38)) w.heap.size 55 #[.slice none 0 0] := ((Has.new w _ _).alloc _).alloc _
  have hq : Has (((w.alloc (.cells #[.slice none 0 0] 55)).alloc (.cells #[.int .i64 0, .int .i64 0, .int .i64 0, .slice none 0 0] 67)).alloc (.cells #[.int .i64 0] 38)) (w.heap.size + 1) 67 #[.int .i64 0, .int .i64 0, .int .i64 0, .slice none 0 0] := by
    have h := Has.new (w.alloc (.cells #[.slice none 0 0] 55)) 67 #[.int .i64 0, .int .i64 0, .int .i64 0, .slice none 0 0]
    rw [World.size_alloc] at h
    exact h.alloc _
  have ho : Has (((w.alloc (.cells #[.slice none 0 0] 55)).alloc (.cells #[.int .i64 0, .int .i64 0, .int .i64 0, .slice none 0 0] 67)).alloc (.cells #[.int .i64 0] 38)) (w.heap.size + 1 + 1) 38 #[.int .i64 0] := by
    have h := Has.new ((w.alloc (.cells #[.slice none 0 0] 55)).alloc (.cells #[.int .i64 0, .int .i64 0, .int .i64 0, .slice none 0 0] 67)) 38 #[.int .i64 0]
    rw [World.size_alloc, World.size_alloc] at h
    exact h
  obtain ⟨k, hk⟩ : ∃ k : Nat, Hid (k = 3) := ⟨3, rfl⟩
  refine (callsIn_wide (n := k)).1 ?_
  have hro : Fence.wide.round = none := rfl
  have hdd : ∀ k : Nat, (Fence.wide.depth.isSome = true → 1 ≤ k) := fun k h => by cases h
  refine callsIn_of_wp_marks Tryz.func37 rfl trivial ?_ rfl
  simp only [Tryz.ntmps37, List.size_toArray, List.length_cons, List.length_nil, Nat.reduceAdd, Nat.reduceSub, Array.replicate_succ, Array.replicate_zero, List.push_toArray, List.append_toArray, List.nil_append, List.cons_append]
  have hpos : 0 < (ptB (X : Int) (Y : Int) (Z : Int) T).length := by
    unfold ptB numsB
    have := digs_pos ((X : Int).toNat)
    simp only [List.length_append]
    omega
  have h256 := pt_byte (X : Int) (Y : Int) (Z : Int) T
  have HPR := Lib.hid (fun (A' : Option Addr) (c' : Nat) (W : World) (hr' : Rd W A' (ptB (X : Int) (Y : Int) (Z : Int) T)) (hT' : Tabs W) => pread_any X Y Z T A' (n - 1) c' W hr' (by omega) (by omega) h256 hx hy hz hT hS hT' hok)
  obtain ⟨PB, hPB⟩ : ∃ l, ptB (X : Int) (Y : Int) (Z : Int) T = l := ⟨_, rfl⟩
  rw [hPB] at hr hn hpos h256 HPR
  clear hPB
  obtain ⟨bA, off, rfl, hrt⟩ := rd_tail hr
  have hrd := Lib.hid hr
  gi_wp2
  obtain ⟨W1, hW1⟩ : ∃ W, W = (((w.alloc (.cells #[.slice none 0 0] 55)).alloc (.cells #[.int .i64 0, .int .i64 0, .int .i64 0, .slice none 0 0] 67)).alloc (.cells #[.int .i64 0] 38)) := ⟨_, rfl⟩
  rw [← hW1] at b1 hp hq ho ⊢
  clear hW1
  refine ⟨trivial, hdd _, ?_⟩
  refine (callsIn_wide.2 (Read_len (some ⟨bA, off, none⟩) (0 :: PB) n c W1 (by simpa using hn) (hrd.out.below b1) (by omega))).mono ?_
  rintro e w2 ⟨g, rfl, hg0, hr1, hb2⟩
  have HRD := Lib.hid hr1
  have HP := Lib.hid (hp.below hb2.out hp.lt)
  have HQ := Lib.hid (hq.below hb2.out hq.lt)
  have HO := Lib.hid (ho.below hb2.out ho.lt)
  have HB2 := Lib.hid (b1.trans (hb2.out.mono b1.size))
  have HA2 := Lib.hid ((hrt.below b1).below hb2.out)
  have HTB := Lib.hid (hTb.below (b1.trans (hb2.out.mono b1.size)))
  obtain ⟨D, hD⟩ : ∃ D, w2.heap.size = D := ⟨_, rfl⟩
  have hgD : g < D := by obtain ⟨_, _, hh, _⟩ := hr1.out; rw [← hD]; exact hh.lt
  have HR2 := Lib.hid (hr1.out.dd)
  rw [hD] at HR2
  have hb3 : Below w2.heap.size w2 (w2.alloc (.cells #[.slice none 0 0] 55)) := (Below.refl _ w2).alloc (Nat.le_refl _) _
  have HX3 := Lib.hid (Has.new w2 55 #[.slice none 0 0])
  have HP3 := Lib.hid (HP.out.below hb3 HP.out.lt)
  have HQ3 := Lib.hid (HQ.out.below hb3 HQ.out.lt)
  have HO3 := Lib.hid (HO.out.below hb3 HO.out.lt)
  have HB3 := Lib.hid (HB2.out.trans (hb3.mono HB2.out.size))
  have HR3 := Lib.hid (HR2.out.al hgD (by omega) (.cells #[.slice none 0 0] 55))
  have hs1 : W1.heap.size ≤ g := hg0
  have hsw : w.heap.size + 1 + 1 < W1.heap.size := ho.lt
  clear hr1 HRD HR2 HP HQ HO HB2 HA2 HTB hp hq ho b1
  gi_wp2
  obtain ⟨W3, hW3⟩ : ∃ W, W = w2.alloc (.cells #[.slice none 0 0] 55) := ⟨_, rfl⟩
  have hs3 : D < W3.heap.size := by rw [hW3, ← hD]; simp
  rw [← hW3] at HX3 HP3 HQ3 HO3 HB3 HR3 ⊢
  clear hW3 hb3
  rw [hD] at HX3
  refine ⟨trivial, hdd _, ?_⟩
  have HR3' : Hid (RdrD D W3 g (digs 0 ++ PB) 0) := by rw [digs_zero]; exact HR3.out
  have h256' : ∀ x ∈ digs 0 ++ PB, x < 256 := by rw [digs_zero]; intro x hx; rcases List.mem_append.1 hx with h | h; simp at h; omega; exact h256 x h
  refine (callsIn_wide.2 (numD_put g 0 PB W3 HR3'.out (by omega) h256' (by rw [digs_zero]; simp; omega))).mono ?_
  rintro e w4 ⟨rfl, hr4, hg4⟩
  have hb4 : Below W1.heap.size W3 w4 := (Below.refl W1.heap.size W3).grown hg4.out (by omega) (fun k hk => by injection hk with hk; omega)
  have HX4 := Lib.hid (HX3.out.grn hg4.out (by omega))
  have HP4 := Lib.hid (HP3.out.below hb4 (by omega))
  have HQ4 := Lib.hid (HQ3.out.below hb4 (by omega))
  have HO4 := Lib.hid (HO3.out.below hb4 (by omega))
  have HB4 := Lib.hid (HB3.out.trans (hb4.mono (by omega)))
  have hs4 : D < w4.heap.size := Nat.lt_of_lt_of_le hs3 hg4.out.size
  clear HX3 HP3 HQ3 HO3 HB3 HR3 HR3' hb4 hg4
  gi_wp2
  refine ⟨trivial, hdd _, ?_⟩
  refine (callsIn_wide.2 (standing_any w4 g)).mono ?_
  rintro e w5 ⟨rfl, hw5⟩
  have hb5 : Below w4.heap.size w4 w5 := by rw [hw5]; exact (Below.refl _ w4).alloc (Nat.le_refl _) _
  clear hw5
  gi_wp2
  refine ⟨trivial, hdd _, ?_⟩
  refine (callsIn_wide.2 (moments_any w5 Al nl cl 0 _ _)).mono ?_
  rintro e w6 ⟨rfl, hw6⟩
  have hb6 : Below w5.heap.size w5 w6 := by rw [hw6]; exact (((Below.refl _ w5).alloc (Nat.le_refl _) _).alloc (by simp) _).alloc (by simp; omega) _
  have ha6 : Has w6 w5.heap.size 22 #[.slice Al nl cl] := by rw [hw6]; exact ((Has.new w5 _ _).alloc _).alloc _
  have hc6 : Has w6 (w5.heap.size + 1) 3 #[.int .i64 0] := by
    have h := Has.new (w5.alloc (.cells #[.slice Al nl cl] 22)) 3 #[.int .i64 0]
    rw [World.size_alloc] at h
    rw [hw6]
    exact h.alloc _
  clear hw6
  have hb56 := hb5.trans (hb6.mono hb5.size)
  gi_wp2
  refine wp_tells (xs := ([] : List Empty)) rfl rfl (gf := 127) (by rfl) trivial (enters_of Tryz.func127 (by kernel_rfl) rfl)
    (it0_tells w6 w5.heap.size (w5.heap.size + 1) (w5.heap.size + 2) Al nl cl ha6 hc6) (Nat.le_refl _) (fun _ _ => rfl) (by rintro c (rfl | rfl); exact ha6.lt; exact hc6.lt) (fun x => x.elim)
    (fun p Y U => Y = [] ∧ Below w6.heap.size w6 U)
    (fun c p Y U => False)
    (fun p Y U U' Z h ht hz => ⟨h.1, h.2.trans (ht.below (fun b hb => (hz b hb).1) h.2.size)⟩)
    (fun c p Y U U' Z h ht hz => h)
    (fun p Y U h b hb => by rw [h.1] at hb; cases hb)
    [] (by simp) ⟨rfl, Below.refl _ _⟩ ?loop ?done ?stop
  case loop => exact ⟨fun x => x.elim, fun _ _ x => x.elim, fun _ _ _ x => x.elim⟩
  case stop => rintro D c p Y U hD ⟨⟩
  case done =>
    rintro E Z0 U hE ⟨_, hbu⟩ _ hDd
    have hbU := hb56.trans (hbu.mono hb56.size)
    have HX7 := Lib.hid (HX4.out.below hbU HX4.out.lt)
    have HP7 := Lib.hid (HP4.out.below hbU HP4.out.lt)
    have HQ7 := Lib.hid (HQ4.out.below hbU HQ4.out.lt)
    have HO7 := Lib.hid (HO4.out.below hbU HO4.out.lt)
    have HB7 := Lib.hid (HB4.out.trans (hbU.mono HB4.out.size))
    have HR7 := Lib.hid (hr4.out.keep hgD (hbU.mono (by omega)))
    have hE4 : w4.heap.size ≤ E := Nat.le_trans hb56.size hE
    clear HX4 HP4 HQ4 HO4 HB4 hr4
    have hsub : (n : Int) - (PB.length : Int) = 1 := by omega
    have hlnn : ((PB.length : Nat) : Int) = (n : Int) - 1 := by omega
    have hcn : n ≠ 0 := by omega
    gi_wp2
    refine ⟨trivial, hdd _, ?_⟩
    refine (callsIn_wide.2 (left14_any g PB 0 U HR7.out.rdr)).mono ?_
    rintro e w8 ⟨rfl, rfl⟩
    rw [hlnn]
    gi_wp2
    have hn1 : n - (n - 1) = 1 := by omega
    rw [hn1]
    refine ⟨trivial, hdd _, ?_⟩
    have hBU := Lib.hid HB7.out
    refine (callsIn_wide.2 (HPR.out (some ⟨bA, off + 1, none⟩) (c - 1) U (hrt.below HB7.out) (hTb.below HB7.out))).mono ?_
    rintro e w9 ⟨v9, rfl, ho9, hb9⟩
    obtain ⟨A9, n9, c9, rfl, _, _, _, _, _⟩ := ownW_open ho9.out
    have hb10 : Below w9.heap.size w9 (w9.alloc (.cells #[.int .i64 (X : Int), .int .i64 (Y : Int), .int .i64 (Z : Int), .slice A9 n9 c9] 67)) := (Below.refl _ w9).alloc (Nat.le_refl _) _
    have hbx := hb9.out.trans (hb10.mono hb9.out.size)
    have HV10 := Lib.hid (Has.new w9 67 #[.int .i64 (X : Int), .int .i64 (Y : Int), .int .i64 (Z : Int), .slice A9 n9 c9])
    have HX10 := Lib.hid (HX7.out.below hbx HX7.out.lt)
    have HP10 := Lib.hid (HP7.out.below hbx HP7.out.lt)
    have HQ10 := Lib.hid (HQ7.out.below hbx HQ7.out.lt)
    have HO10 := Lib.hid (HO7.out.below hbx HO7.out.lt)
    have HB10 := Lib.hid (HB7.out.trans (hbx.mono HB7.out.size))
    have HXn : D < w9.heap.size := Nat.lt_of_lt_of_le HX7.out.lt hb9.out.size
    have hEl : E < U.heap.size := (Array.getElem?_eq_some_iff.1 hDd).1
    have hDU : D ≤ U.heap.size := by have := hbU.size; omega
    have HR10 := Lib.hid (HR7.out.keep hgD (hbx.mono hDU))
    have HT10 := Lib.hid (ho9.out.below hb10)
    have hd10 := (hbx.block E hEl).trans hDd
    clear HX7 HP7 HQ7 HO7 HB7 HR7 HPR hBU ho9
    gi_wp2
    obtain ⟨W10, hW10⟩ : ∃ W, W = (w9.alloc (.cells #[.int .i64 (X : Int), .int .i64 (Y : Int), .int .i64 (Z : Int), .slice A9 n9 c9] 67)) := ⟨_, rfl⟩
    rw [← hW10] at HV10 HX10 HP10 HQ10 HO10 HB10 HR10 HT10 hd10 ⊢
    clear hW10
    refine ⟨trivial, hdd _, ?_⟩
    refine (callsIn_wide.2 (Errno_get g PB 0 W10 HR10.out.rdr)).mono ?_
    rintro e w11 ⟨rfl, rfl⟩
    gi_wp2
    rename_i hKr
    refine wpIn_noPanic ?_
    refine wpIn_wide.2 ?_
    obtain ⟨wd, hwd⟩ : ∃ W, W = W10.drew := ⟨_, rfl⟩
    have hbd : Below W10.heap.size W10 wd := by rw [hwd]; exact (Below.refl _ W10).drew
    have HXd := Lib.hid (HX10.out.below hbd HX10.out.lt)
    have HVd := Lib.hid (HV10.out.below hbd HV10.out.lt)
    have HPd := Lib.hid (HP10.out.below hbd HP10.out.lt)
    have HQd := Lib.hid (HQ10.out.below hbd HQ10.out.lt)
    have HOd := Lib.hid (HO10.out.below hbd HO10.out.lt)
    have HTd := Lib.hid (HT10.out.below hbd)
    have HBd := Lib.hid (HB10.out.trans (hbd.mono HB10.out.size))
    have hEl10 : E < W10.heap.size := (Array.getElem?_eq_some_iff.1 hd10).1
    have hdd10 := (hbd.block E hEl10).trans hd10
    have hSd : (fun V : World => V.cell? ⟨D, 0, none⟩ = some (.slice none 0 0) ∧ V.cell? ⟨w9.heap.size, 0, none⟩ = some (.int .i64 (X : Int)) ∧ V.cell? ⟨w9.heap.size, 1, none⟩ = some (.int .i64 (Y : Int)) ∧ V.cell? ⟨w9.heap.size, 2, none⟩ = some (.int .i64 (Z : Int)) ∧ V.cell? ⟨w9.heap.size, 3, none⟩ = some (.slice A9 n9 c9)) wd := ⟨HXd.out.cell 0, HVd.out.cell 0, HVd.out.cell 1, HVd.out.cell 2, HVd.out.cell 3⟩
    refine wp_region_held_drew (S := (fun V : World => V.cell? ⟨D, 0, none⟩ = some (.slice none 0 0) ∧ V.cell? ⟨w9.heap.size, 0, none⟩ = some (.int .i64 (X : Int)) ∧ V.cell? ⟨w9.heap.size, 1, none⟩ = some (.int .i64 (Y : Int)) ∧ V.cell? ⟨w9.heap.size, 2, none⟩ = some (.int .i64 (Z : Int)) ∧ V.cell? ⟨w9.heap.size, 3, none⟩ = some (.slice A9 n9 c9))) (by kernel_rfl) (hwd ▸ hSd) (fun _ => ?_)
    rw [← hwd]
    clear hwd hbd
    (refine wpAnyH_take (i := 0) (v := ?_) rfl (by kernel_rfl) (by kernel_rfl) (by kernel_rfl) (fun _ _ _ h => h) (Or.inl ⟨by rfl, ?_⟩) (by assumption) ?_; rotate_left; (intro w hSw; (try dsimp only at hSw); go_simp; try with_reducible rfl); ((try simp only [List.getElem_toArray]); (try simp only [List.getElem_cons_succ]); (try simp only [List.getElem_cons_zero]); (try simp only [Act.put]); (try simp only [List.setIfInBounds_toArray]); (try simp only [List.set_cons_succ]); (try simp only [List.set_cons_zero])))
    (refine wpAnyH_take (i := 1) (v := ?_) rfl (by kernel_rfl) (by kernel_rfl) (by kernel_rfl) (fun _ _ _ h => h) (Or.inl ⟨by rfl, ?_⟩) (by assumption) ?_; rotate_left; (intro w hSw; (try dsimp only at hSw); go_simp; try with_reducible rfl); ((try simp only [List.getElem_toArray]); (try simp only [List.getElem_cons_succ]); (try simp only [List.getElem_cons_zero]); (try simp only [Act.put]); (try simp only [List.setIfInBounds_toArray]); (try simp only [List.set_cons_succ]); (try simp only [List.set_cons_zero])))
    have f2 := HPd.out.free 0
    have g2 := HPd.out.cell 0
    have nD : w.heap.size + 1 + 1 < D := by omega
    have nW : D < w9.heap.size := HXn
    have hX2 := HXd.out.far (p := ⟨w.heap.size, 0, none⟩) (by show D ≠ w.heap.size; omega) (.slice none 0 0)
    have hV2 := HVd.out.far (p := ⟨w.heap.size, 0, none⟩) (by show w9.heap.size ≠ w.heap.size; omega) (.slice none 0 0)
    have hQ2 := HQd.out.far (p := ⟨w.heap.size, 0, none⟩) (by show w.heap.size + 1 ≠ w.heap.size; omega) (.slice none 0 0)
    have hO2 := HOd.out.far (p := ⟨w.heap.size, 0, none⟩) (by show w.heap.size + 1 + 1 ≠ w.heap.size; omega) (.slice none 0 0)
    have hP2 := HPd.out.put 0 (.slice none 0 0)
    refine wpAnyH_ready (rs := [2]) (by kernel_rfl) (by simp) ?_
    refine AllReadyH.cons rfl (fun K2 hK2 => ?_) AllReadyH.nil
    go_simp
    obtain ⟨W2, hW2⟩ : ∃ W, W = wd.setCell ⟨w.heap.size, 0, none⟩ (.slice none 0 0) := ⟨_, rfl⟩
    have t2 : Tur [w.heap.size] wd W2 := by rw [hW2]; exact Tur.setCell wd (p := ⟨w.heap.size, 0, none⟩) (by simp) _
    rw [← hW2] at hX2 hV2 hQ2 hO2 hP2 ⊢
    clear hW2
    refine hK2.out _ _ (by (try dsimp only); exact ⟨hX2.cell 0, hV2.cell 0, hV2.cell 1, hV2.cell 2, hV2.cell 3⟩) (fun _ => ?_)
    clear hK2 K2 f2 g2
    (try simp only [List.getElem_toArray]); (try simp only [List.getElem_cons_succ]); (try simp only [List.getElem_cons_zero]); (try simp only [Act.put]); (try simp only [List.setIfInBounds_toArray]); (try simp only [List.set_cons_succ]); (try simp only [List.set_cons_zero])
    have q0 := hQ2.free 0
    have r0 := hQ2.cell 0
    have u1 := hQ2.put 0 (.int .i64 (X : Int))
    have q1 := u1.free 1
    have r1 := u1.cell 1
    have u2 := u1.put 1 (.int .i64 (Y : Int))
    have q2 := u2.free 2
    have r2 := u2.cell 2
    have u3 := u2.put 2 (.int .i64 (Z : Int))
    have q3 := u3.free 3
    have r3 := u3.cell 3
    have u4 := u3.put 3 (.slice A9 n9 c9)
    have t3 : Tur [w.heap.size + 1] W2 ((((W2.setCell ⟨w.heap.size + 1, 0, none⟩ (.int .i64 (X : Int))).setCell ⟨w.heap.size + 1, 1, none⟩ (.int .i64 (Y : Int))).setCell ⟨w.heap.size + 1, 2, none⟩ (.int .i64 (Z : Int))).setCell ⟨w.heap.size + 1, 3, none⟩ (.slice A9 n9 c9)) := (((Tur.setCell W2 (p := ⟨w.heap.size + 1, 0, none⟩) (by simp) _).trans (Tur.setCell _ (p := ⟨w.heap.size + 1, 1, none⟩) (by simp) _) (Fre.refl _ _)).trans (Tur.setCell _ (p := ⟨w.heap.size + 1, 2, none⟩) (by simp) _) (Fre.refl _ _)).trans (Tur.setCell _ (p := ⟨w.heap.size + 1, 3, none⟩) (by simp) _) (Fre.refl _ _)
    refine wpAnyH_ready (rs := [3]) (by kernel_rfl) (by simp) ?_
    refine AllReadyH.cons rfl (fun K2 hK2 => ?_) AllReadyH.nil
    go_simp
    obtain ⟨W3b, hW3b⟩ : ∃ W, W = ((((W2.setCell ⟨w.heap.size + 1, 0, none⟩ (.int .i64 (X : Int))).setCell ⟨w.heap.size + 1, 1, none⟩ (.int .i64 (Y : Int))).setCell ⟨w.heap.size + 1, 2, none⟩ (.int .i64 (Z : Int))).setCell ⟨w.heap.size + 1, 3, none⟩ (.slice A9 n9 c9)) := ⟨_, rfl⟩
    have HQ3 : Hid (Has W3b (w.heap.size + 1) 67 #[.int .i64 (X : Int), .int .i64 (Y : Int), .int .i64 (Z : Int), .slice A9 n9 c9]) := by rw [hW3b]; exact u4
    rw [← hW3b] at t3 ⊢
    clear hW3b q0 r0 u1 q1 r1 u2 q2 r2 u3 q3 r3 u4
    have hX3 := hX2.tur t3 (by simp; omega)
    have hV3 := hV2.tur t3 (by simp; omega)
    have hO3 := hO2.tur t3 (by simp; try omega)
    have hP3 := hP2.tur t3 (by simp; try omega)
    refine hK2.out _ _ (by (try dsimp only); exact ⟨hX3.cell 0, hV3.cell 0, hV3.cell 1, hV3.cell 2, hV3.cell 3⟩) (fun _ => ?_)
    clear hK2 K2
    (try simp only [List.getElem_toArray]); (try simp only [List.getElem_cons_succ]); (try simp only [List.getElem_cons_zero]); (try simp only [Act.put]); (try simp only [List.setIfInBounds_toArray]); (try simp only [List.set_cons_succ]); (try simp only [List.set_cons_zero])
    have f4 := hO3.free 0
    have g4 := hO3.cell 0
    have t4 : Tur [w.heap.size + 1 + 1] W3b (W3b.setCell ⟨w.heap.size + 1 + 1, 0, none⟩ (.int .i64 0)) := Tur.setCell W3b (p := ⟨w.heap.size + 1 + 1, 0, none⟩) (by simp) _
    have hO4 := hO3.put 0 (.int .i64 0)
    refine wpAnyH_ready (rs := [4]) (by kernel_rfl) (by simp) ?_
    refine AllReadyH.cons rfl (fun K2 hK2 => ?_) AllReadyH.nil
    go_simp
    obtain ⟨W4b, hW4b⟩ : ∃ W, W = W3b.setCell ⟨w.heap.size + 1 + 1, 0, none⟩ (.int .i64 0) := ⟨_, rfl⟩
    have HO4 : Hid (Has W4b (w.heap.size + 1 + 1) 38 #[.int .i64 0]) := by rw [hW4b]; exact hO4
    rw [← hW4b] at t4 ⊢
    clear hW4b f4 g4 hO4
    have hX4 := hX3.tur t4 (by simp; omega)
    have hV4 := hV3.tur t4 (by simp; omega)
    have hP4 := hP3.tur t4 (by simp; try omega)
    have hQ4 := HQ3.out.tur t4 (by simp; try omega)
    refine hK2.out _ _ (by (try dsimp only); exact ⟨hX4.cell 0, hV4.cell 0, hV4.cell 1, hV4.cell 2, hV4.cell 3⟩) (fun _ => ?_)
    clear hK2 K2
    (try simp only [List.getElem_toArray]); (try simp only [List.getElem_cons_succ]); (try simp only [List.getElem_cons_zero]); (try simp only [Act.put]); (try simp only [List.setIfInBounds_toArray]); (try simp only [List.set_cons_succ]); (try simp only [List.set_cons_zero])
    refine wpAnyH_done (by kernel_rfl) ?_ _
    refine hKr _ _ ?_
    gi_wp2
    have hsE : w.heap.size + 1 + 1 < E := by omega
    have hdE : W4b.heap[E]? = some (.deferred (some [])) := by
      have e2 := (t2.block E (Array.getElem?_eq_some_iff.1 hdd10).1 (by simp; omega)).trans hdd10
      have e3 := (t3.block E (Array.getElem?_eq_some_iff.1 e2).1 (by simp; omega)).trans e2
      exact (t4.block E (Array.getElem?_eq_some_iff.1 e3).1 (by simp; omega)).trans e3
    have htE : Tur [E] W4b (W4b.putObj E (.deferred none)) := Tur.putObj W4b (by simp) _
    have hsU : w.heap.size + 1 + 1 < U.heap.size := by omega
    have hob : ∀ q, (Value.slice A9 n9 c9).ownBlock = some q → U.heap.size ≤ q := fun q hq => (World.ownsRow.lt HTd.out q hq).1
    have HT4 := ownW_tur (ownW_tur (ownW_tur (ownW_tur HTd.out t2 (fun q hq => by have := hob q hq; simp; omega)) t3 (fun q hq => by have := hob q hq; simp; omega)) t4 (fun q hq => by have := hob q hq; simp; omega)) htE (fun q hq => by have := hob q hq; simp; omega)
    have HB4b := HBd.out.trans ((((t2.below (B := w.heap.size) (by simp) HBd.out.size).trans (t3.below (B := w.heap.size) (by simp) (Nat.le_trans HBd.out.size t2.size))).trans (t4.below (B := w.heap.size) (by simp; omega) (Nat.le_trans HBd.out.size (Nat.le_trans t2.size t3.size)))).trans (htE.below (B := w.heap.size) (by simp; omega) (Nat.le_trans HBd.out.size (Nat.le_trans t2.size (Nat.le_trans t3.size t4.size)))))
    have hP5 := hP4.tur htE (by simp; omega)
    have hQ5 := hQ4.tur htE (by simp; omega)
    have hO5 := HO4.out.tur htE (by simp; omega)
    refine ⟨by simp, .inl ⟨_, _, rfl, run_takeDeferred hdE, ?_⟩⟩
    refine ⟨.tuple #[.slice none 0 0, .agg #[.int .i64 (X : Int), .int .i64 (Y : Int), .int .i64 (Z : Int), .slice A9 n9 c9], .int .i64 0], ?_, .slice A9 n9 c9, rfl, ?_, HB4b⟩
    · rw [results_ccc (fn := Tryz.f37) rfl]
      simp only [Array.getD_eq_getD_getElem?, List.getElem?_toArray, List.getElem?_cons_succ, List.getElem?_cons_zero, Option.getD_some, asAddr, Sem.run_pure, Result.andThen_ok]
      rw [run_loadVar_one _ _ _ _ _ _ hP5 Tryz.underlying55 rfl]
      simp only [Result.andThen_ok]
      rw [run_loadVar_row _ _ 67 67 #[.int .i64 (X : Int), .int .i64 (Y : Int), .int .i64 (Z : Int), .slice A9 n9 c9] (0, 0) _ hQ5 Tryz.underlying67 rfl (by kernel_rfl)]
      simp only [Result.andThen_ok]
      rw [run_loadVar_one _ _ _ _ _ _ hO5 Tryz.underlying38 rfl]
      rfl
    · exact ownW_down HT4 (by omega)
end Go.Proofs.YtlhfdhmmdnkojaaGreatDoor
namespace Go.Proofs.YtlhfdhmmdnkojaaGreatDoor
open Go.RowKit Go.Shelf Go.Maps Dg
set_option maxRecDepth 100000
set_option linter.unusedVariables false
theorem ptB0 : ptB 0 0 0 [] = [0, 0, 0, 0] := by decide +kernel
theorem ptOk0 : ptOk 0 0 0 [] = true := by decide +kernel
theorem bs0 : bs [0, 0, 0, 0, 0] = ⟨#[0, 0, 0, 0, 0]⟩ := by decide +kernel
set_option maxHeartbeats 2000000 in
theorem lives14_any (w : World) (hT : Tabs w) : Calls Tryz.prog 28 #[] w fun e w' => e = .returned (.bool true) ∧ Hid (Below w.heap.size w w') := by
  have h1 : Short [] := fun x hx => by cases hx
  have h2 : (ptB 0 0 0 []).length ≤ 900000 := by rw [ptB0]; simp
  have h3 : (0 : Int) ≤ 9223372036854775807 := by omega
  have HWR := Lib.hid (@wwrite0_any w.heap.size none 0 0 [] none 0 0 none 0 0 0 0 w (ownW_nil w.heap.size w) h1 (Nat.zero_le _) h3 h3 h3 hT ptOk0 h2)
  clear h1 h2 h3
  rw [ptB0] at HWR
  have HT := Lib.hid hT
  clear hT
  go_enter Tryz.func28, Tryz.ntmps28
  go_wp2_with fail
  refine HWR.out.mono ?_
  rintro e w1 ⟨v1, rfl, ho1, hb1⟩
  obtain ⟨A1, n1, c1, rfl, hn1, hr1, hz1⟩ := own_open ho1.out (by simp)
  have hnc : n1 ≤ c1 ∧ n1 = 5 := by
    obtain ⟨A', c', e, h, _⟩ := own_full ho1.out
    injection e with e1 e2 e3
    rw [e2, e3]
    exact ⟨h, rfl⟩
  obtain ⟨hnc, hn5⟩ := hnc
  subst hn5
  have HRD := Lib.hid (wread0_any 0 0 0 [] none 0 0 A1 5 c1 w1 (by rw [show ((0 : Nat) : Int) = 0 from rfl, ptB0]; exact hr1.out) (by rw [show ((0 : Nat) : Int) = 0 from rfl, ptB0]; rfl) hnc (by omega) (by omega) (by omega) (by omega) (by simp) (fun x hx => by cases hx) (HT.out.below hb1.out) ptOk0)
  obtain ⟨o, ho⟩ : ∃ o : Int, ((0 : Nat) : Int) = o := ⟨_, rfl⟩
  rw [ho] at HRD
  have HOO := Lib.hid ho
  clear ho
  clear HWR ho1 hnc
  go_wp2_with fail
  refine HRD.out.mono ?_
  rintro e w2 ⟨v2, rfl, ho2, hb2⟩
  have HB2 := Lib.hid (hb1.out.trans (hb2.out.mono hb1.out.size))
  have HR2 := Lib.hid (hr1.out.below hb2.out)
  obtain ⟨A2, n2, c2, rfl, _, _, _, _, _⟩ := ownW_open ho2.out
  have hb3 : Below w2.heap.size w2 (w2.alloc (.cells #[.int .i64 o, .int .i64 o, .int .i64 o, .slice A2 n2 c2] 67)) := (Below.refl _ w2).alloc (Nat.le_refl _) _
  have HV := Lib.hid (Has.new w2 67 #[.int .i64 o, .int .i64 o, .int .i64 o, .slice A2 n2 c2])
  have HO3 := Lib.hid (ho2.out.below hb3)
  have HR3 := Lib.hid (HR2.out.below hb3)
  have HB3 := Lib.hid (HB2.out.trans (hb3.mono HB2.out.size))
  clear HRD ho2 hb1 hb2 HB2 HR2 hr1
  go_wp2_with fail
  obtain ⟨W3, hW3⟩ : ∃ W, W = w2.alloc (.cells #[.int .i64 o, .int .i64 o, .int .i64 o, .slice A2 n2 c2] 67) := ⟨_, rfl⟩
  rw [← hW3] at HV HO3 HR3 HB3 ⊢
  clear hW3 hb3
  have hcv : Sem.run Tryz.prog (convert 37 9 (.slice A1 5 c1)) W3 = .ok (.string ⟨#[0, 0, 0, 0, 0]⟩) W3 := by rw [conv_len W3 A1 _ 5 c1 hn1.out HR3.out, bs0]
  have x0 := HV.out.cell 0
  have x1 := HV.out.cell 1
  have x2 := HV.out.cell 2
  have x3 := HV.out.cell 3
  go_wp2_with fail
  rw [hcv]
  go_wp2_with fail
  have ho0 : o = 0 := HOO.out.symm
  rw [ho0]
  refine (rsame_pt 0 0 0 W3 HO3.out (ownW_nil w.heap.size W3) (by simp)).mono ?_
  rintro e w4 ⟨rfl, hb4⟩
  have HB4 := Lib.hid (HB3.out.trans (hb4.out.mono HB3.out.size))
  clear hb4
  go_wp2_with fail
  go_ret
  exact ⟨rfl, HB4⟩
end Go.Proofs.YtlhfdhmmdnkojaaGreatDoor
namespace Go.Proofs.YtlhfdhmmdnkojaaGreatDoor
open Go.RowKit Dg
/-- A column: its name, its kind, whether Null may stand there. -/
structure Cl where
  nm : ByteArray
  k : Int
  no : Bool
def Cl.val (x : Cl) : Value := .agg #[.string x.nm, .int .i64 x.k, .bool x.no]
def Cl.cells (x : Cl) : List Value := [.string x.nm, .int .i64 x.k, .bool x.no]
/-- Its name can be a string, its kind a number of 64 bits. -/
def Cl.fit (x : Cl) : Prop := x.nm.size ≤ 140737488355328 ∧ -9223372036854775808 ≤ x.k ∧ x.k ≤ 9223372036854775807
/-- The cells at A read as the columns L. -/
def CRow (w : World) (A : Option Addr) (L : List Cl) : Prop :=
  L ≠ [] → ∃ b off, A = some ⟨b, off, none⟩ ∧ ∀ i (h : i < L.length), w.cell? ⟨b, off + i * 3, none⟩ = some (.string L[i].nm) ∧ w.cell? ⟨b, off + i * 3 + 1, none⟩ = some (.int .i64 L[i].k) ∧ w.cell? ⟨b, off + i * 3 + 2, none⟩ = some (.bool L[i].no)
theorem CRow.below {w w' : World} {A : Option Addr} {L : List Cl} (h : CRow w A L) (hb : Below w.heap.size w w') : CRow w' A L := fun hl => by
  obtain ⟨b, off, e, hc⟩ := h hl
  refine ⟨b, off, e, fun i hi => ?_⟩
  obtain ⟨h0, h1, h2⟩ := hc i hi
  exact ⟨(hb.cell (World.block_lt_of_cell? w _ h0)).trans h0, (hb.cell (World.block_lt_of_cell? w _ h1)).trans h1, (hb.cell (World.block_lt_of_cell? w _ h2)).trans h2⟩
theorem infoC : (Tryz.prog.info? 29).map (fun i => (i.zero, i.size, i.bytes)) = some (some (.agg #[.string ⟨#[]⟩, .int .i64 0, .bool false]), 3, 32) := by kernel_rfl
/-- Columns in a row of the call's own. -/
def OwnC (B : Nat) (w : World) (v : Value) (L : List Cl) : Prop := w.ownsRow B 29 3 v L.length (L.flatMap Cl.cells)
theorem OwnC.below {B : Nat} {w w' : World} {v : Value} {L : List Cl} (h : OwnC B w v L) (hb : Below w.heap.size w w') : OwnC B w' v L := by
  rcases h.2 with ⟨hv, hn⟩ | ⟨g, cap, cur, hv, hg, hh, hc, hcm, hsz, ht⟩
  · exact ⟨h.1, .inl ⟨hv, hn⟩⟩
  · exact ⟨h.1, .inr ⟨g, cap, cur, hv, hg, Has.below (t := 29) (cs := cur) hh hb (Has.lt (t := 29) (cs := cur) hh), hc, hcm, hsz, ht⟩⟩
theorem cflat_len (L : List Cl) : (L.flatMap Cl.cells).length = L.length * 3 := by
  induction L with
  | nil => rfl
  | cons x L ih => rw [List.flatMap_cons, List.length_append, ih]; simp [Cl.cells]; omega
theorem cflat_get (L : List Cl) (i j : Nat) (h : i < L.length) (hj : j < 3) : (L.flatMap Cl.cells)[i * 3 + j]? = L[i].cells[j]? := by
  induction L generalizing i with
  | nil => simp at h
  | cons x L ih =>
    rw [List.flatMap_cons]
    rcases i with _ | i
    · rw [List.getElem?_append_left (by simp [Cl.cells]; omega)]
      simp
    · rw [List.getElem?_append_right (by simp [Cl.cells]; omega)]
      have e : (i + 1) * 3 + j - x.cells.length = i * 3 + j := by simp [Cl.cells]; omega
      rw [e, ih i (by simpa using h)]
      simp
theorem ownC_row {B : Nat} {w : World} {v : Value} {L : List Cl} (h : OwnC B w v L) : ∃ A c, v = .slice A L.length c ∧ L.length ≤ c ∧ c ≤ maxLen ∧ CRow w A L ∧ (A = none → c = 0) := by
  rcases h.2 with ⟨hv, hn⟩ | ⟨g, cap, cur, hv, _, hh, hc, hcm, hsz, ht⟩
  · obtain rfl := List.eq_nil_of_length_eq_zero hn
    exact ⟨none, 0, hv, Nat.le_refl _, Nat.zero_le _, fun h => absurd rfl h, fun _ => rfl⟩
  · refine ⟨_, _, hv, hc, hcm, fun _ => ⟨g, 0, rfl, fun i hi => ?_⟩, fun e => by cases e⟩
    have hq : ∀ j, j < 3 → w.cell? ⟨g, 0 + (i * 3 + j), none⟩ = L[i].cells[j]? := fun j hj => by
      rw [Nat.zero_add, Has.cell (t := 29) (cs := cur) hh, ← cflat_get L i j hi hj, ← ht, List.getElem?_take, if_pos (by omega)]
      simp
    have q0 := hq 0 (by omega)
    have q1 := hq 1 (by omega)
    have q2 := hq 2 (by omega)
    exact ⟨q0, q1, q2⟩
theorem crow_cell {w : World} {b off : Nat} {M : List Cl} (h : ∀ i (h : i < M.length), w.cell? ⟨b, off + i * 3, none⟩ = some (.string M[i].nm) ∧ w.cell? ⟨b, off + i * 3 + 1, none⟩ = some (.int .i64 M[i].k) ∧ w.cell? ⟨b, off + i * 3 + 2, none⟩ = some (.bool M[i].no)) (j : Nat) (u : Value) (hj : (M.flatMap Cl.cells)[j]? = some u) : w.cell? ⟨b, off + j, none⟩ = some u := by
  have hjl : j < M.length * 3 := by
    have := (List.getElem?_eq_some_iff.1 hj).1
    rwa [cflat_len] at this
  have hi : j / 3 < M.length := by omega
  have e : j = j / 3 * 3 + j % 3 := by omega
  have hr : j % 3 = 0 ∨ j % 3 = 1 ∨ j % 3 = 2 := by omega
  rw [e, cflat_get M (j / 3) (j % 3) hi (by omega)] at hj
  obtain ⟨h0, h1, h2⟩ := h (j / 3) hi
  rw [e]
  rcases hr with hr | hr | hr <;> rw [hr] at hj ⊢
  · rw [← hj]; exact h0
  · rw [← hj]; exact h1
  · rw [← hj]; exact h2
end Go.Proofs.YtlhfdhmmdnkojaaGreatDoor
namespace Go.Proofs.YtlhfdhmmdnkojaaGreatDoor
open Go.RowKit Dg
end Go.Proofs.YtlhfdhmmdnkojaaGreatDoor
namespace Go.Proofs.YtlhfdhmmdnkojaaGreatDoor
open Go.RowKit Dg
end Go.Proofs.YtlhfdhmmdnkojaaGreatDoor
namespace Go.Proofs.YtlhfdhmmdnkojaaGreatDoor
open Go.RowKit Dg
/-! ### what Good comes to -/
def pool (i : Nat) : ByteArray := if i = 0 then ⟨#[105, 100]⟩ else if i = 1 then ⟨#[110, 97, 109, 101]⟩ else if i = 2 then ⟨#[110]⟩ else if i = 3 then ⟨#[102, 108, 97, 103]⟩ else if i = 4 then ⟨#[114, 97, 119]⟩ else ⟨#[120]⟩
end Go.Proofs.YtlhfdhmmdnkojaaGreatDoor
namespace Go.Proofs.YtlhfdhmmdnkojaaGreatDoor
open Go.RowKit Dg
/-- The first forty bytes. -/
def forty (s : ByteArray) : ByteArray := if 40 < s.size then s.extract 0 40 else s
/-- A value that may be, made of any. -/
def kind5 (k : Int) : Int := (if k < 0 then -(k + 1) else k) % 5
def Vl.good (x : Vl) : Vl :=
  if kind5 x.k = 0 then ⟨0, 0, ⟨#[]⟩⟩ else if kind5 x.k = 1 then ⟨1, if x.n % 2 = 0 then 0 else 1, ⟨#[]⟩⟩ else if kind5 x.k = 2 then ⟨2, x.n, ⟨#[]⟩⟩
  else if kind5 x.k = 3 then ⟨3, 0, if Lib.validD (forty x.s).data.toList then forty x.s else ⟨#[]⟩⟩ else ⟨4, 0, forty x.s⟩
end Go.Proofs.YtlhfdhmmdnkojaaGreatDoor
namespace Go.Proofs.YtlhfdhmmdnkojaaGreatDoor
open Go.RowKit Dg
/-! ### what is made of any may be -/
end Go.Proofs.YtlhfdhmmdnkojaaGreatDoor
namespace Go.Proofs.YtlhfdhmmdnkojaaGreatDoor
open Go.RowKit Dg
end Go.Proofs.YtlhfdhmmdnkojaaGreatDoor
namespace Go.Proofs.YtlhfdhmmdnkojaaGreatDoor
open Go.RowKit Dg
set_option maxRecDepth 100000
theorem OwnC.far {B : Nat} {w : World} {v : Value} {L : List Cl} (h : OwnC B w v L) {p : Addr} (hp : p.block < B) (u : Value) : OwnC B (w.setCell p u) v L := by
  rcases h.2 with ⟨hv, hn⟩ | ⟨g, cap, cur, hv, hg, hh, hc, hcm, hsz, ht⟩
  · exact ⟨h.1, .inl ⟨hv, hn⟩⟩
  · exact ⟨h.1, .inr ⟨g, cap, cur, hv, hg, Has.far (t := 29) (cs := cur) hh (by omega) u, hc, hcm, hsz, ht⟩⟩
end Go.Proofs.YtlhfdhmmdnkojaaGreatDoor
namespace Go.Proofs.YtlhfdhmmdnkojaaGreatDoor
open Go.RowKit Dg
theorem CRow.drop {w : World} {b off : Nat} {L : List Cl} (h : CRow w (some ⟨b, off, none⟩) L) (k : Nat) : CRow w (some ⟨b, off + k * 3, none⟩) (L.drop k) := fun hl => by
  obtain ⟨b', off', e, hc⟩ := h (by rintro rfl; simp at hl)
  injection e with e
  injection e with e1 e2
  subst e1 e2
  refine ⟨b, off + k * 3, rfl, fun i hi => ?_⟩
  rw [List.length_drop] at hi
  obtain ⟨h0, h1, h2⟩ := hc (k + i) (by omega)
  rw [List.getElem_drop]
  have e : off + (k + i) * 3 = off + k * 3 + i * 3 := by omega
  rw [e] at h0 h1 h2
  exact ⟨h0, h1, h2⟩
theorem CRow.take {w : World} {A : Option Addr} {L : List Cl} (h : CRow w A L) (k : Nat) : CRow w A (L.take k) := fun hl => by
  obtain ⟨b, off, e, hc⟩ := h (by rintro rfl; simp at hl)
  refine ⟨b, off, e, fun i hi => ?_⟩
  rw [List.length_take] at hi
  rw [List.getElem_take]
  exact hc i (by omega)
theorem CRow.one (w : World) (x : Cl) : CRow (w.alloc (.cells #[.string x.nm, .int .i64 x.k, .bool x.no] 29)) (some ⟨w.heap.size, 0, none⟩) [x] := fun _ => ⟨w.heap.size, 0, rfl, fun i hi => by
  have hh := Has.new w 29 #[.string x.nm, .int .i64 x.k, .bool x.no]
  obtain rfl : i = 0 := by simpa using hi
  exact ⟨hh.cell 0, hh.cell 1, hh.cell 2⟩⟩
end Go.Proofs.YtlhfdhmmdnkojaaGreatDoor
namespace Go.Proofs.YtlhfdhmmdnkojaaGreatDoor
open Go.RowKit Dg
end Go.Proofs.YtlhfdhmmdnkojaaGreatDoor
namespace Go.Proofs.YtlhfdhmmdnkojaaGreatDoor
open Go.RowKit Dg
end Go.Proofs.YtlhfdhmmdnkojaaGreatDoor
namespace Go.Proofs.YtlhfdhmmdnkojaaGreatDoor
open Go.RowKit Dg
set_option maxRecDepth 100000
def big : Nat := 18446744073709551616
/-- What 'digits' leaves: a new block, the last one, with the digits. -/
def Digs (n : Nat) (w : World) (e : Ending) (w' : World) : Prop :=
  e = .returned (.slice (some ⟨w.heap.size, 0, none⟩) (digs n).length (digs n).length) ∧ Has w' w.heap.size 5 ((digs n).map bv).toArray ∧ w'.heap.size = w.heap.size + 1 ∧ Below w.heap.size w w'

theorem Digs.made {n : Nat} {w : World} {e : Ending} {w' : World} (h : Digs n w e w') : ∃ v, e = .returned v ∧ Made w (digs n) v w' := by
  obtain ⟨he, hh, _, hb⟩ := h
  refine ⟨_, he, _, _, rfl, Nat.le_refl _, Rd.of_has hh fun i hi => ?_, hb⟩
  simp [hi]

theorem Digs.out {n : Nat} {w : World} {e : Ending} {w' : World} (h : Digs n w e w') : ∃ A c, e = .returned (.slice A (digs n).length c) ∧ Rd w' A (digs n) ∧ Below w.heap.size w w' := by
  obtain ⟨v, he, A, c, rfl, _, hr, hb⟩ := h.made
  exact ⟨A, c, he, hr, hb⟩
end Go.Proofs.YtlhfdhmmdnkojaaGreatDoor
namespace Go.Proofs.YtlhfdhmmdnkojaaGreatDoor
open Go.RowKit Dg
end Go.Proofs.YtlhfdhmmdnkojaaGreatDoor
namespace Go.Proofs.YtlhfdhmmdnkojaaGreatDoor
open Go.RowKit Dg

end Go.Proofs.YtlhfdhmmdnkojaaGreatDoor
namespace Go.Proofs.YtlhfdhmmdnkojaaGreatDoor
open Go.RowKit Dg
def Vl.eqb (x y : Vl) : Bool := x.k == y.k && x.n == y.n && x.s.toList == y.s.toList
theorem toList_inj {s t : ByteArray} (h : s.toList = t.toList) : s = t := by
  rw [← bs_sb s, ← bs_sb t] at h ⊢
  rw [bs_toList, bs_toList] at h
  unfold bs
  rw [h]
theorem Vl.eqb_iff (x y : Vl) : x.eqb y = true ↔ x = y := by
  obtain ⟨a, b, c⟩ := x
  obtain ⟨a', b', c'⟩ := y
  simp only [Vl.eqb, Bool.and_eq_true, beq_iff_eq, Vl.mk.injEq]
  constructor
  · rintro ⟨⟨rfl, rfl⟩, h⟩; exact ⟨rfl, rfl, toList_inj h⟩
  · rintro ⟨rfl, rfl, rfl⟩; exact ⟨⟨rfl, rfl⟩, rfl⟩
def vsTo (L M : List Vl) (k : Nat) : Bool := (List.range k).all fun i => match L[i]?, M[i]? with | some x, some y => x.eqb y | _, _ => true
theorem vsTo_succ (L M : List Vl) (k : Nat) (hL : k < L.length) (hM : k < M.length) : vsTo L M (k + 1) = (vsTo L M k && L[k].eqb M[k]) := by
  unfold vsTo; rw [List.range_succ, List.all_append]; simp [hL, hM]
theorem vsTo_false (L M : List Vl) (k n : Nat) (hk : k < n) (hL : k < L.length) (hM : k < M.length) (h : L[k].eqb M[k] = false) : vsTo L M n = false := by
  unfold vsTo; rw [List.all_eq_false]
  exact ⟨k, List.mem_range.2 hk, by simp [hL, hM, h]⟩
def vsF (L M : List Vl) : Bool := decide (L.length = M.length) && vsTo L M L.length
theorem vsF_iff (L M : List Vl) : vsF L M = true ↔ L = M := by
  unfold vsF vsTo
  simp only [Bool.and_eq_true, decide_eq_true_eq, List.all_eq_true]
  constructor
  · intro ⟨h1, h2⟩
    refine List.ext_getElem h1 fun i hi hj => ?_
    have := h2 i (List.mem_range.2 hi)
    rw [List.getElem?_eq_getElem hi, List.getElem?_eq_getElem hj] at this
    exact (Vl.eqb_iff _ _).1 this
  · rintro rfl
    refine ⟨rfl, fun i hi => ?_⟩
    have hi := List.mem_range.1 hi
    rw [List.getElem?_eq_getElem hi]
    exact (Vl.eqb_iff _ _).2 rfl
end Go.Proofs.YtlhfdhmmdnkojaaGreatDoor
namespace Go.Proofs.YtlhfdhmmdnkojaaGreatDoor
open Go.RowKit Dg
/-- Are two columns the same? -/
def Cl.eqb (x y : Cl) : Bool := x.nm.toList == y.nm.toList && x.k == y.k && x.no == y.no
theorem Cl.eqb_refl (x : Cl) : x.eqb x = true := by simp [Cl.eqb]
def csTo (L M : List Cl) (k : Nat) : Bool := (List.range k).all fun i => match L[i]?, M[i]? with | some x, some y => x.eqb y | _, _ => true
theorem csTo_succ (L M : List Cl) (k : Nat) (hL : k < L.length) (hM : k < M.length) : csTo L M (k + 1) = (csTo L M k && L[k].eqb M[k]) := by
  unfold csTo; rw [List.range_succ, List.all_append]; simp [hL, hM]
theorem csTo_false (L M : List Cl) (k n : Nat) (hk : k < n) (hL : k < L.length) (hM : k < M.length) (h : L[k].eqb M[k] = false) : csTo L M n = false := by
  unfold csTo; rw [List.all_eq_false]
  exact ⟨k, List.mem_range.2 hk, by simp [hL, hM, h]⟩
def csF (L M : List Cl) : Bool := decide (L.length = M.length) && csTo L M L.length
def ssF (L : List Cl) (K : Int) (M : List Cl) (K' : Int) : Bool := K == K' && csF L M
theorem csF_refl (L : List Cl) : csF L L = true := by
  unfold csF csTo; simp
  intro i hi
  cases h : L[i]? with
  | none => rfl
  | some x => simp [Cl.eqb_refl]
theorem ssF_refl (L : List Cl) (K : Int) : ssF L K L K = true := by simp [ssF, csF_refl]
theorem partK (xs : Array Value) (i : Nat) (v : Value) (h : xs[i]? = some v) (w : World) : (part 4 xs i).run Tryz.prog w = .ok v w := by
  unfold part
  simp [Sem.run_bind, Tryz.isAgg4, h]
theorem partN (xs : Array Value) (i : Nat) (v : Value) (h : xs[i]? = some v) (w : World) : (part 3 xs i).run Tryz.prog w = .ok v w := by
  unfold part
  simp [Sem.run_bind, Tryz.isAgg3, h]
theorem partT (xs : Array Value) (i : Nat) (v : Value) (h : xs[i]? = some v) (w : World) : (part 9 xs i).run Tryz.prog w = .ok v w := by
  unfold part
  simp [Sem.run_bind, Tryz.isAgg9, h]
theorem eqC (s s' : ByteArray) (k k' : Int) (b b' : Bool) (w : World) : (Op.equalIn 10000 29 (.agg #[.string s, .int .i64 k, .bool b]) (.agg #[.string s', .int .i64 k', .bool b'])).run Tryz.prog w = .ok (Cl.eqb ⟨s, k, b⟩ ⟨s', k', b'⟩) w := by
  have e := fun (a b : Int) (w : World) => run_equalIn_int (P := Tryz.prog) w 9998 3 .i64 .i64 a b Tryz.underlying3
  have es := fun (a b : ByteArray) (w : World) => run_equalIn_string (P := Tryz.prog) w 9998 9 a b Tryz.underlying9
  have eb := fun (a b : Bool) (w : World) => run_equalIn_bool (P := Tryz.prog) w 9998 4 a b Tryz.underlying4
  have p0 := fun (x0 x1 x2 : Value) => partT #[x0, x1, x2] 0 x0 rfl
  have p1 := fun (x0 x1 x2 : Value) => partN #[x0, x1, x2] 1 x1 rfl
  have p2 := fun (x0 x1 x2 : Value) => partK #[x0, x1, x2] 2 x2 rfl
  rw [show (10000 : Nat) = 9999 + 1 by rfl, run_equalIn_agg w 9999 29 _ _ (by kernel_rfl) (by kernel_rfl)]
  unfold Program.fieldsOf
  rw [Tryz.underlying29]
  by_cases h0 : s.toList = s'.toList <;> by_cases h1 : k = k' <;> by_cases h2 : b = b' <;>
  simp [Op.eqFields, Sem.run_bind, Result.andThen, p0, p1, p2, e, es, eb, h0, h1, h2, Cl.eqb]
set_option maxHeartbeats 2000000 in
set_option maxRecDepth 100000 in
theorem equal_any (A : Option Addr) (L : List Cl) (n c : Nat) (A' : Option Addr) (M : List Cl) (n' c' : Nat) (w : World) (hn : L.length = n) (hn' : M.length = n') (hl : n ≤ 1000) (hl' : n' ≤ 1000) (hA : CRow w A L) (hA' : CRow w A' M) :
    Calls Tryz.prog 161 #[.slice A n c, .slice A' n' c'] w fun e w' => e = .returned (.bool (csF L M)) ∧ Hid (Below w.heap.size w w') := by
  have HN := Lib.hid hn
  have HN' := Lib.hid hn'
  have HA := Lib.hid hA
  have HA' := Lib.hid hA'
  have HB0 := Lib.hid (Below.refl w.heap.size w)
  have eq := eqC
  clear hn hA hA' hn'
  by_cases hnn : n = n'
  · subst hnn
    have HC : Hid (csF L M = csTo L M n) := by show _ = _; unfold csF; rw [HN.out, HN'.out]; simp
    go_enter Tryz.func161, Tryz.ntmps161
    go_wp2_with fail
    go_loopw [13] (fun i wr => ∃ k : Nat, k ≤ n ∧ i = .int .i64 k ∧ Hid (csTo L M k = true) ∧ Hid (Below w.heap.size w wr)) (fun i _ => n - (intOf i).toNat)
    case atStart => exact ⟨0, by omega, rfl, rfl, Below.refl _ _⟩
    case round =>
      obtain ⟨k, hk, rfl, HT, HB⟩ := hrel
      by_cases hlt : k < n
      · have hkl : k < L.length := by rw [HN.out]; exact hlt
        have hkm : k < M.length := by rw [HN'.out]; exact hlt
        obtain ⟨b, off, rfl, hc⟩ := (HA.out.below HB.out) (by intro e; rw [e] at hkl; simp at hkl)
        obtain ⟨b', off', rfl, hc'⟩ := (HA'.out.below HB.out) (by intro e; rw [e] at hkm; simp at hkm)
        obtain ⟨c0, c1, c2⟩ := hc k hkl
        obtain ⟨d0, d1, d2⟩ := hc' k hkm
        have HS := Lib.hid (csTo_succ L M k hkl hkm)
        have HF := Lib.hid (csTo_false L M k n hlt hkl hkm)
        clear hc hc'
        generalize L[k] = x at *
        generalize M[k] = y at *
        obtain ⟨xa, xb, xc⟩ := x
        obtain ⟨ya, yb, yc⟩ := y
        simp only at c0 c1 c2 d0 d1 d2
        have hkz : (k : Int) < (n : Int) := by omega
        have hk0 : (0 : Int) ≤ (k : Int) := by omega
        cases hq : Cl.eqb ⟨xa, xb, xc⟩ ⟨ya, yb, yc⟩
        · go_wp2_with fail
          go_region
          all_goals
            go_wp2_with fail
            go_ret
            exact ⟨by rw [HC.out, HF.out hq]; rfl, HB.out.drew⟩
        · go_wp2_with fail
          go_region
          all_goals
            go_wp2_with fail
            go_roundw
            case rel => exact ⟨k + 1, by omega, by go_num, by show _ = _; rw [HS.out, HT.out, hq]; rfl, HB.out.drew⟩
            case measure => simp [intOf]; omega
      · obtain rfl : k = n := by omega
        go_wp2_with fail
        go_ret
        exact ⟨by rw [HC.out, HT.out]; rfl, HB⟩
  · have HC : Hid (csF L M = false) := by show _ = _; unfold csF; rw [HN.out, HN'.out]; simp [hnn]
    have hq : ((n : Int) != (n' : Int)) = true := by simp; omega
    go_enter Tryz.func161, Tryz.ntmps161
    go_wp2_with fail
    go_ret
    exact ⟨by rw [HC.out]; rfl, HB0⟩
set_option maxHeartbeats 1000000 in
theorem same4_any (A : Option Addr) (L : List Cl) (n c : Nat) (K : Int) (A' : Option Addr) (M : List Cl) (n' c' : Nat) (K' : Int) (w : World) (hn : L.length = n) (hn' : M.length = n') (hl : n ≤ 1000) (hl' : n' ≤ 1000) (hA : CRow w A L) (hA' : CRow w A' M) :
    Calls Tryz.prog 123 #[.agg #[.slice A n c, .int .i64 K], .agg #[.slice A' n' c', .int .i64 K']] w fun e w' => e = .returned (.bool (ssF L K M K')) ∧ Hid (Below w.heap.size w w') := by
  have HB := Lib.hid (((Below.refl w.heap.size w).alloc (Nat.le_refl _) (.cells #[.slice A n c, .int .i64 K] 27)).alloc (by simp) (.cells #[.slice A' n' c', .int .i64 K'] 27))
  have HC := Lib.hid (equal_any A L n c A' M n' c' _ hn hn' hl hl' (hA.below HB.out) (hA'.below HB.out))
  clear hn hn' hA hA'
  by_cases hk : K = K'
  · subst hk
    have HS : Hid (ssF L K M K = csF L M) := by show _ = _; simp [ssF]
    go_enter Tryz.func123, Tryz.ntmps123
    go_wp2_with fail
    refine HC.out.mono ?_
    rintro e w1 ⟨rfl, hb1⟩
    have HB1 := Lib.hid (HB.out.trans (hb1.out.mono HB.out.size))
    clear hb1
    go_wp2_with fail
    go_ret
    exact ⟨by rw [HS.out]; rfl, HB1⟩
  · have HS : Hid (ssF L K M K' = false) := by show _ = _; simp [ssF, hk]
    have hq : (K == K') = false := by simp [hk]
    go_enter Tryz.func123, Tryz.ntmps123
    go_wp2_with fail
    go_ret
    exact ⟨by rw [HS.out]; rfl, HB⟩
set_option maxHeartbeats 2000000 in
set_option maxRecDepth 100000 in
theorem rsame_any (A : Option Addr) (L : List Cl) (n c : Nat) (K : Int) (A' : Option Addr) (M : List Cl) (n' c' : Nat) (K' : Int) (w : World) (hn : L.length = n) (hn' : M.length = n') (hl : n ≤ 1000) (hl' : n' ≤ 1000) (hA : CRow w A L) (hA' : CRow w A' M) :
    Calls Tryz.prog 78 #[.agg #[.slice A n c, .int .i64 K], .agg #[.slice A' n' c', .int .i64 K']] w fun e w' => e = .returned (.bool (ssF L K M K')) ∧ Hid (Below w.heap.size w w') := by
  have HB0 := Lib.hid (((Below.refl w.heap.size w).alloc (Nat.le_refl _) (.cells #[.slice A n c, .int .i64 K] 27)).alloc (by simp) (.cells #[.slice A' n' c', .int .i64 K'] 27))
  have HX0 := Lib.hid ((Has.new w 27 #[.slice A n c, .int .i64 K]).alloc (.cells #[.slice A' n' c', .int .i64 K'] 27))
  have hy := Has.new (w.alloc (.cells #[.slice A n c, .int .i64 K] 27)) 27 #[.slice A' n' c', .int .i64 K']
  rw [show (w.alloc (.cells #[.slice A n c, .int .i64 K] 27)).heap.size = w.heap.size + 1 by simp] at hy
  have HY0 := Lib.hid hy
  have HN := Lib.hid hn
  have HN' := Lib.hid hn'
  have HA := Lib.hid hA
  have HA' := Lib.hid hA'
  have eq := eqC
  clear hn hA hA' hn' hy
  by_cases hk : K = K'
  · subst hk
    by_cases hnn : n = n'
    · subst hnn
      have HC : Hid (ssF L K M K = csTo L M n) := by show _ = _; unfold ssF csF; rw [HN.out, HN'.out]; simp
      go_enter Tryz.func78, Tryz.ntmps78
      go_wp2_with fail
      go_loopw [5] (fun i wr => ∃ k : Nat, k ≤ n ∧ i = .int .i64 k ∧ Hid (csTo L M k = true) ∧ Hid (Below w.heap.size w wr) ∧ Hid (Has wr w.heap.size 27 #[.slice A n c, .int .i64 K]) ∧ Hid (Has wr (w.heap.size + 1) 27 #[.slice A' n c', .int .i64 K])) (fun i _ => n - (intOf i).toNat)
      case atStart => exact ⟨0, by omega, rfl, rfl, HB0.out, HX0.out, HY0.out⟩
      case round =>
        obtain ⟨k, hk, rfl, HT, HB, HX, HY⟩ := hrel
        have a0 := HX.out.cell 0
        have a1 := HY.out.cell 0
        simp at a0 a1
        by_cases hlt : k < n
        · have hkl : k < L.length := by rw [HN.out]; exact hlt
          have hkm : k < M.length := by rw [HN'.out]; exact hlt
          obtain ⟨b, off, rfl, hc⟩ := (HA.out.below HB.out) (by intro e; rw [e] at hkl; simp at hkl)
          obtain ⟨b', off', rfl, hc'⟩ := (HA'.out.below HB.out) (by intro e; rw [e] at hkm; simp at hkm)
          obtain ⟨c0, c1, c2⟩ := hc k hkl
          obtain ⟨d0, d1, d2⟩ := hc' k hkm
          have HS := Lib.hid (csTo_succ L M k hkl hkm)
          have HF := Lib.hid (csTo_false L M k n hlt hkl hkm)
          clear hc hc'
          generalize L[k] = x at *
          generalize M[k] = y at *
          obtain ⟨xa, xb, xc⟩ := x
          obtain ⟨ya, yb, yc⟩ := y
          simp only at c0 c1 c2 d0 d1 d2
          have hkz : (k : Int) < (n : Int) := by omega
          have hk0 : (0 : Int) ≤ (k : Int) := by omega
          cases hq : Cl.eqb ⟨xa, xb, xc⟩ ⟨ya, yb, yc⟩
          · go_wp2_with fail
            go_region
            all_goals
              go_wp2_with fail
              go_ret
              exact ⟨by rw [HC.out, HF.out hq]; rfl, HB.out.drew⟩
          · go_wp2_with fail
            go_region
            all_goals
              go_wp2_with fail
              go_roundw
              case rel => exact ⟨k + 1, by omega, by go_num, by show _ = _; rw [HS.out, HT.out, hq]; rfl, HB.out.drew, HX.out.drew, HY.out.drew⟩
              case measure => simp [intOf]; omega
        · obtain rfl : k = n := by omega
          go_wp2_with fail
          go_ret
          exact ⟨by rw [HC.out, HT.out]; rfl, HB⟩
    · have HC : Hid (ssF L K M K = false) := by show _ = _; unfold ssF csF; rw [HN.out, HN'.out]; simp [hnn]
      have hq : ((n : Int) != (n' : Int)) = true := by simp; omega
      go_enter Tryz.func78, Tryz.ntmps78
      go_wp2_with fail
      go_ret
      exact ⟨by rw [HC.out]; rfl, HB0⟩
  · have HS : Hid (ssF L K M K' = false) := by show _ = _; simp [ssF, hk]
    have hq : (K != K') = true := by simp [hk]
    go_enter Tryz.func78, Tryz.ntmps78
    go_wp2_with fail
    go_ret
    exact ⟨by rw [HS.out]; rfl, HB0⟩
end Go.Proofs.YtlhfdhmmdnkojaaGreatDoor
namespace Go.Proofs.YtlhfdhmmdnkojaaGreatDoor
open Go.RowKit Dg
end Go.Proofs.YtlhfdhmmdnkojaaGreatDoor
namespace Go.Proofs.YtlhfdhmmdnkojaaGreatDoor
open Go.RowKit Dg
set_option maxRecDepth 100000
/-- A table: its name, where its columns lie, they, and its keys. -/
structure Tb where
  nm : ByteArray
  A : Option Addr
  n : Nat
  c : Nat
  L : List Cl
  K : Int
/-- The cells at A read as the tables T. -/
def TRow (w : World) (A : Option Addr) (T : List Tb) : Prop :=
  T ≠ [] → ∃ b off, A = some ⟨b, off, none⟩ ∧ ∀ i (h : i < T.length), w.cell? ⟨b, off + i * 3, none⟩ = some (.string T[i].nm) ∧ w.cell? ⟨b, off + i * 3 + 1, none⟩ = some (.slice T[i].A T[i].n T[i].c) ∧ w.cell? ⟨b, off + i * 3 + 2, none⟩ = some (.int .i64 T[i].K)
/-- The tables' columns lie where they should. -/
def TIn (w : World) (T : List Tb) : Prop := ∀ x ∈ T, x.L.length = x.n ∧ x.n ≤ x.c ∧ x.c ≤ maxLen ∧ CRow w x.A x.L
theorem TRow.below {w w' : World} {A : Option Addr} {T : List Tb} (h : TRow w A T) (hb : Below w.heap.size w w') : TRow w' A T := fun hne => by
  obtain ⟨b, off, e, hc⟩ := h hne
  have k := fun (a : Addr) (v : Value) (h : w.cell? a = some v) => (hb.cell (World.block_lt_of_cell? _ _ h)).trans h
  exact ⟨b, off, e, fun i hi => ⟨k _ _ (hc i hi).1, k _ _ (hc i hi).2.1, k _ _ (hc i hi).2.2⟩⟩
theorem TIn.below {w w' : World} {T : List Tb} (h : TIn w T) (hb : Below w.heap.size w w') : TIn w' T := fun x hx =>
  ⟨(h x hx).1, (h x hx).2.1, (h x hx).2.2.1, (h x hx).2.2.2.below hb⟩
end Go.Proofs.YtlhfdhmmdnkojaaGreatDoor
namespace Go.Proofs.YtlhfdhmmdnkojaaGreatDoor
open Go.RowKit Dg
set_option maxRecDepth 100000
end Go.Proofs.YtlhfdhmmdnkojaaGreatDoor
namespace Go.Proofs.YtlhfdhmmdnkojaaGreatDoor
open Go.RowKit Dg
set_option maxRecDepth 100000
def Tb.row (x : Tb) : List Value := [.string x.nm, .slice x.A x.n x.c, .int .i64 x.K]
/-- Columns in a row of the call's own. -/
def OwnT (B : Nat) (w : World) (v : Value) (L : List Tb) : Prop := w.ownsRow B 79 3 v L.length (L.flatMap Tb.row)
theorem OwnT.below {B : Nat} {w w' : World} {v : Value} {L : List Tb} (h : OwnT B w v L) (hb : Below w.heap.size w w') : OwnT B w' v L := by
  rcases h.2 with ⟨hv, hn⟩ | ⟨g, cap, cur, hv, hg, hh, hc, hcm, hsz, ht⟩
  · exact ⟨h.1, .inl ⟨hv, hn⟩⟩
  · exact ⟨h.1, .inr ⟨g, cap, cur, hv, hg, Has.below (t := 79) (cs := cur) hh hb (Has.lt (t := 79) (cs := cur) hh), hc, hcm, hsz, ht⟩⟩
theorem tflat_get (L : List Tb) (i j : Nat) (h : i < L.length) (hj : j < 3) : (L.flatMap Tb.row)[i * 3 + j]? = L[i].row[j]? := by
  induction L generalizing i with
  | nil => simp at h
  | cons x L ih =>
    rw [List.flatMap_cons]
    rcases i with _ | i
    · rw [List.getElem?_append_left (by simp [Tb.row]; omega)]
      simp
    · rw [List.getElem?_append_right (by simp [Tb.row]; omega)]
      have e : (i + 1) * 3 + j - x.row.length = i * 3 + j := by simp [Tb.row]; omega
      rw [e, ih i (by simpa using h)]
      simp
theorem ownT_row {B : Nat} {w : World} {v : Value} {L : List Tb} (h : OwnT B w v L) : ∃ A c, v = .slice A L.length c ∧ L.length ≤ c ∧ c ≤ maxLen ∧ TRow w A L ∧ (A = none → c = 0) := by
  rcases h.2 with ⟨hv, hn⟩ | ⟨g, cap, cur, hv, _, hh, hc, hcm, hsz, ht⟩
  · obtain rfl := List.eq_nil_of_length_eq_zero hn
    exact ⟨none, 0, hv, Nat.le_refl _, Nat.zero_le _, fun h => absurd rfl h, fun _ => rfl⟩
  · refine ⟨_, _, hv, hc, hcm, fun _ => ⟨g, 0, rfl, fun i hi => ?_⟩, fun e => by cases e⟩
    have hq : ∀ j, j < 3 → w.cell? ⟨g, 0 + (i * 3 + j), none⟩ = L[i].row[j]? := fun j hj => by
      rw [Nat.zero_add, Has.cell (t := 79) (cs := cur) hh, ← tflat_get L i j hi hj, ← ht, List.getElem?_take, if_pos (by omega)]
      simp
    have q0 := hq 0 (by omega)
    have q1 := hq 1 (by omega)
    have q2 := hq 2 (by omega)
    exact ⟨q0, q1, q2⟩
theorem TRow.drop {w : World} {b off : Nat} {L : List Tb} (h : TRow w (some ⟨b, off, none⟩) L) (k : Nat) : TRow w (some ⟨b, off + k * 3, none⟩) (L.drop k) := fun hl => by
  obtain ⟨b', off', e, hc⟩ := h (by rintro rfl; simp at hl)
  injection e with e
  injection e with e1 e2
  subst e1 e2
  refine ⟨b, off + k * 3, rfl, fun i hi => ?_⟩
  rw [List.length_drop] at hi
  obtain ⟨h0, h1, h2⟩ := hc (k + i) (by omega)
  rw [List.getElem_drop]
  have e : off + (k + i) * 3 = off + k * 3 + i * 3 := by omega
  rw [e] at h0 h1 h2
  exact ⟨h0, h1, h2⟩
theorem TRow.take {w : World} {A : Option Addr} {L : List Tb} (h : TRow w A L) (k : Nat) : TRow w A (L.take k) := fun hl => by
  obtain ⟨b, off, e, hc⟩ := h (by rintro rfl; simp at hl)
  refine ⟨b, off, e, fun i hi => ?_⟩
  rw [List.length_take] at hi
  rw [List.getElem_take]
  exact hc i (by omega)
theorem TRow.one (w : World) (x : Tb) : TRow (w.alloc (.cells #[.string x.nm, .slice x.A x.n x.c, .int .i64 x.K] 79)) (some ⟨w.heap.size, 0, none⟩) [x] := fun _ => ⟨w.heap.size, 0, rfl, fun i hi => by
  have hh := Has.new w 79 #[.string x.nm, .slice x.A x.n x.c, .int .i64 x.K]
  obtain rfl : i = 0 := by simpa using hi
  exact ⟨hh.cell 0, hh.cell 1, hh.cell 2⟩⟩
theorem OwnT.drew {B : Nat} {w : World} {v : Value} {L : List Tb} (h : OwnT B w v L) : OwnT B w.drew v L := h.below ((Below.refl _ w).drew)
theorem OwnT.row {B : Nat} {w : World} {v : Value} {L : List Tb} (h : OwnT B w v L) {A : Option Addr} {n c : Nat} (hv : v = .slice A n c) : TRow w A L := by
  obtain ⟨A2, c2, e, _, _, hr, _⟩ := ownT_row h
  rw [hv] at e
  injection e with e1 _ _
  rw [e1]; exact hr
theorem OwnT.far {B : Nat} {w : World} {v : Value} {L : List Tb} (h : OwnT B w v L) {p : Addr} (hp : p.block < B) (u : Value) : OwnT B (w.setCell p u) v L := by
  rcases h.2 with ⟨hv, hn⟩ | ⟨g, cap, cur, hv, hg, hh, hc, hcm, hsz, ht⟩
  · exact ⟨h.1, .inl ⟨hv, hn⟩⟩
  · exact ⟨h.1, .inr ⟨g, cap, cur, hv, hg, Has.far (t := 79) (cs := cur) hh (by omega) u, hc, hcm, hsz, ht⟩⟩
end Go.Proofs.YtlhfdhmmdnkojaaGreatDoor
namespace Go.Proofs.YtlhfdhmmdnkojaaGreatDoor
open Go.RowKit Dg
set_option maxRecDepth 100000
end Go.Proofs.YtlhfdhmmdnkojaaGreatDoor
namespace Go.Proofs.YtlhfdhmmdnkojaaGreatDoor
open Go.RowKit Go.Maps Dg
set_option maxRecDepth 100000
set_option linter.unusedVariables false
theorem vrow_cell {w : World} {b off : Nat} {M : List Vl} (h : ∀ i (h : i < M.length), w.cell? ⟨b, off + i * 3, none⟩ = some (.int .i64 M[i].k) ∧ w.cell? ⟨b, off + i * 3 + 1, none⟩ = some (.int .i64 M[i].n) ∧ w.cell? ⟨b, off + i * 3 + 2, none⟩ = some (.string M[i].s)) (j : Nat) (u : Value) (hj : (M.flatMap Vl.cells)[j]? = some u) : w.cell? ⟨b, off + j, none⟩ = some u := by
  have hjl : j < M.length * 3 := by
    have := (List.getElem?_eq_some_iff.1 hj).1
    rwa [flat_len] at this
  have hi : j / 3 < M.length := by omega
  have e : j = j / 3 * 3 + j % 3 := by omega
  have hr : j % 3 = 0 ∨ j % 3 = 1 ∨ j % 3 = 2 := by omega
  rw [e, flat_get M (j / 3) (j % 3) hi (by omega)] at hj
  obtain ⟨h0, h1, h2⟩ := h (j / 3) hi
  rw [e]
  rcases hr with hr | hr | hr <;> rw [hr] at hj ⊢
  · rw [← hj]; exact h0
  · rw [← hj]; exact h1
  · rw [← hj]; exact h2
theorem run_copyV (w : World) (A : Option Addr) (L : List Vl) (n c : Nat) (hn : L.length = n) (hl : n ≤ 4398046511104) (hA : VRow w A L) (h0 : A = none → c = 0) :
    ∃ R W', (Builtin.append_ #[24, 24] 24 #[.slice none 0 0, .slice A n c]).run Tryz.prog w = .ok R W' ∧ OwnV w.heap.size W' R L ∧ Below w.heap.size w W' := by
  subst hn
  obtain ⟨i0, hi, hz0, hz1, hz2⟩ := info_parts infoV
  cases A with
  | none =>
    obtain rfl : L = [] := Classical.byContradiction fun hne => by obtain ⟨b, off, e, _⟩ := hA hne; cases e
    obtain rfl := h0 rfl
    exact ⟨_, w, run_append_owned_none w w.heap.size 24 24 113 i0 3 Tryz.underlying24 hi (.slice none 0 0) 0 [] (World.ownsRow_nil _ _ _ _), World.ownsRow_nil _ _ _ _, Below.refl _ _⟩
  | some a =>
    obtain ⟨R, W', hrun, hown, hg, _, hx⟩ := run_append_own_at (P := Tryz.prog) w w.heap.size 24 24 113 i0 _ 3 32 Tryz.underlying24 hi hz0 hz1 hz2 rfl (by decide) (.slice none 0 0) 0 [] (World.ownsRow_nil _ _ _ _)
      a L.length c (L.flatMap Vl.cells) (flat_len L) (fun j u hj => by
        have hjl : j < L.length * 3 := by
          have := (List.getElem?_eq_some_iff.1 hj).1
          rwa [flat_len] at this
        have hne : L ≠ [] := fun e => by rw [e] at hjl; simp at hjl
        obtain ⟨b, off, e, hc⟩ := hA hne
        injection e with e
        subst e
        rw [Addr.add_lit]
        exact vrow_cell hc j u hj) (fun u hu => by
        obtain ⟨r, _, hu⟩ := List.mem_flatMap.1 hu
        simp [Vl.cells] at hu; rcases hu with rfl | rfl | rfl <;> rfl) (by unfold maxLen; omega) (by omega) (Nat.le_refl _)
    refine ⟨R, W', hrun, ?_, ?_⟩
    · unfold OwnV; simpa using hown
    · exact (Below.refl _ w).grown hg (Nat.le_refl _) fun k hk => by cases hk
theorem copyV_any (A : Option Addr) (L : List Vl) (n c : Nat) (w : World) (hn : L.length = n) (hl : n ≤ 4398046511104) (hA : VRow w A L) (h0 : A = none → c = 0) :
    Calls Tryz.prog 72 #[.slice A n c] w fun e w' => ∃ v, e = .returned v ∧ Hid (OwnV w.heap.size w' v L) ∧ Hid (Below w.heap.size w w') := by
  obtain ⟨R, W, hrun, ho, hb⟩ := run_copyV w A L n c hn hl hA h0
  have HO := Lib.hid ho
  have HB := Lib.hid hb
  clear ho hb hn hl hA h0
  go_enter Tryz.func72, Tryz.ntmps72
  go_wp2_with (at_builtin; refine wpList_app rfl _ _ 24 24 rfl (.slice none 0 0) (.slice A n c) rfl rfl ⟨R, W, hrun, ?_⟩)
  go_ret
  exact ⟨_, rfl, HO, HB⟩
theorem run_copyC (w : World) (A : Option Addr) (L : List Cl) (n c : Nat) (hn : L.length = n) (hl : n ≤ 4398046511104) (hA : CRow w A L) (h0 : A = none → c = 0) :
    ∃ R W', (Builtin.append_ #[25, 25] 25 #[.slice none 0 0, .slice A n c]).run Tryz.prog w = .ok R W' ∧ OwnC w.heap.size W' R L ∧ Below w.heap.size w W' := by
  subst hn
  obtain ⟨i0, hi, hz0, hz1, hz2⟩ := info_parts infoC
  cases A with
  | none =>
    obtain rfl : L = [] := Classical.byContradiction fun hne => by obtain ⟨b, off, e, _⟩ := hA hne; cases e
    obtain rfl := h0 rfl
    exact ⟨_, w, run_append_owned_none w w.heap.size 25 25 29 i0 3 Tryz.underlying25 hi (.slice none 0 0) 0 [] (World.ownsRow_nil _ _ _ _), World.ownsRow_nil _ _ _ _, Below.refl _ _⟩
  | some a =>
    obtain ⟨R, W', hrun, hown, hg, _, hx⟩ := run_append_own_at (P := Tryz.prog) w w.heap.size 25 25 29 i0 _ 3 32 Tryz.underlying25 hi hz0 hz1 hz2 rfl (by decide) (.slice none 0 0) 0 [] (World.ownsRow_nil _ _ _ _)
      a L.length c (L.flatMap Cl.cells) (cflat_len L) (fun j u hj => by
        have hjl : j < L.length * 3 := by
          have := (List.getElem?_eq_some_iff.1 hj).1
          rwa [cflat_len] at this
        have hne : L ≠ [] := fun e => by rw [e] at hjl; simp at hjl
        obtain ⟨b, off, e, hc⟩ := hA hne
        injection e with e
        subst e
        rw [Addr.add_lit]
        exact crow_cell hc j u hj) (fun u hu => by
        obtain ⟨r, _, hu⟩ := List.mem_flatMap.1 hu
        simp [Cl.cells] at hu; rcases hu with rfl | rfl | rfl <;> rfl) (by unfold maxLen; omega) (by omega) (Nat.le_refl _)
    refine ⟨R, W', hrun, ?_, ?_⟩
    · unfold OwnC; simpa using hown
    · exact (Below.refl _ w).grown hg (Nat.le_refl _) fun k hk => by cases hk
theorem copyC_any (A : Option Addr) (L : List Cl) (n c : Nat) (w : World) (hn : L.length = n) (hl : n ≤ 4398046511104) (hA : CRow w A L) (h0 : A = none → c = 0) :
    Calls Tryz.prog 73 #[.slice A n c] w fun e w' => ∃ v, e = .returned v ∧ Hid (OwnC w.heap.size w' v L) ∧ Hid (Below w.heap.size w w') := by
  obtain ⟨R, W, hrun, ho, hb⟩ := run_copyC w A L n c hn hl hA h0
  have HO := Lib.hid ho
  have HB := Lib.hid hb
  clear ho hb hn hl hA h0
  go_enter Tryz.func73, Tryz.ntmps73
  go_wp2_with (at_builtin; refine wpList_app rfl _ _ 25 25 rfl (.slice none 0 0) (.slice A n c) rfl rfl ⟨R, W, hrun, ?_⟩)
  go_ret
  exact ⟨_, rfl, HO, HB⟩
theorem ownV_at {B : Nat} {w : World} {v : Value} {L : List Vl} (h : OwnV B w v L) : ∃ A n c, v = .slice A n c ∧ Hid (L.length = n) ∧ Hid (VRow w A L) ∧ Hid (A = none → c = 0) ∧ Hid (∀ a, A = some a → B ≤ a.block ∧ a.block < w.heap.size) := by
  obtain ⟨A, c, e, h1, h2, h3, h4⟩ := ownV_row h
  subst e
  exact ⟨A, L.length, c, rfl, rfl, h3, h4, fun a e => World.ownsRow.lt h a.block (by rw [e]; rfl)⟩
theorem ownC_at {B : Nat} {w : World} {v : Value} {L : List Cl} (h : OwnC B w v L) : ∃ A n c, v = .slice A n c ∧ Hid (L.length = n) ∧ Hid (CRow w A L) ∧ Hid (A = none → c = 0) ∧ Hid (∀ a, A = some a → B ≤ a.block ∧ a.block < w.heap.size) := by
  obtain ⟨A, c, e, h1, h2, h3, h4⟩ := ownC_row h
  subst e
  exact ⟨A, L.length, c, rfl, rfl, h3, h4, fun a e => World.ownsRow.lt h a.block (by rw [e]; rfl)⟩
end Go.Proofs.YtlhfdhmmdnkojaaGreatDoor
namespace Go.Proofs.YtlhfdhmmdnkojaaGreatDoor
open Go.RowKit Dg
/-- An event. -/
structure Ev where
  k : Int
  n : Int
  t : ByteArray
  B : List Vl
  A : List Vl
  ck : Int
  ct : ByteArray
  L : List Cl
  K : Int
  cl : Cl
def chF (x y : Ev) : Bool := x.ck == y.ck && x.ct.toList == y.ct.toList && x.cl.eqb y.cl && ssF x.L x.K y.L y.K
def evF (x y : Ev) : Bool := x.k == y.k && x.n == y.n && x.t.toList == y.t.toList && vsF x.B y.B && vsF x.A y.A && chF x y
theorem Cl.eqb_iff (x y : Cl) : x.eqb y = true ↔ x = y := by
  obtain ⟨a, b, c⟩ := x
  obtain ⟨a', b', c'⟩ := y
  simp only [Cl.eqb, Bool.and_eq_true, beq_iff_eq, Cl.mk.injEq]
  constructor
  · rintro ⟨⟨h, rfl⟩, rfl⟩; exact ⟨toList_inj h, rfl, rfl⟩
  · rintro ⟨rfl, rfl, rfl⟩; exact ⟨⟨rfl, rfl⟩, rfl⟩
set_option maxHeartbeats 4000000 in
set_option maxRecDepth 100000 in
theorem vsameB_any (A : Option Addr) (L : List Vl) (n c : Nat) (A' : Option Addr) (M : List Vl) (n' c' : Nat) (w : World) (hn : L.length = n) (hn' : M.length = n') (hl : (n : Int) ≤ 9223372036854775807) (hA : VRow w A L) (hA' : VRow w A' M) :
    Calls Tryz.prog 68 #[.slice A n c, .slice A' n' c'] w fun e w' => e = .returned (.bool (vsF L M)) ∧ Hid (Below w.heap.size w w') := by
  have HN := Lib.hid hn
  have HN' := Lib.hid hn'
  have HA := Lib.hid hA
  have HA' := Lib.hid hA'
  have eq := eqV
  clear hn hA hA' hn'
  by_cases hnn : n = n'
  · subst hnn
    have HC : Hid (vsF L M = vsTo L M n) := by show _ = _; unfold vsF; rw [HN.out, HN'.out]; simp
    go_enter Tryz.func68, Tryz.ntmps68
    go_wp2_with fail
    go_loopw [5] (fun i wr => ∃ k : Nat, k ≤ n ∧ i = .int .i64 k ∧ Hid (vsTo L M k = true) ∧ Hid (Below w.heap.size w wr)) (fun i _ => n - (intOf i).toNat)
    case atStart => exact ⟨0, by omega, rfl, rfl, Below.refl _ _⟩
    case round =>
      obtain ⟨k, hk, rfl, HT, HB⟩ := hrel
      by_cases hlt : k < n
      · have hkl : k < L.length := by rw [HN.out]; exact hlt
        have hkm : k < M.length := by rw [HN'.out]; exact hlt
        obtain ⟨b, off, rfl, hc⟩ := (HA.out.below HB.out) (by intro e; rw [e] at hkl; simp at hkl)
        obtain ⟨b', off', rfl, hc'⟩ := (HA'.out.below HB.out) (by intro e; rw [e] at hkm; simp at hkm)
        obtain ⟨c0, c1, c2⟩ := hc k hkl
        obtain ⟨d0, d1, d2⟩ := hc' k hkm
        have HS := Lib.hid (vsTo_succ L M k hkl hkm)
        have HF := Lib.hid (vsTo_false L M k n hlt hkl hkm)
        clear hc hc'
        generalize L[k] = x at *
        generalize M[k] = y at *
        obtain ⟨xk, xn, xs⟩ := x
        obtain ⟨yk, yn, ys⟩ := y
        simp only at c0 c1 c2 d0 d1 d2
        have hkz : (k : Int) < (n : Int) := by omega
        have hk0 : (0 : Int) ≤ (k : Int) := by omega
        have HE : Hid (Vl.eqb ⟨xk, xn, xs⟩ ⟨yk, yn, ys⟩ = (xk == yk && xn == yn && xs.toList == ys.toList)) := rfl
        generalize hq : (xk == yk && xn == yn && xs.toList == ys.toList) = q at *
        have eq2 : ∀ W, (Op.equalIn 10000 113 (.agg #[.int .i64 xk, .int .i64 xn, .string xs]) (.agg #[.int .i64 yk, .int .i64 yn, .string ys])).run Tryz.prog W = .ok q W := fun W => by rw [eq, hq]
        clear eq hq
        cases q
        · go_wp2_with fail
          go_region
          all_goals
            go_wp2_with fail
            go_ret
            exact ⟨by rw [HC.out, HF.out HE.out]; rfl, HB.out.drew⟩
        · go_wp2_with fail
          go_region
          all_goals
            go_wp2_with fail
            go_roundw
            case rel => exact ⟨k + 1, by omega, by go_num, by show _ = _; rw [HS.out, HT.out, HE.out]; rfl, HB.out.drew⟩
            case measure => simp [intOf]; omega
      · obtain rfl : k = n := by omega
        go_wp2_with fail
        go_ret
        exact ⟨by rw [HC.out, HT.out]; rfl, HB⟩
  · have HC : Hid (vsF L M = false) := by show _ = _; unfold vsF; rw [HN.out, HN'.out]; simp [hnn]
    have hq : ((n : Int) != (n' : Int)) = true := by simp; omega
    go_enter Tryz.func68, Tryz.ntmps68
    go_wp2_with fail
    go_ret
    exact ⟨by rw [HC.out]; rfl, Below.refl _ _⟩
set_option maxHeartbeats 4000000 in
set_option maxRecDepth 100000 in
theorem equalV_any (A : Option Addr) (L : List Vl) (n c : Nat) (A' : Option Addr) (M : List Vl) (n' c' : Nat) (w : World) (hn : L.length = n) (hn' : M.length = n') (hl : (n : Int) ≤ 9223372036854775807) (hA : VRow w A L) (hA' : VRow w A' M) :
    Calls Tryz.prog 69 #[.slice A n c, .slice A' n' c'] w fun e w' => e = .returned (.bool (vsF L M)) ∧ Hid (Below w.heap.size w w') := by
  have HN := Lib.hid hn
  have HN' := Lib.hid hn'
  have HA := Lib.hid hA
  have HA' := Lib.hid hA'
  have eq := eqV
  clear hn hA hA' hn'
  by_cases hnn : n = n'
  · subst hnn
    have HC : Hid (vsF L M = vsTo L M n) := by show _ = _; unfold vsF; rw [HN.out, HN'.out]; simp
    go_enter Tryz.func69, Tryz.ntmps69
    go_wp2_with fail
    go_loopw [13] (fun i wr => ∃ k : Nat, k ≤ n ∧ i = .int .i64 k ∧ Hid (vsTo L M k = true) ∧ Hid (Below w.heap.size w wr)) (fun i _ => n - (intOf i).toNat)
    case atStart => exact ⟨0, by omega, rfl, rfl, Below.refl _ _⟩
    case round =>
      obtain ⟨k, hk, rfl, HT, HB⟩ := hrel
      by_cases hlt : k < n
      · have hkl : k < L.length := by rw [HN.out]; exact hlt
        have hkm : k < M.length := by rw [HN'.out]; exact hlt
        obtain ⟨b, off, rfl, hc⟩ := (HA.out.below HB.out) (by intro e; rw [e] at hkl; simp at hkl)
        obtain ⟨b', off', rfl, hc'⟩ := (HA'.out.below HB.out) (by intro e; rw [e] at hkm; simp at hkm)
        obtain ⟨c0, c1, c2⟩ := hc k hkl
        obtain ⟨d0, d1, d2⟩ := hc' k hkm
        have HS := Lib.hid (vsTo_succ L M k hkl hkm)
        have HF := Lib.hid (vsTo_false L M k n hlt hkl hkm)
        clear hc hc'
        generalize L[k] = x at *
        generalize M[k] = y at *
        obtain ⟨xk, xn, xs⟩ := x
        obtain ⟨yk, yn, ys⟩ := y
        simp only at c0 c1 c2 d0 d1 d2
        have hkz : (k : Int) < (n : Int) := by omega
        have hk0 : (0 : Int) ≤ (k : Int) := by omega
        have HE : Hid (Vl.eqb ⟨xk, xn, xs⟩ ⟨yk, yn, ys⟩ = (xk == yk && xn == yn && xs.toList == ys.toList)) := rfl
        generalize hq : (xk == yk && xn == yn && xs.toList == ys.toList) = q at *
        have eq2 : ∀ W, (Op.equalIn 10000 113 (.agg #[.int .i64 xk, .int .i64 xn, .string xs]) (.agg #[.int .i64 yk, .int .i64 yn, .string ys])).run Tryz.prog W = .ok q W := fun W => by rw [eq, hq]
        clear eq hq
        cases q
        · go_wp2_with fail
          go_region
          all_goals
            go_wp2_with fail
            go_ret
            exact ⟨by rw [HC.out, HF.out HE.out]; rfl, HB.out.drew⟩
        · go_wp2_with fail
          go_region
          all_goals
            go_wp2_with fail
            go_roundw
            case rel => exact ⟨k + 1, by omega, by go_num, by show _ = _; rw [HS.out, HT.out, HE.out]; rfl, HB.out.drew⟩
            case measure => simp [intOf]; omega
      · obtain rfl : k = n := by omega
        go_wp2_with fail
        go_ret
        exact ⟨by rw [HC.out, HT.out]; rfl, HB⟩
  · have HC : Hid (vsF L M = false) := by show _ = _; unfold vsF; rw [HN.out, HN'.out]; simp [hnn]
    have hq : ((n : Int) != (n' : Int)) = true := by simp; omega
    go_enter Tryz.func69, Tryz.ntmps69
    go_wp2_with fail
    go_ret
    exact ⟨by rw [HC.out]; rfl, Below.refl _ _⟩
end Go.Proofs.YtlhfdhmmdnkojaaGreatDoor
namespace Go.Proofs.YtlhfdhmmdnkojaaGreatDoor
open Go.RowKit Dg
def chG (ck ck' : Int) (ct ct' : ByteArray) (q q' : Cl) (L L' : List Cl) (K K' : Int) : Bool := ck == ck' && ct.toList == ct'.toList && q.eqb q' && ssF L K L' K'
theorem chF_eq (x y : Ev) : chF x y = chG x.ck y.ck x.ct y.ct x.cl y.cl x.L y.L x.K y.K := rfl
/-- An event whose value and rows are known. -/
structure EvAt (w : World) (v : Value) (x : Ev) : Prop where
  known : ∃ Ab nb zb Aa na za A n c, v = .agg #[.int .i64 x.k, .int .i64 x.n, .string x.t, .slice Ab nb zb, .slice Aa na za, .int .i64 x.ck, .string x.ct, .slice A n c, .int .i64 x.K, .string x.cl.nm, .int .i64 x.cl.k, .bool x.cl.no] ∧ (x.B.length = nb ∧ (nb : Int) ≤ 9223372036854775807 ∧ VRow w Ab x.B) ∧ (x.A.length = na ∧ (na : Int) ≤ 9223372036854775807 ∧ VRow w Aa x.A) ∧ x.L.length = n ∧ n ≤ 1000 ∧ CRow w A x.L
theorem EvAt.below {w w' : World} {v : Value} {x : Ev} (h : EvAt w v x) (hb : Below w.heap.size w w') : EvAt w' v x := by
  obtain ⟨Ab, nb, zb, Aa, na, za, A, n, c, e, ⟨h1, h2, h3⟩, ⟨h4, h5, h6⟩, h7, h8, h9⟩ := h.known
  exact ⟨Ab, nb, zb, Aa, na, za, A, n, c, e, ⟨h1, h2, h3.below hb⟩, ⟨h4, h5, h6.below hb⟩, h7, h8, h9.below hb⟩
set_option maxHeartbeats 2000000 in
set_option maxRecDepth 100000 in
theorem schange_any (ck : Int) (ct : ByteArray) (A : Option Addr) (L : List Cl) (n c : Nat) (K : Int) (cn : ByteArray) (cq : Int) (cb : Bool) (ck' : Int) (ct' : ByteArray) (A' : Option Addr) (L' : List Cl) (n' c' : Nat) (K' : Int) (cn' : ByteArray) (cq' : Int) (cb' : Bool) (w : World) (hn : L.length = n) (hn' : L'.length = n') (hl : n ≤ 1000) (hl' : n' ≤ 1000) (hA : CRow w A L) (hA' : CRow w A' L') :
    Calls Tryz.prog 70 #[.agg #[.int .i64 ck, .string ct, .slice A n c, .int .i64 K, .string cn, .int .i64 cq, .bool cb], .agg #[.int .i64 ck', .string ct', .slice A' n' c', .int .i64 K', .string cn', .int .i64 cq', .bool cb']] w fun e w' => e = .returned (.bool (chG ck ck' ct ct' ⟨cn, cq, cb⟩ ⟨cn', cq', cb'⟩ L L' K K')) ∧ Hid (Below w.heap.size w w') := by
  have HB := Lib.hid (((Below.refl w.heap.size w).alloc (Nat.le_refl _) (.cells #[.int .i64 ck, .string ct, .slice A n c, .int .i64 K, .string cn, .int .i64 cq, .bool cb] 31)).alloc (by simp) (.cells #[.int .i64 ck', .string ct', .slice A' n' c', .int .i64 K', .string cn', .int .i64 cq', .bool cb'] 31))
  have HC := Lib.hid (same4_any A L n c K A' L' n' c' K' ((w.alloc (.cells #[.int .i64 ck, .string ct, .slice A n c, .int .i64 K, .string cn, .int .i64 cq, .bool cb] 31)).alloc (.cells #[.int .i64 ck', .string ct', .slice A' n' c', .int .i64 K', .string cn', .int .i64 cq', .bool cb'] 31)) hn hn' hl hl' (hA.below HB.out) (hA'.below HB.out))
  have eq := eqC
  clear hn hn' hA hA'
  cases h0 : (ck == ck')
  · have HS : Hid (chG ck ck' ct ct' ⟨cn, cq, cb⟩ ⟨cn', cq', cb'⟩ L L' K K' = false) := by show _ = _; unfold chG; simp [h0]
    go_enter Tryz.func70, Tryz.ntmps70
    go_wp2_with fail
    go_ret
    exact ⟨by rw [HS.out]; rfl, HB⟩
  · skip
    cases h1 : (ct.toList == ct'.toList)
    · have HS : Hid (chG ck ck' ct ct' ⟨cn, cq, cb⟩ ⟨cn', cq', cb'⟩ L L' K K' = false) := by show _ = _; unfold chG; simp [h0, h1]
      go_enter Tryz.func70, Tryz.ntmps70
      go_wp2_with fail
      go_ret
      exact ⟨by rw [HS.out]; rfl, HB⟩
    · skip
      cases h2 : Cl.eqb ⟨cn, cq, cb⟩ ⟨cn', cq', cb'⟩
      · have HS : Hid (chG ck ck' ct ct' ⟨cn, cq, cb⟩ ⟨cn', cq', cb'⟩ L L' K K' = false) := by show _ = _; unfold chG; simp [h0, h1, h2]
        go_enter Tryz.func70, Tryz.ntmps70
        go_wp2_with fail
        go_ret
        exact ⟨by rw [HS.out]; rfl, HB⟩
      · skip
        have HS : Hid (chG ck ck' ct ct' ⟨cn, cq, cb⟩ ⟨cn', cq', cb'⟩ L L' K K' = ssF L K L' K') := by show _ = _; unfold chG; simp [h0, h1, h2]
        go_enter Tryz.func70, Tryz.ntmps70
        go_wp2_with fail
        refine HC.out.mono ?_
        rintro e w1 ⟨rfl, hb1⟩
        have HB1 := Lib.hid (HB.out.trans (hb1.out.mono HB.out.size))
        clear hb1 HC
        go_wp2_with fail
        go_ret
        exact ⟨by rw [HS.out]; rfl, HB1⟩
set_option maxHeartbeats 2000000 in
set_option maxRecDepth 100000 in
theorem rchange_any (ck : Int) (ct : ByteArray) (A : Option Addr) (L : List Cl) (n c : Nat) (K : Int) (cn : ByteArray) (cq : Int) (cb : Bool) (ck' : Int) (ct' : ByteArray) (A' : Option Addr) (L' : List Cl) (n' c' : Nat) (K' : Int) (cn' : ByteArray) (cq' : Int) (cb' : Bool) (w : World) (hn : L.length = n) (hn' : L'.length = n') (hl : n ≤ 1000) (hl' : n' ≤ 1000) (hA : CRow w A L) (hA' : CRow w A' L') :
    Calls Tryz.prog 55 #[.agg #[.int .i64 ck, .string ct, .slice A n c, .int .i64 K, .string cn, .int .i64 cq, .bool cb], .agg #[.int .i64 ck', .string ct', .slice A' n' c', .int .i64 K', .string cn', .int .i64 cq', .bool cb']] w fun e w' => e = .returned (.bool (chG ck ck' ct ct' ⟨cn, cq, cb⟩ ⟨cn', cq', cb'⟩ L L' K K')) ∧ Hid (Below w.heap.size w w') := by
  have HB := Lib.hid (((Below.refl w.heap.size w).alloc (Nat.le_refl _) (.cells #[.int .i64 ck, .string ct, .slice A n c, .int .i64 K, .string cn, .int .i64 cq, .bool cb] 31)).alloc (by simp) (.cells #[.int .i64 ck', .string ct', .slice A' n' c', .int .i64 K', .string cn', .int .i64 cq', .bool cb'] 31))
  have HC := Lib.hid (rsame_any A L n c K A' L' n' c' K' ((w.alloc (.cells #[.int .i64 ck, .string ct, .slice A n c, .int .i64 K, .string cn, .int .i64 cq, .bool cb] 31)).alloc (.cells #[.int .i64 ck', .string ct', .slice A' n' c', .int .i64 K', .string cn', .int .i64 cq', .bool cb'] 31)) hn hn' hl hl' (hA.below HB.out) (hA'.below HB.out))
  have HX := Lib.hid ((Has.new w 31 #[.int .i64 ck, .string ct, .slice A n c, .int .i64 K, .string cn, .int .i64 cq, .bool cb]).alloc (.cells #[.int .i64 ck', .string ct', .slice A' n' c', .int .i64 K', .string cn', .int .i64 cq', .bool cb'] 31))
  have hy := Has.new (w.alloc (.cells #[.int .i64 ck, .string ct, .slice A n c, .int .i64 K, .string cn, .int .i64 cq, .bool cb] 31)) 31 #[.int .i64 ck', .string ct', .slice A' n' c', .int .i64 K', .string cn', .int .i64 cq', .bool cb']
  rw [show (w.alloc (.cells #[.int .i64 ck, .string ct, .slice A n c, .int .i64 K, .string cn, .int .i64 cq, .bool cb] 31)).heap.size = w.heap.size + 1 by simp] at hy
  have HY := Lib.hid hy
  clear hy
  have eq := eqC
  clear hn hn' hA hA'
  obtain ⟨q, hq⟩ : ∃ q, ssF L K L' K' = q := ⟨_, rfl⟩
  have HS : Hid (chG ck ck' ct ct' ⟨cn, cq, cb⟩ ⟨cn', cq', cb'⟩ L L' K K' = (q && ck == ck' && ct.toList == ct'.toList && Cl.eqb ⟨cn, cq, cb⟩ ⟨cn', cq', cb'⟩)) := by
    show _ = _; unfold chG; rw [hq]; cases q <;> simp
  rw [hq] at HC
  clear hq
  go_enter Tryz.func55, Tryz.ntmps55
  go_wp2_with fail
  refine HC.out.mono ?_
  rintro e w1 ⟨rfl, hb1⟩
  replace HX := Lib.hid (HX.out.below hb1.out (by have := HX.out.lt; exact this))
  replace HY := Lib.hid (HY.out.below hb1.out (by have := HY.out.lt; exact this))
  replace HB := Lib.hid (HB.out.trans (hb1.out.mono HB.out.size))
  clear hb1 HC
  have x0 : w1.cell? ⟨w.heap.size, 0, none⟩ = some (.int .i64 ck) := HX.out.cell 0
  have x1 : w1.cell? ⟨w.heap.size, 1, none⟩ = some (.string ct) := HX.out.cell 1
  have x4 : w1.cell? ⟨w.heap.size, 4, none⟩ = some (.string cn) := HX.out.cell 4
  have x5 : w1.cell? ⟨w.heap.size, 5, none⟩ = some (.int .i64 cq) := HX.out.cell 5
  have x6 : w1.cell? ⟨w.heap.size, 6, none⟩ = some (.bool cb) := HX.out.cell 6
  have y0 : w1.cell? ⟨w.heap.size + 1, 0, none⟩ = some (.int .i64 ck') := HY.out.cell 0
  have y1 : w1.cell? ⟨w.heap.size + 1, 1, none⟩ = some (.string ct') := HY.out.cell 1
  have y4 : w1.cell? ⟨w.heap.size + 1, 4, none⟩ = some (.string cn') := HY.out.cell 4
  have y5 : w1.cell? ⟨w.heap.size + 1, 5, none⟩ = some (.int .i64 cq') := HY.out.cell 5
  have y6 : w1.cell? ⟨w.heap.size + 1, 6, none⟩ = some (.bool cb') := HY.out.cell 6
  cases q
  · go_wp2_with fail
    go_ret
    exact ⟨by rw [HS.out]; rfl, HB⟩
  · skip
    cases h0 : (ck == ck')
    · go_wp2_with fail
      go_ret
      exact ⟨by rw [HS.out, h0]; rfl, HB⟩
    · skip
      cases h1 : (ct.toList == ct'.toList)
      · go_wp2_with fail
        go_ret
        exact ⟨by rw [HS.out, h0, h1]; rfl, HB⟩
      · skip
        cases h2 : Cl.eqb ⟨cn, cq, cb⟩ ⟨cn', cq', cb'⟩
        · go_wp2_with fail
          go_ret
          exact ⟨by rw [HS.out, h0, h1, h2]; rfl, HB⟩
        · go_wp2_with fail
          go_ret
          exact ⟨by rw [HS.out, h0, h1, h2]; rfl, HB⟩
end Go.Proofs.YtlhfdhmmdnkojaaGreatDoor
namespace Go.Proofs.YtlhfdhmmdnkojaaGreatDoor
open Go.RowKit Dg
set_option maxHeartbeats 4000000 in
set_option maxRecDepth 100000 in
theorem esame_any (v v' : Value) (x y : Ev) (w : World) (hx : EvAt w v x) (hy : EvAt w v' y) :
    Calls Tryz.prog 21 #[v, v'] w fun e w' => e = .returned (.bool (evF x y)) ∧ Hid (Below w.heap.size w w') := by
  obtain ⟨Ab, nb, zb, Aa, na, za, A, n, c, rfl, ⟨h1, h2, h3⟩, ⟨h4, h5, h6⟩, h7, h8, h9⟩ := hx.known
  obtain ⟨Ab', nb', zb', Aa', na', za', A', n', c', rfl, ⟨h1', h2', h3'⟩, ⟨h4', h5', h6'⟩, h7', h8', h9'⟩ := hy.known
  clear hx hy
  obtain ⟨k, m, t, Bl, Al, ck, ct, L, K, ⟨cn, cq, cb⟩⟩ := x
  obtain ⟨k', m', t', Bl', Al', ck', ct', L', K', ⟨cn', cq', cb'⟩⟩ := y
  simp only at h1 h3 h4 h6 h7 h9 h1' h3' h4' h6' h7' h9'
  obtain ⟨qc, hqc⟩ : ∃ q, chG ck ck' ct ct' ⟨cn, cq, cb⟩ ⟨cn', cq', cb'⟩ L L' K K' = q := ⟨_, rfl⟩
  obtain ⟨qb, hqb⟩ : ∃ q, vsF Bl Bl' = q := ⟨_, rfl⟩
  obtain ⟨qa, hqa⟩ : ∃ q, vsF Al Al' = q := ⟨_, rfl⟩
  have HS : Hid (evF ⟨k, m, t, Bl, Al, ck, ct, L, K, ⟨cn, cq, cb⟩⟩ ⟨k', m', t', Bl', Al', ck', ct', L', K', ⟨cn', cq', cb'⟩⟩ = (k == k' && m == m' && t.toList == t'.toList && qb && qa && qc)) := by
    show _ = _; unfold evF; rw [chF_eq]; simp only [hqb, hqa, hqc]
  have HB := Lib.hid (((Below.refl w.heap.size w).alloc (Nat.le_refl _) (.cells #[.int .i64 k, .int .i64 m, .string t, .slice Ab nb zb, .slice Aa na za, .int .i64 ck, .string ct, .slice A n c, .int .i64 K, .string cn, .int .i64 cq, .bool cb] 33)).alloc (by simp) (.cells #[.int .i64 k', .int .i64 m', .string t', .slice Ab' nb' zb', .slice Aa' na' za', .int .i64 ck', .string ct', .slice A' n' c', .int .i64 K', .string cn', .int .i64 cq', .bool cb'] 33))
  have HX := Lib.hid ((Has.new w 33 #[.int .i64 k, .int .i64 m, .string t, .slice Ab nb zb, .slice Aa na za, .int .i64 ck, .string ct, .slice A n c, .int .i64 K, .string cn, .int .i64 cq, .bool cb]).alloc (.cells #[.int .i64 k', .int .i64 m', .string t', .slice Ab' nb' zb', .slice Aa' na' za', .int .i64 ck', .string ct', .slice A' n' c', .int .i64 K', .string cn', .int .i64 cq', .bool cb'] 33))
  have hy := Has.new (w.alloc (.cells #[.int .i64 k, .int .i64 m, .string t, .slice Ab nb zb, .slice Aa na za, .int .i64 ck, .string ct, .slice A n c, .int .i64 K, .string cn, .int .i64 cq, .bool cb] 33)) 33 #[.int .i64 k', .int .i64 m', .string t', .slice Ab' nb' zb', .slice Aa' na' za', .int .i64 ck', .string ct', .slice A' n' c', .int .i64 K', .string cn', .int .i64 cq', .bool cb']
  rw [show (w.alloc (.cells #[.int .i64 k, .int .i64 m, .string t, .slice Ab nb zb, .slice Aa na za, .int .i64 ck, .string ct, .slice A n c, .int .i64 K, .string cn, .int .i64 cq, .bool cb] 33)).heap.size = w.heap.size + 1 by simp] at hy
  have HY := Lib.hid hy
  have CB := Lib.hid (fun (W : World) (hb : Below w.heap.size w W) => equalV_any Ab Bl nb zb Ab' Bl' nb' zb' W h1 h1' (by omega) (h3.below hb) (h3'.below hb))
  have CA := Lib.hid (fun (W : World) (hb : Below w.heap.size w W) => equalV_any Aa Al na za Aa' Al' na' za' W h4 h4' (by omega) (h6.below hb) (h6'.below hb))
  have CC := Lib.hid (fun (W : World) (hb : Below w.heap.size w W) => schange_any ck ct A L n c K cn cq cb ck' ct' A' L' n' c' K' cn' cq' cb' W h7 h7' h8 h8' (h9.below hb) (h9'.below hb))
  rw [hqb] at CB
  rw [hqa] at CA
  rw [hqc] at CC
  clear hy h1 h1' h3 h3' h4 h4' h6 h6' h7 h7' h9 h9' hqa hqb hqc
  cases g0 : (k == k')
  · replace HS := Lib.hid (HS.out.trans (show _ = false by simp [g0]))
    go_enter Tryz.func21, Tryz.ntmps21
    go_wp2_with fail
    go_ret
    exact ⟨by rw [HS.out]; rfl, HB⟩
  · skip
    cases g1 : (m == m')
    · replace HS := Lib.hid (HS.out.trans (show _ = false by simp [g0, g1]))
      go_enter Tryz.func21, Tryz.ntmps21
      go_wp2_with fail
      go_ret
      exact ⟨by rw [HS.out]; rfl, HB⟩
    · skip
      cases g2 : (t.toList == t'.toList)
      · replace HS := Lib.hid (HS.out.trans (show _ = false by simp [g0, g1, g2]))
        go_enter Tryz.func21, Tryz.ntmps21
        go_wp2_with fail
        go_ret
        exact ⟨by rw [HS.out]; rfl, HB⟩
      · skip
        replace HS := Lib.hid (HS.out.trans (show _ = (qb && qa && qc) by simp [g0, g1, g2]))
        go_enter Tryz.func21, Tryz.ntmps21
        go_wp2_with fail
        refine (CB.out _ HB.out).mono ?_
        rintro e w1 ⟨rfl, hb1⟩
        have HB0 := Lib.hid (HB.out.trans (hb1.out.mono HB.out.size))
        have HX0 := Lib.hid (HX.out.below hb1.out HX.out.lt)
        have HY0 := Lib.hid (HY.out.below hb1.out HY.out.lt)
        clear hb1 HB HX HY
        have HB := HB0
        have HX := HX0
        have HY := HY0
        clear HB0 HX0 HY0
        have ax4 : w1.cell? ⟨w.heap.size, 4, none⟩ = some (.slice Aa na za) := HX.out.cell 4
        have ax5 : w1.cell? ⟨w.heap.size, 5, none⟩ = some (.int .i64 ck) := HX.out.cell 5
        have ax6 : w1.cell? ⟨w.heap.size, 6, none⟩ = some (.string ct) := HX.out.cell 6
        have ax7 : w1.cell? ⟨w.heap.size, 7, none⟩ = some (.slice A n c) := HX.out.cell 7
        have ax8 : w1.cell? ⟨w.heap.size, 8, none⟩ = some (.int .i64 K) := HX.out.cell 8
        have ax9 : w1.cell? ⟨w.heap.size, 9, none⟩ = some (.string cn) := HX.out.cell 9
        have ax10 : w1.cell? ⟨w.heap.size, 10, none⟩ = some (.int .i64 cq) := HX.out.cell 10
        have ax11 : w1.cell? ⟨w.heap.size, 11, none⟩ = some (.bool cb) := HX.out.cell 11
        have ay4 : w1.cell? ⟨w.heap.size + 1, 4, none⟩ = some (.slice Aa' na' za') := HY.out.cell 4
        have ay5 : w1.cell? ⟨w.heap.size + 1, 5, none⟩ = some (.int .i64 ck') := HY.out.cell 5
        have ay6 : w1.cell? ⟨w.heap.size + 1, 6, none⟩ = some (.string ct') := HY.out.cell 6
        have ay7 : w1.cell? ⟨w.heap.size + 1, 7, none⟩ = some (.slice A' n' c') := HY.out.cell 7
        have ay8 : w1.cell? ⟨w.heap.size + 1, 8, none⟩ = some (.int .i64 K') := HY.out.cell 8
        have ay9 : w1.cell? ⟨w.heap.size + 1, 9, none⟩ = some (.string cn') := HY.out.cell 9
        have ay10 : w1.cell? ⟨w.heap.size + 1, 10, none⟩ = some (.int .i64 cq') := HY.out.cell 10
        have ay11 : w1.cell? ⟨w.heap.size + 1, 11, none⟩ = some (.bool cb') := HY.out.cell 11
        cases qb
        · go_wp2_with fail
          go_ret
          exact ⟨by rw [HS.out]; rfl, HB⟩
        · go_wp2_with fail
          refine (CA.out _ HB.out).mono ?_
          rintro e w2 ⟨rfl, hb1⟩
          clear ax4 ax5 ax6 ax7 ax8 ax9 ax10 ax11 ay4 ay5 ay6 ay7 ay8 ay9 ay10 ay11
          have HB0 := Lib.hid (HB.out.trans (hb1.out.mono HB.out.size))
          have HX0 := Lib.hid (HX.out.below hb1.out HX.out.lt)
          have HY0 := Lib.hid (HY.out.below hb1.out HY.out.lt)
          clear hb1 HB HX HY
          have HB := HB0
          have HX := HX0
          have HY := HY0
          clear HB0 HX0 HY0
          have bx5 : w2.cell? ⟨w.heap.size, 5, none⟩ = some (.int .i64 ck) := HX.out.cell 5
          have bx6 : w2.cell? ⟨w.heap.size, 6, none⟩ = some (.string ct) := HX.out.cell 6
          have bx7 : w2.cell? ⟨w.heap.size, 7, none⟩ = some (.slice A n c) := HX.out.cell 7
          have bx8 : w2.cell? ⟨w.heap.size, 8, none⟩ = some (.int .i64 K) := HX.out.cell 8
          have bx9 : w2.cell? ⟨w.heap.size, 9, none⟩ = some (.string cn) := HX.out.cell 9
          have bx10 : w2.cell? ⟨w.heap.size, 10, none⟩ = some (.int .i64 cq) := HX.out.cell 10
          have bx11 : w2.cell? ⟨w.heap.size, 11, none⟩ = some (.bool cb) := HX.out.cell 11
          have by5 : w2.cell? ⟨w.heap.size + 1, 5, none⟩ = some (.int .i64 ck') := HY.out.cell 5
          have by6 : w2.cell? ⟨w.heap.size + 1, 6, none⟩ = some (.string ct') := HY.out.cell 6
          have by7 : w2.cell? ⟨w.heap.size + 1, 7, none⟩ = some (.slice A' n' c') := HY.out.cell 7
          have by8 : w2.cell? ⟨w.heap.size + 1, 8, none⟩ = some (.int .i64 K') := HY.out.cell 8
          have by9 : w2.cell? ⟨w.heap.size + 1, 9, none⟩ = some (.string cn') := HY.out.cell 9
          have by10 : w2.cell? ⟨w.heap.size + 1, 10, none⟩ = some (.int .i64 cq') := HY.out.cell 10
          have by11 : w2.cell? ⟨w.heap.size + 1, 11, none⟩ = some (.bool cb') := HY.out.cell 11
          cases qa
          · go_wp2_with fail
            go_ret
            exact ⟨by rw [HS.out]; rfl, HB⟩
          · go_wp2_with fail
            refine (CC.out _ HB.out).mono ?_
            rintro e w3 ⟨rfl, hb1⟩
            clear bx5 bx6 bx7 bx8 bx9 bx10 bx11 by5 by6 by7 by8 by9 by10 by11
            have HB0 := Lib.hid (HB.out.trans (hb1.out.mono HB.out.size))
            have HX0 := Lib.hid (HX.out.below hb1.out HX.out.lt)
            have HY0 := Lib.hid (HY.out.below hb1.out HY.out.lt)
            clear hb1 HB HX HY
            have HB := HB0
            have HX := HX0
            have HY := HY0
            clear HB0 HX0 HY0
            go_wp2_with fail
            go_ret
            exact ⟨by rw [HS.out]; rfl, HB⟩
set_option maxHeartbeats 4000000 in
set_option maxRecDepth 100000 in
theorem resame_any (v v' : Value) (x y : Ev) (w : World) (hx : EvAt w v x) (hy : EvAt w v' y) :
    Calls Tryz.prog 20 #[v, v'] w fun e w' => e = .returned (.bool (evF x y)) ∧ Hid (Below w.heap.size w w') := by
  obtain ⟨Ab, nb, zb, Aa, na, za, A, n, c, rfl, ⟨h1, h2, h3⟩, ⟨h4, h5, h6⟩, h7, h8, h9⟩ := hx.known
  obtain ⟨Ab', nb', zb', Aa', na', za', A', n', c', rfl, ⟨h1', h2', h3'⟩, ⟨h4', h5', h6'⟩, h7', h8', h9'⟩ := hy.known
  clear hx hy
  obtain ⟨k, m, t, Bl, Al, ck, ct, L, K, ⟨cn, cq, cb⟩⟩ := x
  obtain ⟨k', m', t', Bl', Al', ck', ct', L', K', ⟨cn', cq', cb'⟩⟩ := y
  simp only at h1 h3 h4 h6 h7 h9 h1' h3' h4' h6' h7' h9'
  obtain ⟨qc, hqc⟩ : ∃ q, chG ck ck' ct ct' ⟨cn, cq, cb⟩ ⟨cn', cq', cb'⟩ L L' K K' = q := ⟨_, rfl⟩
  obtain ⟨qb, hqb⟩ : ∃ q, vsF Bl Bl' = q := ⟨_, rfl⟩
  obtain ⟨qa, hqa⟩ : ∃ q, vsF Al Al' = q := ⟨_, rfl⟩
  have HS : Hid (evF ⟨k, m, t, Bl, Al, ck, ct, L, K, ⟨cn, cq, cb⟩⟩ ⟨k', m', t', Bl', Al', ck', ct', L', K', ⟨cn', cq', cb'⟩⟩ = (k == k' && m == m' && t.toList == t'.toList && qb && qa && qc)) := by
    show _ = _; unfold evF; rw [chF_eq]; simp only [hqb, hqa, hqc]
  have HB := Lib.hid (((Below.refl w.heap.size w).alloc (Nat.le_refl _) (.cells #[.int .i64 k, .int .i64 m, .string t, .slice Ab nb zb, .slice Aa na za, .int .i64 ck, .string ct, .slice A n c, .int .i64 K, .string cn, .int .i64 cq, .bool cb] 33)).alloc (by simp) (.cells #[.int .i64 k', .int .i64 m', .string t', .slice Ab' nb' zb', .slice Aa' na' za', .int .i64 ck', .string ct', .slice A' n' c', .int .i64 K', .string cn', .int .i64 cq', .bool cb'] 33))
  have HX := Lib.hid ((Has.new w 33 #[.int .i64 k, .int .i64 m, .string t, .slice Ab nb zb, .slice Aa na za, .int .i64 ck, .string ct, .slice A n c, .int .i64 K, .string cn, .int .i64 cq, .bool cb]).alloc (.cells #[.int .i64 k', .int .i64 m', .string t', .slice Ab' nb' zb', .slice Aa' na' za', .int .i64 ck', .string ct', .slice A' n' c', .int .i64 K', .string cn', .int .i64 cq', .bool cb'] 33))
  have hy := Has.new (w.alloc (.cells #[.int .i64 k, .int .i64 m, .string t, .slice Ab nb zb, .slice Aa na za, .int .i64 ck, .string ct, .slice A n c, .int .i64 K, .string cn, .int .i64 cq, .bool cb] 33)) 33 #[.int .i64 k', .int .i64 m', .string t', .slice Ab' nb' zb', .slice Aa' na' za', .int .i64 ck', .string ct', .slice A' n' c', .int .i64 K', .string cn', .int .i64 cq', .bool cb']
  rw [show (w.alloc (.cells #[.int .i64 k, .int .i64 m, .string t, .slice Ab nb zb, .slice Aa na za, .int .i64 ck, .string ct, .slice A n c, .int .i64 K, .string cn, .int .i64 cq, .bool cb] 33)).heap.size = w.heap.size + 1 by simp] at hy
  have HY := Lib.hid hy
  have CB := Lib.hid (fun (W : World) (hb : Below w.heap.size w W) => vsameB_any Ab Bl nb zb Ab' Bl' nb' zb' W h1 h1' (by omega) (h3.below hb) (h3'.below hb))
  have CA := Lib.hid (fun (W : World) (hb : Below w.heap.size w W) => vsameB_any Aa Al na za Aa' Al' na' za' W h4 h4' (by omega) (h6.below hb) (h6'.below hb))
  have CC := Lib.hid (fun (W : World) (hb : Below w.heap.size w W) => rchange_any ck ct A L n c K cn cq cb ck' ct' A' L' n' c' K' cn' cq' cb' W h7 h7' h8 h8' (h9.below hb) (h9'.below hb))
  rw [hqb] at CB
  rw [hqa] at CA
  rw [hqc] at CC
  clear hy h1 h1' h3 h3' h4 h4' h6 h6' h7 h7' h9 h9' hqa hqb hqc
  go_enter Tryz.func20, Tryz.ntmps20
  go_wp2_with fail
  refine (CC.out _ HB.out).mono ?_
  rintro e w1 ⟨rfl, hb1⟩
  have HB0 := Lib.hid (HB.out.trans (hb1.out.mono HB.out.size))
  have HX0 := Lib.hid (HX.out.below hb1.out HX.out.lt)
  have HY0 := Lib.hid (HY.out.below hb1.out HY.out.lt)
  clear hb1 HB HX HY
  have HB := HB0
  have HX := HX0
  have HY := HY0
  clear HB0 HX0 HY0
  have ax3 : w1.cell? ⟨w.heap.size, 3, none⟩ = some (.slice Ab nb zb) := HX.out.cell 3
  have ay3 : w1.cell? ⟨w.heap.size + 1, 3, none⟩ = some (.slice Ab' nb' zb') := HY.out.cell 3
  go_wp2_with fail
  refine (CB.out _ HB.out).mono ?_
  rintro e w2 ⟨rfl, hb1⟩
  clear ax3 ay3
  have HB0 := Lib.hid (HB.out.trans (hb1.out.mono HB.out.size))
  have HX0 := Lib.hid (HX.out.below hb1.out HX.out.lt)
  have HY0 := Lib.hid (HY.out.below hb1.out HY.out.lt)
  clear hb1 HB HX HY
  have HB := HB0
  have HX := HX0
  have HY := HY0
  clear HB0 HX0 HY0
  have bx4 : w2.cell? ⟨w.heap.size, 4, none⟩ = some (.slice Aa na za) := HX.out.cell 4
  have by4 : w2.cell? ⟨w.heap.size + 1, 4, none⟩ = some (.slice Aa' na' za') := HY.out.cell 4
  go_wp2_with fail
  refine (CA.out _ HB.out).mono ?_
  rintro e w3 ⟨rfl, hb1⟩
  clear bx4 by4
  have HB0 := Lib.hid (HB.out.trans (hb1.out.mono HB.out.size))
  have HX0 := Lib.hid (HX.out.below hb1.out HX.out.lt)
  have HY0 := Lib.hid (HY.out.below hb1.out HY.out.lt)
  clear hb1 HB HX HY
  have HB := HB0
  have HX := HX0
  have HY := HY0
  clear HB0 HX0 HY0
  have cx0 : w3.cell? ⟨w.heap.size, 0, none⟩ = some (.int .i64 k) := HX.out.cell 0
  have cx1 : w3.cell? ⟨w.heap.size, 1, none⟩ = some (.int .i64 m) := HX.out.cell 1
  have cx2 : w3.cell? ⟨w.heap.size, 2, none⟩ = some (.string t) := HX.out.cell 2
  have cy0 : w3.cell? ⟨w.heap.size + 1, 0, none⟩ = some (.int .i64 k') := HY.out.cell 0
  have cy1 : w3.cell? ⟨w.heap.size + 1, 1, none⟩ = some (.int .i64 m') := HY.out.cell 1
  have cy2 : w3.cell? ⟨w.heap.size + 1, 2, none⟩ = some (.string t') := HY.out.cell 2
  clear CA CB CC
  obtain ⟨q0, hq0⟩ : ∃ q, (k == k') = q := ⟨_, rfl⟩
  obtain ⟨q1, hq1⟩ : ∃ q, (m == m') = q := ⟨_, rfl⟩
  obtain ⟨q2, hq2⟩ : ∃ q, (t.toList == t'.toList) = q := ⟨_, rfl⟩
  rw [hq0, hq1, hq2] at HS
  cases qc
  · go_wp2_with fail
    go_ret
    exact ⟨by rw [HS.out]; simp, HB⟩
  · skip
    cases qb
    · go_wp2_with fail
      go_ret
      exact ⟨by rw [HS.out]; simp, HB⟩
    · skip
      cases qa
      · go_wp2_with fail
        go_ret
        exact ⟨by rw [HS.out]; simp, HB⟩
      · skip
        cases q0
        · go_wp2_with fail
          go_ret
          exact ⟨by rw [HS.out]; simp, HB⟩
        · skip
          cases q1
          · go_wp2_with fail
            go_ret
            exact ⟨by rw [HS.out]; simp, HB⟩
          · skip
            cases q2
            · go_wp2_with fail
              go_ret
              exact ⟨by rw [HS.out]; simp, HB⟩
            · skip
              go_wp2_with fail
              go_ret
              exact ⟨by rw [HS.out]; rfl, HB⟩
end Go.Proofs.YtlhfdhmmdnkojaaGreatDoor
namespace Go.Proofs.YtlhfdhmmdnkojaaGreatDoor
open Go.RowKit Go.Maps Dg
set_option maxRecDepth 100000
set_option linter.unusedVariables false
/-- A write. -/
structure Wd where
  k : Int
  t : ByteArray
  R : List Vl
  ck : Int
  ct : ByteArray
  L : List Cl
  K : Int
  cl : Cl
/-- A write's fields as those of an event. -/
def Wd.ev (x : Wd) : Ev := ⟨x.k, 0, x.t, [], x.R, x.ck, x.ct, x.L, x.K, x.cl⟩
/-- Are two writes the same? -/
def gF (x y : Wd) : Bool := evF x.ev y.ev
/-- A write as it lies: what it is, and where its rows are. -/
structure Gr where
  x : Wd
  Ar : Option Addr
  nr : Nat
  zr : Nat
  A : Option Addr
  n : Nat
  c : Nat
def Gr.row (r : Gr) : List Value := [.int .i64 r.x.k, .string r.x.t, .slice r.Ar r.nr r.zr, .int .i64 r.x.ck, .string r.x.ct, .slice r.A r.n r.c, .int .i64 r.x.K, .string r.x.cl.nm, .int .i64 r.x.cl.k, .bool r.x.cl.no]
def Gr.val (r : Gr) : Value := .agg #[.int .i64 r.x.k, .string r.x.t, .slice r.Ar r.nr r.zr, .int .i64 r.x.ck, .string r.x.ct, .slice r.A r.n r.c, .int .i64 r.x.K, .string r.x.cl.nm, .int .i64 r.x.cl.k, .bool r.x.cl.no]
/-- Its rows are known. -/
structure Gr.ok (w : World) (r : Gr) : Prop where
  b : r.x.R.length = r.nr ∧ r.nr ≤ 4398046511104 ∧ VRow w r.Ar r.x.R
  c : r.x.L.length = r.n ∧ r.n ≤ 1000 ∧ CRow w r.A r.x.L
theorem Gr.ok.below {w w' : World} {r : Gr} (h : r.ok w) (hb : Below w.heap.size w w') : r.ok w' :=
  ⟨⟨h.b.1, h.b.2.1, h.b.2.2.below hb⟩, ⟨h.c.1, h.c.2.1, h.c.2.2.below hb⟩⟩
theorem Gr.ok.at {w : World} {r : Gr} (h : r.ok w) : EvAt w (.agg #[.int .i64 r.x.k, .int .i64 0, .string r.x.t, .slice none 0 0, .slice r.Ar r.nr r.zr, .int .i64 r.x.ck, .string r.x.ct, .slice r.A r.n r.c, .int .i64 r.x.K, .string r.x.cl.nm, .int .i64 r.x.cl.k, .bool r.x.cl.no]) r.x.ev :=
  ⟨none, 0, 0, r.Ar, r.nr, r.zr, r.A, r.n, r.c, rfl, ⟨rfl, by omega, fun h => absurd rfl h⟩, ⟨h.b.1, by have := h.b.2.1; omega, h.b.2.2⟩, h.c.1, by have := h.c.2.1; omega, h.c.2.2⟩
/-- The cells at A read as the writes T. -/
def GRow (w : World) (A : Option Addr) (T : List Gr) : Prop := T ≠ [] → ∃ b off, A = some ⟨b, off, none⟩ ∧ ∀ i (h : i < T.length), ∀ j, j < 10 → w.cell? ⟨b, off + i * 10 + j, none⟩ = T[i].row[j]?
theorem GRow.nil (w : World) (A : Option Addr) : GRow w A [] := fun h => absurd rfl h
theorem grow10 (r : Gr) (j : Nat) (hj : j < 10) : ∃ v, r.row[j]? = some v := ⟨r.row[j]'(by simpa [Gr.row] using hj), List.getElem?_eq_getElem _⟩
theorem GRow.keep {w w' : World} {A : Option Addr} {T : List Gr} (h : GRow w A T) (hk : ∀ (p : Addr) (u : Value), (∃ b off, A = some ⟨b, off, none⟩ ∧ p.block = b) → w.cell? p = some u → w'.cell? p = some u) : GRow w' A T := fun hne => by
  obtain ⟨b, off, e, hc⟩ := h hne
  refine ⟨b, off, e, fun i hi j hj => ?_⟩
  obtain ⟨v, hv⟩ := grow10 T[i] j hj
  have h0 := hc i hi j hj
  rw [hv] at h0 ⊢
  exact hk _ _ ⟨b, off, e, rfl⟩ h0
theorem GRow.below {w w' : World} {A : Option Addr} {T : List Gr} (h : GRow w A T) (hb : Below w.heap.size w w') : GRow w' A T :=
  h.keep fun p u _ h => (hb.cell (World.block_lt_of_cell? w p h)).trans h
theorem GRow.tur {X : List Nat} {w w' : World} {A : Option Addr} {T : List Gr} (h : GRow w A T) (ht : Tur X w w') (ho : ∀ a, A = some a → a.block ∉ X) : GRow w' A T :=
  h.keep fun p u ⟨b, off, e, ep⟩ h => (World.cell?_of_block (ht.block p.block (World.block_lt_of_cell? w p h) (by rw [ep]; exact ho _ e))).trans h
theorem infoG : (Tryz.prog.info? 51).map (fun i => (i.zero, i.size, i.bytes)) = some (some (.agg #[.int .i64 0, .string ⟨#[]⟩, .slice none 0 0, .int .i64 0, .string ⟨#[]⟩, .slice none 0 0, .int .i64 0, .string ⟨#[]⟩, .int .i64 0, .bool false]), 10, 136) := by kernel_rfl
/-- Writes in a row of the call's own. -/
def OwnG (B : Nat) (w : World) (v : Value) (L : List Gr) : Prop := w.ownsRow B 51 10 v L.length (L.flatMap Gr.row)
theorem ownG_nil (B : Nat) (w : World) : OwnG B w (.slice none 0 0) [] := World.ownsRow_nil _ _ _ _
theorem OwnG.below {B : Nat} {w w' : World} {v : Value} {L : List Gr} (h : OwnG B w v L) (hb : Below w.heap.size w w') : OwnG B w' v L := by
  rcases h.2 with ⟨hv, hn⟩ | ⟨g, cap, cur, hv, hg, hh, hc, hcm, hsz, ht⟩
  · exact ⟨h.1, .inl ⟨hv, hn⟩⟩
  · exact ⟨h.1, .inr ⟨g, cap, cur, hv, hg, Has.below (t := 51) (cs := cur) hh hb (Has.lt (t := 51) (cs := cur) hh), hc, hcm, hsz, ht⟩⟩
theorem gflat_get (L : List Gr) (i j : Nat) (h : i < L.length) (hj : j < 10) : (L.flatMap Gr.row)[i * 10 + j]? = L[i].row[j]? := by
  induction L generalizing i with
  | nil => simp at h
  | cons x L ih =>
    rw [List.flatMap_cons]
    rcases i with _ | i
    · rw [List.getElem?_append_left (by simp [Gr.row]; omega)]
      simp
    · rw [List.getElem?_append_right (by simp [Gr.row]; omega)]
      have e : (i + 1) * 10 + j - x.row.length = i * 10 + j := by simp [Gr.row]; omega
      rw [e, ih i (by simpa using h)]
      simp
/-- Where it lies, if anywhere: its own block. -/
theorem ownG_row {B : Nat} {w : World} {v : Value} {T : List Gr} (h : OwnG B w v T) : ∃ A c, v = .slice A T.length c ∧ T.length ≤ c ∧ c ≤ maxLen ∧ GRow w A T ∧ (A = none → c = 0) ∧ (∀ a, A = some a → v.ownBlock = some a.block ∧ B ≤ a.block ∧ a.block < w.heap.size) := by
  rcases h.2 with ⟨hv, hn⟩ | ⟨g, cap, cur, hv, hg, hh, hc, hcm, hsz, ht⟩
  · obtain rfl := List.eq_nil_of_length_eq_zero hn
    exact ⟨none, 0, hv, Nat.le_refl _, Nat.zero_le _, fun h => absurd rfl h, (fun _ => rfl), (fun a e => by cases e)⟩
  · refine ⟨_, _, hv, hc, hcm, fun _ => ⟨g, 0, rfl, fun i hi j hj => ?_⟩, (fun e => by cases e), fun a e => ?_⟩
    · rw [Nat.zero_add, Has.cell (t := 51) (cs := cur) hh, ← gflat_get T i j hi hj, ← ht, List.getElem?_take, if_pos (by omega)]
      simp
    · obtain rfl : (⟨g, 0, none⟩ : Addr) = a := Option.some.inj e
      rw [hv]
      exact ⟨rfl, hg, Has.lt (t := 51) (cs := cur) hh⟩
/-- A row of the call's own, its length under a letter. -/
theorem ownG_open {B : Nat} {w : World} {v : Value} {T : List Gr} (h : OwnG B w v T) : ∃ A n c, v = .slice A n c ∧ Hid (T.length = n) ∧ n ≤ c ∧ c ≤ maxLen ∧ Hid (GRow w A T) ∧ Hid (A = none → c = 0) ∧ Hid (∀ a, A = some a → (Value.slice A n c).ownBlock = some a.block ∧ B ≤ a.block ∧ a.block < w.heap.size) := by
  obtain ⟨A, c, e, h1, h2, h3, h4, h5⟩ := ownG_row h
  subst e
  exact ⟨A, T.length, c, rfl, rfl, h1, h2, h3, h4, h5⟩
theorem OwnG.tur {X : List Nat} {B : Nat} {w w' : World} {v : Value} {T : List Gr} (h : OwnG B w v T) (ht : Tur X w w') (hx : ∀ g, v.ownBlock = some g → g ∉ X) : OwnG B w' v T := by
  rcases h.2 with ⟨hv, hn⟩ | ⟨g, cap, cur, hv, hg, hh, hc, hcm, hsz, htk⟩
  · exact ⟨h.1, .inl ⟨hv, hn⟩⟩
  · exact ⟨h.1, .inr ⟨g, cap, cur, hv, hg, Has.tur (t := 51) (cs := cur) hh ht (hx g (by rw [hv]; rfl)), hc, hcm, hsz, htk⟩⟩
theorem OwnG.mono {B C : Nat} {w : World} {v : Value} {T : List Gr} (h : OwnG B w v T) (hc : C ≤ B) : OwnG C w v T := by
  rcases h.2 with ⟨hv, hn⟩ | ⟨g, cap, cur, hv, hg, r⟩
  · exact ⟨h.1, .inl ⟨hv, hn⟩⟩
  · exact ⟨h.1, .inr ⟨g, cap, cur, hv, Nat.le_trans hc hg, r⟩⟩
/-- One write is put behind a row of the call's own. -/
theorem appG (w : World) (g : Nat) (hg0 : g = w.heap.size) (B : Nat) (v : Value) (T : List Gr) (r : Gr) (h : OwnG B w v T) (hB : B ≤ w.heap.size) (hl : T.length ≤ 1000000) :
    ∃ R W', (Builtin.append_ #[55, 55] 55 #[v, .slice (some ⟨g, 0, none⟩) 1 1]).run Tryz.prog (w.alloc (.cells #[.int .i64 r.x.k, .string r.x.t, .slice r.Ar r.nr r.zr, .int .i64 r.x.ck, .string r.x.ct, .slice r.A r.n r.c, .int .i64 r.x.K, .string r.x.cl.nm, .int .i64 r.x.cl.k, .bool r.x.cl.no] 51)) = .ok R W' ∧ OwnG B W' R (T ++ [r]) ∧ Tur v.ownBlock.toList w W' ∧ (∀ k, R.ownBlock = some k → v.ownBlock = some k ∨ w.heap.size ≤ k) := by
  subst hg0
  obtain ⟨i0, hi, hz0, hz1, hz2⟩ := info_parts infoG
  obtain ⟨R, W', hrun, hown, hg, _, hx⟩ := run_append_own_at (P := Tryz.prog) (w.alloc (.cells r.row.toArray 51)) B 55 55 51 i0 _ 10 136 Tryz.underlying55 hi hz0 hz1 hz2 rfl (by decide) v T.length (T.flatMap Gr.row) (World.ownsRow.alloc h _)
    ⟨w.heap.size, 0, none⟩ 1 1 r.row rfl (fun j u hj => by
      have := (Has.new w 51 r.row.toArray).cell j
      rw [List.getElem?_toArray] at this
      rw [Addr.add_lit, Nat.zero_add]
      exact this.trans hj) (fun u hu => by simp [Gr.row] at hu; rcases hu with rfl | rfl | rfl | rfl | rfl | rfl | rfl | rfl | rfl | rfl <;> rfl) (by unfold maxLen; omega) (by omega) (by simp; omega)
  refine ⟨R, W', hrun, ?_, ?_, ?_⟩
  · unfold OwnG; rw [List.flatMap_append, List.length_append]; simpa using hown
  · exact (Tur.alloc _ w _).trans (Tur.grown hg fun k hk => by rw [hk]; simp) (Fre.refl _ _)
  · intro k hk
    rcases hx with hx | hx
    · exact .inl (hx ▸ hk)
    · rw [hx] at hk
      injection hk with hk
      have : (w.alloc (.cells r.row.toArray 51)).heap.size = w.heap.size + 1 := by simp
      exact .inr (by omega)
end Go.Proofs.YtlhfdhmmdnkojaaGreatDoor
namespace Go.Proofs.YtlhfdhmmdnkojaaGreatDoor
open Go.RowKit Dg
set_option maxRecDepth 100000
set_option linter.unusedVariables false
theorem min2i (W : World) (a b n : Nat) (h : n = min a b) : (Builtin.min_ #[3, 3] 3 #[.int .i64 a, .int .i64 b]).run Tryz.prog W = .ok (.int .i64 n) W := by
  simp only [Builtin.min_, List.foldlM_cons, List.foldlM_nil, Builtin.min2, Sem.run_bind, Sem.run_pure, Result.andThen_ok]
  congr 2
  omega
theorem two (w : World) (a b : Array Value) (t u : TypeId) : Has ((w.alloc (.cells a t)).alloc (.cells b u)) (w.heap.size + 1) u b ∧ Hid (Below w.heap.size w ((w.alloc (.cells a t)).alloc (.cells b u))) := by
  have h := Has.new (w.alloc (.cells a t)) u b
  rw [World.size_alloc] at h
  exact ⟨h, ((Below.refl _ w).alloc (Nat.le_refl _) _).alloc (by simp) _⟩
theorem three1 (w : World) (a b c : Array Value) (t u v : TypeId) : Has (((w.alloc (.cells a t)).alloc (.cells b u)).alloc (.cells c v)) (w.heap.size + 1) u b ∧ Hid (Below w.heap.size w (((w.alloc (.cells a t)).alloc (.cells b u)).alloc (.cells c v))) := by
  obtain ⟨h, hb⟩ := two w a b t u
  exact ⟨h.alloc _, hb.out.alloc (by simp; omega) _⟩
def to40 (s : ByteArray) : ByteArray := s.extract 0 (min s.size 40)
theorem chEnd14 (w' : World) (g : Nat) (c0 c1 c2 c3 c4 c5 c6 : Value) (tmps : Array Value) (hp : tmps.getD 2 undef = .pointer (some ⟨g, 0, none⟩)) (hh : Has w' g 31 #[c0, c1, c2, c3, c4, c5, c6]) :
    (results Tryz.f24 tmps).run Tryz.prog w' = .ok (.agg #[c0, c1, c2, c3, c4, c5, c6]) w' :=
  results_cell_row rfl _ _ g 31 #[c0, c1, c2, c3, c4, c5, c6] (0, 0) _ hp hh Tryz.underlying31 rfl (by kernel_rfl)
set_option maxHeartbeats 2000000 in
theorem cut14_is (ck : Int) (ct : ByteArray) (A : Option Addr) (n c : Nat) (K : Int) (cn : ByteArray) (cq : Int) (cb : Bool) (w : World) (hnc : n ≤ c) (hcm : c ≤ maxLen) (ht : ct.size ≤ 140737488355328) (hc : cn.size ≤ 140737488355328) :
    Calls Tryz.prog 24 #[.agg #[.int .i64 ck, .string ct, .slice A n c, .int .i64 K, .string cn, .int .i64 cq, .bool cb]] w fun e w' => e = .returned (.agg #[.int .i64 ck, .string (to40 ct), .slice A (min n 20) c, .int .i64 K, .string (to40 cn), .int .i64 cq, .bool cb]) ∧ w' = (w.alloc (.cells #[.int .i64 ck, .string (to40 ct), .slice A (min n 20) c, .int .i64 K, .string (to40 cn), .int .i64 cq, .bool cb] 31)).alloc (.cells #[.int .i64 ck, .string (to40 ct), .slice A (min n 20) c, .int .i64 K, .string (to40 cn), .int .i64 cq, .bool cb] 31) := by
  have h1 : (Builtin.min_ #[3, 3] 3 #[.int .i64 (ct.size : Nat), .int .i64 (40 : Nat)]).run Tryz.prog = fun W => .ok (.int .i64 ((min ct.size 40 : Nat) : Int)) W := funext fun W => min2i W _ _ _ rfl
  go_enter Tryz.func24, Tryz.ntmps24
  go_wp2_with fail
  have e1 : ct.extract 0 (min (ct.size : Int) 40).toNat = to40 ct := by unfold to40; congr 1; omega
  have e2 : cn.extract 0 (min (cn.size : Int) 40).toNat = to40 cn := by unfold to40; congr 1; omega
  have e3 : (min (n : Int) 20).toNat = min n 20 := by omega
  rw [e1, e2, e3]
  obtain ⟨h2, hb⟩ := two w #[.int .i64 ck, .string (to40 ct), .slice A (min n 20) c, .int .i64 K, .string (to40 cn), .int .i64 cq, .bool cb] #[.int .i64 ck, .string (to40 ct), .slice A (min n 20) c, .int .i64 K, .string (to40 cn), .int .i64 cq, .bool cb] 31 31
  exact bodyPost_ret (chEnd14 _ (w.heap.size + 1) _ _ _ _ _ _ _ _ rfl h2) rfl ⟨rfl, rfl⟩
theorem toldEnd (w' : World) (g : Nat) (u0 u1 u2 u3 u4 u5 u6 u7 u8 u9 u10 u11 : Value) (tmps : Array Value) (hp : tmps.getD 2 undef = .pointer (some ⟨g, 0, none⟩)) (hh : Has w' g 33 #[u0, u1, u2, u3, u4, u5, u6, u7, u8, u9, u10, u11]) :
    (results Tryz.f130 tmps).run Tryz.prog w' = .ok (.agg #[u0, u1, u2, u3, u4, u5, u6, u7, u8, u9, u10, u11]) w' :=
  results_cell_row rfl _ _ g 33 #[u0, u1, u2, u3, u4, u5, u6, u7, u8, u9, u10, u11] (0, 0) _ hp hh Tryz.underlying33 rfl (by kernel_rfl)
/-- The kind of a write's event. -/
def tk (k : Int) : Int := if k = 1 then 4 else if k = 2 then 5 else if k = 3 then 6 else 0
set_option maxHeartbeats 4000000 in
theorem told_any (k : Int) (t : ByteArray) (Ar : Option Addr) (nr zr : Nat) (ck : Int) (ct : ByteArray) (A : Option Addr) (n c : Nat) (K : Int) (cn : ByteArray) (cq : Int) (cb : Bool) (w : World) :
    Calls Tryz.prog 130 #[.agg #[.int .i64 k, .string t, .slice Ar nr zr, .int .i64 ck, .string ct, .slice A n c, .int .i64 K, .string cn, .int .i64 cq, .bool cb]] w fun e w' => e = .returned (.agg #[.int .i64 (tk k), .int .i64 0, .string t, if k = 2 then .slice Ar nr zr else .slice none 0 0, if k = 2 then .slice none 0 0 else .slice Ar nr zr, .int .i64 ck, .string ct, .slice A n c, .int .i64 K, .string cn, .int .i64 cq, .bool cb]) ∧ Hid (Below w.heap.size w w') := by
  by_cases h1 : k = 1
  · subst h1
    go_enter Tryz.func130, Tryz.ntmps130
    go_wp2_with fail
    obtain ⟨h, hb⟩ := three1 w #[.int .i64 1, .string t, .slice Ar nr zr, .int .i64 ck, .string ct, .slice A n c, .int .i64 K, .string cn, .int .i64 cq, .bool cb] #[.int .i64 4, .int .i64 0, .string t, .slice none 0 0, .slice Ar nr zr, .int .i64 ck, .string ct, .slice A n c, .int .i64 K, .string cn, .int .i64 cq, .bool cb] #[.int .i64 4, .int .i64 0, .string t, .slice none 0 0, .slice Ar nr zr, .int .i64 ck, .string ct, .slice A n c, .int .i64 K, .string cn, .int .i64 cq, .bool cb] 51 33 33
    exact bodyPost_ret (toldEnd _ (w.heap.size + 1) _ _ _ _ _ _ _ _ _ _ _ _ _ rfl h) rfl ⟨by simp [tk], hb⟩
  by_cases h2 : k = 2
  · subst h2
    go_enter Tryz.func130, Tryz.ntmps130
    go_wp2_with fail
    go_region
    all_goals (go_wp2_with fail)
    all_goals (obtain ⟨h, hb⟩ := three1 w #[.int .i64 2, .string t, .slice Ar nr zr, .int .i64 ck, .string ct, .slice A n c, .int .i64 K, .string cn, .int .i64 cq, .bool cb] #[.int .i64 5, .int .i64 0, .string t, .slice Ar nr zr, .slice none 0 0, .int .i64 ck, .string ct, .slice A n c, .int .i64 K, .string cn, .int .i64 cq, .bool cb] #[.int .i64 5, .int .i64 0, .string t, .slice Ar nr zr, .slice none 0 0, .int .i64 ck, .string ct, .slice A n c, .int .i64 K, .string cn, .int .i64 cq, .bool cb] 51 33 33; exact bodyPost_ret (toldEnd _ (w.heap.size + 1) _ _ _ _ _ _ _ _ _ _ _ _ _ rfl h.drew) rfl ⟨by simp [tk], hb.out.drew⟩)
  by_cases h3 : k = 3
  · subst h3
    go_enter Tryz.func130, Tryz.ntmps130
    go_wp2_with fail
    obtain ⟨h, hb⟩ := three1 w #[.int .i64 3, .string t, .slice Ar nr zr, .int .i64 ck, .string ct, .slice A n c, .int .i64 K, .string cn, .int .i64 cq, .bool cb] #[.int .i64 6, .int .i64 0, .string t, .slice none 0 0, .slice Ar nr zr, .int .i64 ck, .string ct, .slice A n c, .int .i64 K, .string cn, .int .i64 cq, .bool cb] #[.int .i64 6, .int .i64 0, .string t, .slice none 0 0, .slice Ar nr zr, .int .i64 ck, .string ct, .slice A n c, .int .i64 K, .string cn, .int .i64 cq, .bool cb] 51 33 33
    exact bodyPost_ret (toldEnd _ (w.heap.size + 1) _ _ _ _ _ _ _ _ _ _ _ _ _ rfl h) rfl ⟨by simp [tk], hb⟩
  · have q1 : (k == 1) = false := by simpa using h1
    have q2 : (k == 2) = false := by simpa using h2
    have q3 : (k == 3) = false := by simpa using h3
    have ht : tk k = 0 := by unfold tk; rw [if_neg h1, if_neg h2, if_neg h3]
    go_enter Tryz.func130, Tryz.ntmps130
    go_wp2_with fail
    obtain ⟨h, hb⟩ := three1 w #[.int .i64 k, .string t, .slice Ar nr zr, .int .i64 ck, .string ct, .slice A n c, .int .i64 K, .string cn, .int .i64 cq, .bool cb] #[.int .i64 0, .int .i64 0, .string t, .slice none 0 0, .slice Ar nr zr, .int .i64 ck, .string ct, .slice A n c, .int .i64 K, .string cn, .int .i64 cq, .bool cb] #[.int .i64 0, .int .i64 0, .string t, .slice none 0 0, .slice Ar nr zr, .int .i64 ck, .string ct, .slice A n c, .int .i64 K, .string cn, .int .i64 cq, .bool cb] 51 33 33
    exact bodyPost_ret (toldEnd _ (w.heap.size + 1) _ _ _ _ _ _ _ _ _ _ _ _ _ rfl h) rfl ⟨by simp, hb⟩
end Go.Proofs.YtlhfdhmmdnkojaaGreatDoor
namespace Go.Proofs.YtlhfdhmmdnkojaaGreatDoor
open Go.RowKit Go.Maps Dg
set_option maxRecDepth 100000
set_option linter.unusedVariables false
def put10 (W : World) (g : Nat) (u0 u1 u2 u3 u4 u5 u6 u7 u8 u9 : Value) : World := ((((((((((W.setCell ⟨g, 0, none⟩ u0).setCell ⟨g, 1, none⟩ u1).setCell ⟨g, 2, none⟩ u2).setCell ⟨g, 3, none⟩ u3).setCell ⟨g, 4, none⟩ u4).setCell ⟨g, 5, none⟩ u5).setCell ⟨g, 6, none⟩ u6).setCell ⟨g, 7, none⟩ u7).setCell ⟨g, 8, none⟩ u8).setCell ⟨g, 9, none⟩ u9)
theorem put10_tur (W : World) (g : Nat) (u0 u1 u2 u3 u4 u5 u6 u7 u8 u9 : Value) : Tur [g] W (put10 W g u0 u1 u2 u3 u4 u5 u6 u7 u8 u9) := (((((((((((Tur.refl [g] W).trans (Tur.setCell _ (p := ⟨g, 0, none⟩) (by simp) u0) (Fre.refl _ _)).trans (Tur.setCell _ (p := ⟨g, 1, none⟩) (by simp) u1) (Fre.refl _ _)).trans (Tur.setCell _ (p := ⟨g, 2, none⟩) (by simp) u2) (Fre.refl _ _)).trans (Tur.setCell _ (p := ⟨g, 3, none⟩) (by simp) u3) (Fre.refl _ _)).trans (Tur.setCell _ (p := ⟨g, 4, none⟩) (by simp) u4) (Fre.refl _ _)).trans (Tur.setCell _ (p := ⟨g, 5, none⟩) (by simp) u5) (Fre.refl _ _)).trans (Tur.setCell _ (p := ⟨g, 6, none⟩) (by simp) u6) (Fre.refl _ _)).trans (Tur.setCell _ (p := ⟨g, 7, none⟩) (by simp) u7) (Fre.refl _ _)).trans (Tur.setCell _ (p := ⟨g, 8, none⟩) (by simp) u8) (Fre.refl _ _)).trans (Tur.setCell _ (p := ⟨g, 9, none⟩) (by simp) u9) (Fre.refl _ _))
theorem wEndB {fn : Func} {p u : Tmp} (h : fn.results = #[.cell p 51, .tmp u]) (w' : World) (g : Nat) (u0 u1 u2 u3 u4 u5 u6 u7 u8 u9 : Value) (tmps : Array Value) (hp : tmps.getD p undef = .pointer (some ⟨g, 0, none⟩)) (hh : Has w' g 51 #[u0, u1, u2, u3, u4, u5, u6, u7, u8, u9]) :
    (results fn tmps).run Tryz.prog w' = .ok (.tuple #[.agg #[u0, u1, u2, u3, u4, u5, u6, u7, u8, u9], tmps.getD u undef]) w' := by
  rw [results_cell_tmp h, hp]
  simp only [asAddr, Sem.run_pure, Result.andThen_ok]
  rw [run_loadVar_row w' g 51 51 #[u0, u1, u2, u3, u4, u5, u6, u7, u8, u9] (0, 0) _ hh Tryz.underlying51 rfl (by kernel_rfl)]
  rfl
/-- The value of the write that an event tells. -/
def ofV (k : Int) (t : ByteArray) (ra rb : Value) (ck : Int) (ct : ByteArray) (vc : Value) (K : Int) (cn : ByteArray) (cq : Int) (cb : Bool) : Value :=
  if k = 3 ∨ k = 4 then .agg #[.int .i64 1, .string t, ra, .int .i64 0, .string ⟨#[]⟩, .slice none 0 0, .int .i64 0, .string ⟨#[]⟩, .int .i64 0, .bool false]
  else if k = 5 then .agg #[.int .i64 2, .string t, rb, .int .i64 0, .string ⟨#[]⟩, .slice none 0 0, .int .i64 0, .string ⟨#[]⟩, .int .i64 0, .bool false]
  else if k = 6 then .agg #[.int .i64 3, .string ⟨#[]⟩, .slice none 0 0, .int .i64 ck, .string ct, vc, .int .i64 K, .string cn, .int .i64 cq, .bool cb]
  else .agg #[.int .i64 0, .string ⟨#[]⟩, .slice none 0 0, .int .i64 0, .string ⟨#[]⟩, .slice none 0 0, .int .i64 0, .string ⟨#[]⟩, .int .i64 0, .bool false]
def ofB (k : Int) : Bool := k == 3 || k == 4 || k == 5 || k == 6
set_option maxHeartbeats 4000000 in
theorem rof14_any (k m : Int) (t : ByteArray) (Ab : Option Addr) (nb zb : Nat) (Aa : Option Addr) (na za : Nat) (ck : Int) (ct : ByteArray) (A : Option Addr) (n c : Nat) (K : Int) (cn : ByteArray) (cq : Int) (cb : Bool) (w : World) :
    Calls Tryz.prog 26 #[.agg #[.int .i64 k, .int .i64 m, .string t, .slice Ab nb zb, .slice Aa na za, .int .i64 ck, .string ct, .slice A n c, .int .i64 K, .string cn, .int .i64 cq, .bool cb]] w fun e w' => e = .returned (.tuple #[ofV k t (.slice Aa na za) (.slice Ab nb zb) ck ct (.slice A n c) K cn cq cb, .bool (ofB k)]) ∧ Hid (Below w.heap.size w w') := by
  by_cases h3 : k = 3
  · subst h3
    go_enter Tryz.func26, Tryz.ntmps26
    go_wp2_with fail
    obtain ⟨h, hb⟩ := two w #[.int .i64 3, .int .i64 m, .string t, .slice Ab nb zb, .slice Aa na za, .int .i64 ck, .string ct, .slice A n c, .int .i64 K, .string cn, .int .i64 cq, .bool cb] #[.int .i64 1, .string t, .slice Aa na za, .int .i64 0, .string ⟨#[]⟩, .slice none 0 0, .int .i64 0, .string ⟨#[]⟩, .int .i64 0, .bool false] 33 51
    exact bodyPost_ret (wEndB rfl _ (w.heap.size + 1) _ _ _ _ _ _ _ _ _ _ _ rfl h) rfl ⟨by simp [ofV, ofB], hb⟩
  by_cases h4 : k = 4
  · subst h4
    go_enter Tryz.func26, Tryz.ntmps26
    go_wp2_with fail
    obtain ⟨h, hb⟩ := two w #[.int .i64 4, .int .i64 m, .string t, .slice Ab nb zb, .slice Aa na za, .int .i64 ck, .string ct, .slice A n c, .int .i64 K, .string cn, .int .i64 cq, .bool cb] #[.int .i64 1, .string t, .slice Aa na za, .int .i64 0, .string ⟨#[]⟩, .slice none 0 0, .int .i64 0, .string ⟨#[]⟩, .int .i64 0, .bool false] 33 51
    exact bodyPost_ret (wEndB rfl _ (w.heap.size + 1) _ _ _ _ _ _ _ _ _ _ _ rfl h) rfl ⟨by simp [ofV, ofB], hb⟩
  by_cases h5 : k = 5
  · subst h5
    go_enter Tryz.func26, Tryz.ntmps26
    go_wp2_with fail
    obtain ⟨h, hb⟩ := two w #[.int .i64 5, .int .i64 m, .string t, .slice Ab nb zb, .slice Aa na za, .int .i64 ck, .string ct, .slice A n c, .int .i64 K, .string cn, .int .i64 cq, .bool cb] #[.int .i64 2, .string t, .slice Ab nb zb, .int .i64 0, .string ⟨#[]⟩, .slice none 0 0, .int .i64 0, .string ⟨#[]⟩, .int .i64 0, .bool false] 33 51
    exact bodyPost_ret (wEndB rfl _ (w.heap.size + 1) _ _ _ _ _ _ _ _ _ _ _ rfl h) rfl ⟨by simp [ofV, ofB], hb⟩
  by_cases h6 : k = 6
  · subst h6
    go_enter Tryz.func26, Tryz.ntmps26
    go_wp2_with fail
    obtain ⟨h, hb⟩ := two w #[.int .i64 6, .int .i64 m, .string t, .slice Ab nb zb, .slice Aa na za, .int .i64 ck, .string ct, .slice A n c, .int .i64 K, .string cn, .int .i64 cq, .bool cb] #[.int .i64 3, .string ⟨#[]⟩, .slice none 0 0, .int .i64 ck, .string ct, .slice A n c, .int .i64 K, .string cn, .int .i64 cq, .bool cb] 33 51
    exact bodyPost_ret (wEndB rfl _ (w.heap.size + 1) _ _ _ _ _ _ _ _ _ _ _ rfl h) rfl ⟨by simp [ofV, ofB], hb⟩
  · have q3 : (k == 3) = false := by simpa using h3
    have q4 : (k == 4) = false := by simpa using h4
    have q5 : (k == 5) = false := by simpa using h5
    have q6 : (k == 6) = false := by simpa using h6
    have hB : ofB k = false := by unfold ofB; rw [q3, q4, q5, q6]; rfl
    have hV : ofV k t (.slice Aa na za) (.slice Ab nb zb) ck ct (.slice A n c) K cn cq cb = .agg #[.int .i64 0, .string ⟨#[]⟩, .slice none 0 0, .int .i64 0, .string ⟨#[]⟩, .slice none 0 0, .int .i64 0, .string ⟨#[]⟩, .int .i64 0, .bool false] := by unfold ofV; rw [if_neg (by omega), if_neg h5, if_neg h6]
    rw [hB, hV]
    go_enter Tryz.func26, Tryz.ntmps26
    go_wp2_with fail
    obtain ⟨h, hb⟩ := two w #[.int .i64 k, .int .i64 m, .string t, .slice Ab nb zb, .slice Aa na za, .int .i64 ck, .string ct, .slice A n c, .int .i64 K, .string cn, .int .i64 cq, .bool cb] #[.int .i64 0, .string ⟨#[]⟩, .slice none 0 0, .int .i64 0, .string ⟨#[]⟩, .slice none 0 0, .int .i64 0, .string ⟨#[]⟩, .int .i64 0, .bool false] 33 51
    exact bodyPost_ret (wEndB rfl _ (w.heap.size + 1) _ _ _ _ _ _ _ _ _ _ _ rfl h) rfl ⟨rfl, hb⟩
end Go.Proofs.YtlhfdhmmdnkojaaGreatDoor
