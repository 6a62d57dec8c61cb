/-
  TreeFroms, walked.
-/
import Derived.Test.YtmapclocbhkpbaaTPlaysW
import Derived.Test.YtmapclocbhkpbaaFromT
import Derived.Deep.CutBlock
import Derived.Deep.CutRange
namespace Go.Proofs.Ytmapclocbhkpbaa
open Go.RowKit Go.Maps Dg
set_option linter.unusedVariables false
/-- A block beside a pair stays beside it. -/
theorem beside {tb b : Nat} {X X' : List Nat} {w w' : World} {t : TypeId} {cs : Array Value} (ht : Tur (tb :: X) w w') (hf : Fre (tb :: X) (tb :: X') w) (hb : Has w b t cs) (hn : b ∉ tb :: X) : Has w' b t cs ∧ b ∉ tb :: X' :=
  ⟨hb.tur ht hn, fun hx => (hf b hx).elim hn (fun q => by have := hb.lt; omega)⟩
/-- Those that do not come ahead of a key. -/
theorem from_drop {C : List (ByteArray × Int)} (hR : Rises C) (key : ByteArray) : C.filter (fun x => !kl x.1 key) = C.drop (posL key C) := by
  rcases posL_part key C hR with ⟨hp, e⟩ | ⟨a, y, r, e, hl, ha, hy, hr⟩
  · rw [hp, List.drop_length, List.filter_eq_nil_iff]
    intro x hx
    rw [e x hx]
    simp
  · have h1 : a.filter (fun x => !kl x.1 key) = [] := by
      rw [List.filter_eq_nil_iff]
      intro x hx
      rw [ha x hx]
      simp
    have h2 : (y :: r).filter (fun x => !kl x.1 key) = y :: r := by
      rw [List.filter_eq_self]
      intro x hx
      have : kl x.1 key = false := by
        rcases List.mem_cons.1 hx with q | q
        · rw [q]; exact hy
        · cases hk : kl x.1 key with
          | false => rfl
          | true =>
            have := kl_trans (hr x q) hk
            rw [hy] at this
            cases this
      rw [this]
      rfl
    rw [← hl, e, List.filter_append, h1, h2, List.drop_left, List.nil_append]
theorem fnil_ne (W : World) (a b : Nat) : Sem.run Try.prog (binOp BinOp.eql 38 (Value.func (Fn.func 25) #[] #[Value.pointer (some { block := a, off := 0 }), Value.pointer (some { block := b, off := 0 })]) Value.nilFunc) W = .ok (.bool false) W := by rfl
theorem result_cell1 {fn : Func} {p : Tmp} (h : fn.results = #[.cell p 4]) (tmps : Array Value) (w : World) (g : Nat) (v : Value) (hp : tmps.getD p undef = .pointer (some ⟨g, 0, none⟩)) (hc : w.cell? ⟨g, 0, none⟩ = some v) : (results fn tmps).run Try.prog w = .ok v w := by
  have hp' : tmps[p]?.getD undef = .pointer (some ⟨g, 0, none⟩) := by simpa using hp
  simp [results, h, hp', Sem.run_bind, loadVar, asAddr, hc]
def noPanic (Q : Exit → Act → World → Prop) : Exit → Act → World → Prop
  | .panic _, _, _ => False
  | .outgrown, _, _ => False
  | e, a, w => Q e a w
def numAt (w : World) (b : Nat) : Nat := match w.cell? ⟨b, 0, none⟩ with | some v => (intOf v).toNat | none => 0
end Go.Proofs.Ytmapclocbhkpbaa
namespace Go.Proofs.Ytmapclocbhkpbaa.treeFroms
open Go.RowKit Go.Shelf Go.Maps Dg
set_option linter.unusedVariables false
attribute [local go_sem] Oper.semAt_some
set_option maxHeartbeats 8000000 in
set_option maxRecDepth 100000 in
theorem walk (A : Option Addr) (n c : Nat) (L : List Dee) (key0 : ByteArray) (most : Int) (w : World) (hl : L.length = n) (hnc : n ≤ c) (hcm : c ≤ maxLen) (hr : Elems w A 3 (L.map Dee.cells) ∧ ∀ v ∈ L, v.ok w) (hmo : -9223372036854775808 ≤ most ∧ most ≤ 9223372036854775807) :
    Calls Try.prog 4 #[.slice A n c, .string key0, .int .i64 most] w fun e w' => e = .returned (.bool true) ∧ Below w.heap.size w w' := by
  have HL := Lib.hid hl
  have HR := Lib.hid hr
  have hcI : (c : Int) ≤ 9223372036854775807 := by unfold maxLen at hcm; omega
  clear hl hr
  have hro : Fence.wide.round = none := rfl
  have hdd : ∀ k : Nat, (Fence.wide.depth.isSome = true → 1 ≤ k) := fun k h => by cases h
  have hmix : Try.prog.follows .mixedOrders = true := by kernel_rfl
  refine (callsIn_wide (n := 3)).1 ?_
  refine callsIn_of_wp_marks Try.func4 rfl trivial ?_ rfl
  simp only [Try.ntmps4, List.size_toArray, List.length_cons, List.length_nil, Nat.reduceAdd, Nat.reduceSub, Array.replicate_succ, Array.replicate_zero, List.push_toArray, List.append_toArray, List.nil_append, List.cons_append]
  refine wpIn_mono (Q := noPanic (bodyPostM Fence.wide 3 Try.prog Try.f4 (fun e w' => e = .returned (.bool true) ∧ Below w.heap.size w w'))) ?_ (by intro e a W h; cases e <;> first | exact h | exact h.elim)
  refine wpIn_wide.2 ?_
  go_wp2_with fail
  obtain ⟨W0, HW0⟩ : ∃ W0, Hid (W0 = (w.alloc (.cells #[.int .i64 most] 3)).alloc (.cells #[.bool false] 4)) := ⟨_, rfl⟩
  have m0 : Has W0 w.heap.size 3 #[.int .i64 most] := by rw [HW0.out]; exact (Has.new w _ _).alloc _
  have v0 : Has W0 (w.heap.size + 1) 4 #[.bool false] := by
    rw [HW0.out]
    have := Has.new (w.alloc (.cells #[.int .i64 most] 3)) 4 #[.bool false]
    rw [World.size_alloc] at this
    exact this
  have s0 : W0.heap.size = w.heap.size + 2 := by rw [HW0.out]; simp
  have b0 : Below w.heap.size w W0 := by rw [HW0.out]; exact ((Below.refl _ w).alloc (Nat.le_refl _) _).alloc (by simp) _
  rw [← HW0.out]
  refine (tnew_any W0).mono ?_
  rintro e w1 ⟨rfl, h1, b1⟩
  obtain ⟨hd, hb⟩ := duo_new h1 b1
  rw [s0] at hd hb
  obtain ⟨w2, HW2⟩ : ∃ w2, Hid (w2 = (w1.alloc (.cells #[.slice none 0 0, .slice none 0 0] 29)).alloc (.cells #[.pointer (some ⟨w1.heap.size, 0, none⟩)] 25)) := ⟨_, rfl⟩
  have p2 : Has w2 (w1.heap.size + 1) 25 #[.pointer (some ⟨w1.heap.size, 0, none⟩)] := by
    rw [HW2.out]
    have := Has.new (w1.alloc (.cells #[.slice none 0 0, .slice none 0 0] 29)) 25 #[.pointer (some ⟨w1.heap.size, 0, none⟩)]
    rw [World.size_alloc] at this
    exact this
  have hlt1 : w.heap.size + 2 < w1.heap.size := by have := h1.top.lt; rw [s0] at this; exact this
  have b2 : Below (w1.alloc (.cells #[.slice none 0 0, .slice none 0 0] 29)).heap.size (w1.alloc (.cells #[.slice none 0 0, .slice none 0 0] 29)) w2 := by rw [HW2.out]; exact (Below.refl _ _).alloc (Nat.le_refl _) _
  have HD := Lib.hid (hd.below b2)
  have HB0 := Lib.hid (hb.trans (b2.mono (by have := hb.size; omega)))
  have hpn : w1.heap.size + 1 ∉ (w.heap.size + 2) :: [w1.heap.size] := by simp; omega
  have HPB := Lib.hid p2
  have HM0 := Lib.hid m0
  have HV0 := Lib.hid v0
  have HBW := Lib.hid b0
  have HPN := Lib.hid hpn
  clear h1 b1 hd hb p2 b2 hpn m0 v0 b0
  go_upto_block 0 with (fail)
  rw [← HW2.out]
  go_cut [9] from 20 to 36 (fun s9 wx => ∃ (T : Tr) (X : List Nat), Hid (Duo (w.heap.size + 2) (w.heap.size + 2) w1.heap.size X wx T) ∧ Hid (T.con.length ≤ 40) ∧ Hid (Below (w.heap.size + 2) W0 wx) ∧ Hid (Has wx (w1.heap.size + 1) 25 #[.pointer (some ⟨w1.heap.size, 0, none⟩)]) ∧ Hid (w1.heap.size + 1 ∉ (w.heap.size + 2) :: X))
  case first =>
    go_wp2_with fail
    go_loopw [9] (fun u wr => ∃ (i : Nat) (T : Tr) (X : List Nat), i ≤ 40 ∧ i ≤ n ∧ u = .int .i64 i ∧ Hid (Duo (w.heap.size + 2) (w.heap.size + 2) w1.heap.size X wr T) ∧ Hid (T.con.length ≤ i) ∧ Hid (Below (w.heap.size + 2) W0 wr) ∧ Hid (Has wr (w1.heap.size + 1) 25 #[.pointer (some ⟨w1.heap.size, 0, none⟩)]) ∧ Hid (w1.heap.size + 1 ∉ (w.heap.size + 2) :: X)) (fun u _ => 40 - (intOf u).toNat)
    case atStart => exact ⟨0, .nil, _, by omega, by omega, rfl, HD, Nat.le_refl 0, HB0, HPB, HPN⟩
    case round =>
      clear HD HB0 HPB HPN
      obtain ⟨i, T, X, hi, hin, rfl, HT, HLen, HI, HP, HN⟩ := hrel
      have HIw := Lib.hid (HBW.out.trans (HI.out.mono (by omega)))
      by_cases hlt : i < n
      · have hiI : (i : Int) < (n : Int) := by omega
        by_cases hl8 : i < 40
        · have hi8 : (i : Int) < 40 := by omega
          have hil : i < L.length := by rw [HL.out]; exact hlt
          have hok := HR.out.2 _ (List.getElem_mem hil)
          obtain ⟨b, off, rfl, e0, e1, e2⟩ := deed_at HR.out.1 HIw.out hil
          obtain ⟨⟨kd, dn, key⟩, hx⟩ : ∃ x, x = L[i] := ⟨_, rfl⟩
          rw [← hx] at hok e0 e1 e2
          have HX := Lib.hid hx
          have d0 : wr.drew.cell? ⟨b, off + i * 3, none⟩ = some (.int .i64 kd) := e0
          have d1 : wr.drew.cell? ⟨b, off + i * 3 + 1, none⟩ = some (.int .i64 dn) := e1
          have d2 : wr.drew.cell? ⟨b, off + i * 3 + 2, none⟩ = some (.string key) := e2
          have dp : wr.drew.cell? ⟨w1.heap.size + 1, 0, none⟩ = some (.pointer (some ⟨w1.heap.size, 0, none⟩)) := HP.out.cell 0
          have HTd := Lib.hid (HT.out.below (Below.refl _ wr).drew)
          have hdo := does_any HTd.out (by have := HLen.out; omega) kd dn key hok.n
          have HDO := Lib.hid hdo
          clear hok hx hdo e0 e1 e2
          go_wp2_with fail
          refine wp_region_held_drew (S := fun U => U.cell? ⟨b, off + i * 3, none⟩ = some (.int .i64 kd) ∧ U.cell? ⟨b, off + i * 3 + 1, none⟩ = some (.int .i64 dn) ∧ U.cell? ⟨b, off + i * 3 + 2, none⟩ = some (.string key) ∧ U.cell? ⟨w1.heap.size + 1, 0, none⟩ = some (.pointer (some ⟨w1.heap.size, 0, none⟩))) (by kernel_rfl) (by exact ⟨d0, d1, d2, dp⟩) (fun _ => ?_)
          (refine wpAnyH_take (i := 0) (v := ?_) rfl (by kernel_rfl) (by kernel_rfl) (by kernel_rfl) (fun _ _ _ h => h) (Or.inl ⟨by rfl, ?_⟩) (by assumption) ?_; rotate_left; (intro w hSw; (try dsimp only at hSw); go_simp; try with_reducible rfl); ((try simp only [List.getElem_toArray]); (try simp only [List.getElem_cons_succ]); (try simp only [List.getElem_cons_zero]); (try simp only [Act.put]); (try simp only [List.setIfInBounds_toArray]); (try simp only [List.set_cons_succ]); (try simp only [List.set_cons_zero])))
          (refine wpAnyH_take (i := 1) (v := ?_) rfl (by kernel_rfl) (by kernel_rfl) (by kernel_rfl) (fun _ _ _ h => h) (Or.inl ⟨by rfl, ?_⟩) (by assumption) ?_; rotate_left; (intro w hSw; (try dsimp only at hSw); go_simp; try with_reducible rfl); ((try simp only [List.getElem_toArray]); (try simp only [List.getElem_cons_succ]); (try simp only [List.getElem_cons_zero]); (try simp only [Act.put]); (try simp only [List.setIfInBounds_toArray]); (try simp only [List.set_cons_succ]); (try simp only [List.set_cons_zero])))
          (refine wpAnyH_take (i := 2) (v := ?_) rfl (by kernel_rfl) (by kernel_rfl) (by kernel_rfl) (fun _ _ _ h => h) (Or.inl ⟨by rfl, ?_⟩) (by assumption) ?_; rotate_left; (intro w hSw; (try dsimp only at hSw); go_simp; try with_reducible rfl); ((try simp only [List.getElem_toArray]); (try simp only [List.getElem_cons_succ]); (try simp only [List.getElem_cons_zero]); (try simp only [Act.put]); (try simp only [List.setIfInBounds_toArray]); (try simp only [List.set_cons_succ]); (try simp only [List.set_cons_zero])))
          (refine wpAnyH_take (i := 3) (v := ?_) rfl (by kernel_rfl) (by kernel_rfl) (by kernel_rfl) (fun _ _ _ h => h) (Or.inl ⟨by rfl, ?_⟩) (by assumption) ?_; rotate_left; (intro w hSw; (try dsimp only at hSw); go_simp; try with_reducible rfl); ((try simp only [List.getElem_toArray]); (try simp only [List.getElem_cons_succ]); (try simp only [List.getElem_cons_zero]); (try simp only [Act.put]); (try simp only [List.setIfInBounds_toArray]); (try simp only [List.set_cons_succ]); (try simp only [List.set_cons_zero])))
          (refine wpAnyH_take (i := 4) (v := ?_) rfl (by kernel_rfl) (by kernel_rfl) (by kernel_rfl) (fun _ _ _ h => h) (Or.inl ⟨by rfl, ?_⟩) (by assumption) ?_; rotate_left; (intro w hSw; (try dsimp only at hSw); go_simp; try with_reducible rfl); ((try simp only [List.getElem_toArray]); (try simp only [List.getElem_cons_succ]); (try simp only [List.getElem_cons_zero]); (try simp only [Act.put]); (try simp only [List.setIfInBounds_toArray]); (try simp only [List.set_cons_succ]); (try simp only [List.set_cons_zero])))
          (refine wpAnyH_take (i := 5) (v := ?_) rfl (by kernel_rfl) (by kernel_rfl) (by kernel_rfl) (fun _ _ _ h => h) (Or.inl ⟨by rfl, ?_⟩) (by assumption) ?_; rotate_left; (intro w hSw; (try dsimp only at hSw); go_simp; try with_reducible rfl); ((try simp only [List.getElem_toArray]); (try simp only [List.getElem_cons_succ]); (try simp only [List.getElem_cons_zero]); (try simp only [Act.put]); (try simp only [List.setIfInBounds_toArray]); (try simp only [List.set_cons_succ]); (try simp only [List.set_cons_zero])))
          refine wpAnyH_ready (rs := [6]) (by kernel_rfl) (by simp) ?_
          refine AllReadyH.cons rfl (fun K2 hK2 => ?_) AllReadyH.nil
          go_simp
          refine HDO.out.mono ?_
          rintro e w3 ⟨rfl, T2, X2, h2, t2, f2, l2⟩
          have hPd : Has wr.drew (w1.heap.size + 1) 25 #[.pointer (some ⟨w1.heap.size, 0, none⟩)] := HP.out
          obtain ⟨g1, g2⟩ := beside t2 f2 hPd HN.out
          have HP3 := Lib.hid g1
          have HN3 := Lib.hid g2
          have HT3 := Lib.hid h2
          have HLen3 : Hid (T2.con.length ≤ i + 1) := by show T2.con.length ≤ i + 1; have := HLen.out; omega
          have hI3 := HI.out.trans ((Below.refl (w.heap.size + 2) wr).drew.trans (Did.below (X' := X) HTd.out (Nat.le_trans (by rw [s0]; exact Nat.le_refl _) HI.out.size) t2))
          have HI3 := Lib.hid hI3
          have hI3w := HBW.out.trans (hI3.mono (by omega))
          obtain ⟨b', off', ee, q0, q1, q2⟩ := deed_at HR.out.1 hI3w hil
          cases ee
          rw [← HX.out] at q0 q1 q2
          have p3 : w3.cell? ⟨w1.heap.size + 1, 0, none⟩ = some (.pointer (some ⟨w1.heap.size, 0, none⟩)) := HP3.out.cell 0
          clear h2 t2 f2 l2 HDO HT HTd g1 g2 hPd hI3 hI3w HP HN HI HIw HLen
          go_wp2_with fail
          refine hK2.out _ _ (by exact ⟨q0, q1, q2, p3⟩) (fun hq => ?_)
          clear hK2 K2
          ((try simp only [List.getElem_toArray]); (try simp only [List.getElem_cons_succ]); (try simp only [List.getElem_cons_zero]); (try simp only [Act.put]); (try simp only [List.setIfInBounds_toArray]); (try simp only [List.set_cons_succ]); (try simp only [List.set_cons_zero]))
          refine wpAnyH_done (by kernel_rfl) ?_ _
          go_wp2_with fail
          go_roundw
          case rel => exact ⟨i + 1, T2, X2, by omega, by omega, by go_num, HT3, HLen3, HI3, HP3, HN3⟩
          case measure => simp [intOf]; omega
        · have hi8 : ¬ (i : Int) < 40 := by omega
          have HLn : Hid (T.con.length ≤ 40) := by show T.con.length ≤ 40; have := HLen.out; omega
          go_wp2_with fail
          go_meet
          case rel => exact ⟨T, X, HT, HLn, HI, HP, HN⟩
      · have hiI : ¬ (i : Int) < (n : Int) := by omega
        have HLn : Hid (T.con.length ≤ 40) := by show T.con.length ≤ 40; have := HLen.out; omega
        go_wp2_with fail
        go_meet
        case rel => exact ⟨T, X, HT, HLn, HI, HP, HN⟩
  case rest =>
    clear HD HB0 HPB HPN
    obtain ⟨T, X, HT, HLn, HI, HP, HN⟩ := hcut
    go_wp2_with fail
    refine (few_any _ key0).mono ?_
    rintro e w3 ⟨rfl, rfl⟩
    obtain ⟨fk, HFK⟩ : ∃ fk, Hid (fk = fewS key0) := ⟨_, rfl⟩
    rw [← HFK.out]
    obtain ⟨w4, HW4⟩ : ∃ w4, Hid (w4 = w3.alloc (.cells #[.int .i64 0] 3)) := ⟨_, rfl⟩
    have al4 : Below w3.heap.size w3 w4 := by rw [HW4.out]; exact (Below.refl _ w3).alloc (Nat.le_refl _) _
    have hab : Has w4 w3.heap.size 3 #[.int .i64 0] := by rw [HW4.out]; exact Has.new w3 _ _
    obtain ⟨Ar, nr, cr, Ar2, cr2, g1, gn, gnc, gcm, gnc2, gcm2, gr, gr2, gz1, gz2, gk, gv, -⟩ := HT.out.r.rows
    have far1 : ∀ a, Ar = some a → a.block < w3.heap.size := fun a ha => (gk.lt (g := a.block) (by rw [ha]; rfl)).2
    have far2 : ∀ a, Ar2 = some a → a.block < w3.heap.size := fun a ha => (gv.lt (g := a.block) (by rw [ha]; rfl)).2
    have hpl : w1.heap.size + 1 < w3.heap.size := HP.out.lt
    have hrl : w1.heap.size < w3.heap.size := by omega
    have HK4 := Lib.hid (gr.below al4)
    have HV4 := Lib.hid (gr2.below al4)
    have HG4 := Lib.hid (g1.below al4 hrl)
    have HP4 := Lib.hid (HP.out.below al4 hpl)
    have HT4 := Lib.hid (HT.out.t.below al4)
    have HI4 := Lib.hid (HI.out.trans (al4.mono (by have := HI.out.size; omega)))
    have HNR := Lib.hid gn
    have hnr40 : nr ≤ 40 := by have := HLn.out; omega
    have hnrI : (nr : Int) ≤ 40 := by omega
    have HA4 := Lib.hid hab
    have HRIS := Lib.hid HT.out.r.ris
    have HF1 := Lib.hid far1
    have HF2 := Lib.hid far2
    have s4 : w4.heap.size = w3.heap.size + 1 := by rw [HW4.out]; simp
    clear al4 hab g1 gn gcm gcm2 gr gr2 gz1 gz2 gk gv far1 far2 HT HI HP
    go_upto_block 2 with (fail)
    rw [← HW4.out]
    obtain ⟨ab, HAB⟩ : ∃ ab, Hid (ab = w3.heap.size) := ⟨_, rfl⟩
    rw [← HAB.out] at HA4 HF1 HF2 hpl hrl s4 ⊢
    have hne1 : w1.heap.size + 1 ∉ [ab] := by simp; omega
    have hne2 : w1.heap.size ∉ [ab] := by simp; omega
    have nk1 : ∀ a, Ar = some a → a.block ∉ [ab] := fun a ha => by have := HF1.out a ha; simp; omega
    have nk2 : ∀ a, Ar2 = some a → a.block ∉ [ab] := fun a ha => by have := HF2.out a ha; simp; omega
    have NK1 := Lib.hid nk1
    have NK2 := Lib.hid nk2
    have NE1 := Lib.hid hne1
    have NE2 := Lib.hid hne2
    clear nk1 nk2 hne1 hne2
    go_cut [9] from 39 to 58 (fun s9 wx => Hid (Has wx ab 3 #[.int .i64 (posL fk T.con : Nat)]) ∧ Hid (Tur [ab] w4 wx))
    case first =>
      go_wp2_with fail
      go_loopw [] (fun wr => ∃ k : Nat, Hid (k ≤ posL fk T.con) ∧ k ≤ nr ∧ Hid (Has wr ab 3 #[.int .i64 k]) ∧ Hid (Tur [ab] w4 wr)) (fun wr => nr - numAt wr ab)
      case atStart => exact ⟨0, Nat.zero_le _, Nat.zero_le _, HA4, Tur.refl _ _⟩
      case round =>
        obtain ⟨k, HK, hk, HAk, HTk⟩ := hrel
        have d0 : wr.drew.cell? ⟨ab, 0, none⟩ = some (.int .i64 k) := HAk.out.cell 0
        have d1 : wr.drew.cell? ⟨w1.heap.size + 1, 0, none⟩ = some (.pointer (some ⟨w1.heap.size, 0, none⟩)) := (HP4.out.tur HTk.out NE1.out).cell 0
        have d2 : wr.drew.cell? ⟨w1.heap.size, 0, none⟩ = some (.slice Ar nr cr) := (HG4.out.tur HTk.out NE2.out).cell 0
        have HKr := Lib.hid (HK4.out.tur HTk.out NK1.out)
        have f0 : wr.drew.frozen? ⟨ab, 0, none⟩ = false := HAk.out.free 0
        by_cases hlt : k < nr
        · have hkC : k < T.con.length := by rw [HNR.out]; exact hlt
          have hkI : (k : Int) < (nr : Int) := by omega
          have hdk : decide ((k : Int) < (nr : Int)) = true := decide_eq_true hkI
          obtain ⟨b, off, rfl, c0⟩ := HKr.out k (by rw [List.length_map]; exact hkC)
          rw [List.getElem_map] at c0
          have d3 : wr.drew.cell? ⟨b, off + k, none⟩ = some (.string T.con[k].1) := c0
          cases hkl : kl T.con[k].1 fk with
          | true =>
            have HKK : Hid (k + 1 ≤ posL fk T.con) := posL_step hkC HK.out hkl
            have hls : Op.bytesLess T.con[k].1.toList fk.toList = true := hkl
            generalize T.con[k].1 = s at *
            have hA2 : Has (wr.drew.setCell ⟨ab, 0, none⟩ (.int .i64 ((k + 1 : Nat) : Int))) ab 3 #[.int .i64 ((k + 1 : Nat) : Int)] := (show Has wr.drew ab 3 #[.int .i64 k] from HAk.out).put 0 _
            have hT2 : Tur [ab] w4 (wr.drew.setCell ⟨ab, 0, none⟩ (.int .i64 ((k + 1 : Nat) : Int))) := (HTk.out.trans (Tur.drew [ab] wr) (Fre.refl _ _)).trans (Tur.setCell wr.drew (p := ⟨ab, 0, none⟩) (by simp) _) (Fre.refl _ _)
            have hnum : numAt (wr.drew.setCell ⟨ab, 0, none⟩ (.int .i64 ((k + 1 : Nat) : Int))) ab = k + 1 := by
              unfold numAt
              rw [hA2.cell 0]
              simp [intOf]
            have hnum0 : numAt wr ab = k := by
              unfold numAt
              rw [HAk.out.cell 0]
              simp [intOf]
            have HA2 := Lib.hid hA2
            have HT2 := Lib.hid hT2
            have HN2 := Lib.hid hnum
            have HN0 := Lib.hid hnum0
            clear hkl HK hA2 hT2 hnum hnum0 c0
            go_wp2_with fail
            refine wp_region_held_drew (S := fun U => U.cell? ⟨ab, 0, none⟩ = some (.int .i64 k) ∧ U.cell? ⟨w1.heap.size + 1, 0, none⟩ = some (.pointer (some ⟨w1.heap.size, 0, none⟩)) ∧ U.cell? ⟨w1.heap.size, 0, none⟩ = some (.slice (some ⟨b, off, none⟩) nr cr) ∧ U.cell? ⟨b, off + k, none⟩ = some (.string s)) (by kernel_rfl) (by exact ⟨d0, d1, d2, d3⟩) (fun _ => ?_)
            (refine wpAnyH_take (i := 0) (v := ?_) rfl (by kernel_rfl) (by kernel_rfl) (by kernel_rfl) (fun _ _ _ h => h) (Or.inl ⟨by rfl, ?_⟩) (by assumption) ?_; rotate_left; (intro w hSw; (try dsimp only at hSw); go_simp; try with_reducible rfl); ((try simp only [List.getElem_toArray]); (try simp only [List.getElem_cons_succ]); (try simp only [List.getElem_cons_zero]); (try simp only [Act.put]); (try simp only [List.setIfInBounds_toArray]); (try simp only [List.set_cons_succ]); (try simp only [List.set_cons_zero])))
            (refine wpAnyH_take (i := 1) (v := ?_) rfl (by kernel_rfl) (by kernel_rfl) (by kernel_rfl) (fun _ _ _ h => h) (Or.inl ⟨by rfl, ?_⟩) (by assumption) ?_; rotate_left; (intro w hSw; (try dsimp only at hSw); go_simp; try with_reducible rfl); ((try simp only [List.getElem_toArray]); (try simp only [List.getElem_cons_succ]); (try simp only [List.getElem_cons_zero]); (try simp only [Act.put]); (try simp only [List.setIfInBounds_toArray]); (try simp only [List.set_cons_succ]); (try simp only [List.set_cons_zero])))
            (refine wpAnyH_take (i := 2) (v := ?_) rfl (by kernel_rfl) (by kernel_rfl) (by kernel_rfl) (fun _ _ _ h => h) (Or.inl ⟨by rfl, ?_⟩) (by assumption) ?_; rotate_left; (intro w hSw; (try dsimp only at hSw); go_simp; try with_reducible rfl); ((try simp only [List.getElem_toArray]); (try simp only [List.getElem_cons_succ]); (try simp only [List.getElem_cons_zero]); (try simp only [Act.put]); (try simp only [List.setIfInBounds_toArray]); (try simp only [List.set_cons_succ]); (try simp only [List.set_cons_zero])))
            (refine wpAnyH_take (i := 3) (v := ?_) rfl (by kernel_rfl) (by kernel_rfl) (by kernel_rfl) (fun _ _ _ h => h) (Or.inl ⟨by rfl, ?_⟩) (by assumption) ?_; rotate_left; (intro w hSw; (try dsimp only at hSw); go_simp; try with_reducible rfl); ((try simp only [List.getElem_toArray]); (try simp only [List.getElem_cons_succ]); (try simp only [List.getElem_cons_zero]); (try simp only [Act.put]); (try simp only [List.setIfInBounds_toArray]); (try simp only [List.set_cons_succ]); (try simp only [List.set_cons_zero])))
            (refine wpAnyH_take (i := 4) (v := ?_) rfl (by kernel_rfl) (by kernel_rfl) (by kernel_rfl) (fun _ _ _ h => h) (Or.inl ⟨by rfl, ?_⟩) (by assumption) ?_; rotate_left; (intro w hSw; (try dsimp only at hSw); go_simp; try with_reducible rfl); ((try simp only [List.getElem_toArray]); (try simp only [List.getElem_cons_succ]); (try simp only [List.getElem_cons_zero]); (try simp only [Act.put]); (try simp only [List.setIfInBounds_toArray]); (try simp only [List.set_cons_succ]); (try simp only [List.set_cons_zero])))
            (refine wpAnyH_take (i := 5) (v := ?_) rfl (by kernel_rfl) (by kernel_rfl) (by kernel_rfl) (fun _ _ _ h => h) (Or.inl ⟨by rfl, ?_⟩) (by assumption) ?_; rotate_left; (intro w hSw; (try dsimp only at hSw); go_simp; try with_reducible rfl); ((try simp only [List.getElem_toArray]); (try simp only [List.getElem_cons_succ]); (try simp only [List.getElem_cons_zero]); (try simp only [Act.put]); (try simp only [List.setIfInBounds_toArray]); (try simp only [List.set_cons_succ]); (try simp only [List.set_cons_zero])))
            (refine wpAnyH_take (i := 6) (v := ?_) rfl (by kernel_rfl) (by kernel_rfl) (by kernel_rfl) (fun _ _ _ h => h) (Or.inl ⟨by rfl, ?_⟩) (by assumption) ?_; rotate_left; (intro w hSw; (try dsimp only at hSw); go_simp; try with_reducible rfl); ((try simp only [List.getElem_toArray]); (try simp only [List.getElem_cons_succ]); (try simp only [List.getElem_cons_zero]); (try simp only [Act.put]); (try simp only [List.setIfInBounds_toArray]); (try simp only [List.set_cons_succ]); (try simp only [List.set_cons_zero])))
            (refine wpAnyH_take (i := 7) (v := ?_) rfl (by kernel_rfl) (by kernel_rfl) (by kernel_rfl) (fun _ _ _ h => h) (Or.inl ⟨by rfl, ?_⟩) (by assumption) ?_; rotate_left; (intro w hSw; (try dsimp only at hSw); go_simp; try with_reducible rfl); ((try simp only [List.getElem_toArray]); (try simp only [List.getElem_cons_succ]); (try simp only [List.getElem_cons_zero]); (try simp only [Act.put]); (try simp only [List.setIfInBounds_toArray]); (try simp only [List.set_cons_succ]); (try simp only [List.set_cons_zero])))
            (refine wpAnyH_take (i := 8) (v := ?_) rfl (by kernel_rfl) (by kernel_rfl) (by kernel_rfl) (fun _ _ _ h => h) (Or.inl ⟨by rfl, ?_⟩) (by assumption) ?_; rotate_left; (intro w hSw; (try dsimp only at hSw); go_simp; try with_reducible rfl); ((try simp only [List.getElem_toArray]); (try simp only [List.getElem_cons_succ]); (try simp only [List.getElem_cons_zero]); (try simp only [Act.put]); (try simp only [List.setIfInBounds_toArray]); (try simp only [List.set_cons_succ]); (try simp only [List.set_cons_zero])))
            (refine wpAnyH_take (i := 9) (v := ?_) rfl (by kernel_rfl) (by kernel_rfl) (by kernel_rfl) (fun _ _ _ h => h) (Or.inl ⟨by rfl, ?_⟩) (by assumption) ?_; rotate_left; (intro w hSw; (try dsimp only at hSw); go_simp; try with_reducible rfl); ((try simp only [List.getElem_toArray]); (try simp only [List.getElem_cons_succ]); (try simp only [List.getElem_cons_zero]); (try simp only [Act.put]); (try simp only [List.setIfInBounds_toArray]); (try simp only [List.set_cons_succ]); (try simp only [List.set_cons_zero])))
            (refine wpAnyH_take (i := 10) (v := ?_) rfl (by kernel_rfl) (by kernel_rfl) (by kernel_rfl) (fun _ _ _ h => h) (Or.inl ⟨by rfl, ?_⟩) (by assumption) ?_; rotate_left; (intro w hSw; (try dsimp only at hSw); go_simp; try with_reducible rfl); ((try simp only [List.getElem_toArray]); (try simp only [List.getElem_cons_succ]); (try simp only [List.getElem_cons_zero]); (try simp only [Act.put]); (try simp only [List.setIfInBounds_toArray]); (try simp only [List.set_cons_succ]); (try simp only [List.set_cons_zero])))
            (refine wpAnyH_take (i := 11) (v := ?_) rfl (by kernel_rfl) (by kernel_rfl) (by kernel_rfl) (fun _ _ _ h => h) (Or.inl ⟨by rfl, ?_⟩) (by assumption) ?_; rotate_left; (intro w hSw; (try dsimp only at hSw); go_simp; try with_reducible rfl); ((try simp only [List.getElem_toArray]); (try simp only [List.getElem_cons_succ]); (try simp only [List.getElem_cons_zero]); (try simp only [Act.put]); (try simp only [List.setIfInBounds_toArray]); (try simp only [List.set_cons_succ]); (try simp only [List.set_cons_zero])))
            (refine wpAnyH_take (i := 12) (v := ?_) rfl (by kernel_rfl) (by kernel_rfl) (by kernel_rfl) (fun _ _ _ h => h) (Or.inl ⟨by rfl, ?_⟩) (by assumption) ?_; rotate_left; (intro w hSw; (try dsimp only at hSw); go_simp; try with_reducible rfl); ((try simp only [List.getElem_toArray]); (try simp only [List.getElem_cons_succ]); (try simp only [List.getElem_cons_zero]); (try simp only [Act.put]); (try simp only [List.setIfInBounds_toArray]); (try simp only [List.set_cons_succ]); (try simp only [List.set_cons_zero])))
            (refine wpAnyH_take (i := 13) (v := ?_) rfl (by kernel_rfl) (by kernel_rfl) (by kernel_rfl) (fun _ _ _ h => h) (Or.inl ⟨by rfl, ?_⟩) (by assumption) ?_; rotate_left; (intro w hSw; (try dsimp only at hSw); go_simp; try with_reducible rfl); ((try simp only [List.getElem_toArray]); (try simp only [List.getElem_cons_succ]); (try simp only [List.getElem_cons_zero]); (try simp only [Act.put]); (try simp only [List.setIfInBounds_toArray]); (try simp only [List.set_cons_succ]); (try simp only [List.set_cons_zero])))
            (refine wpAnyH_take (i := 14) (v := ?_) rfl (by kernel_rfl) (by kernel_rfl) (by kernel_rfl) (fun _ _ _ h => h) (Or.inl ⟨by rfl, ?_⟩) (by assumption) ?_; rotate_left; (intro w hSw; (try dsimp only at hSw); go_simp; try with_reducible rfl); ((try simp only [List.getElem_toArray]); (try simp only [List.getElem_cons_succ]); (try simp only [List.getElem_cons_zero]); (try simp only [Act.put]); (try simp only [List.setIfInBounds_toArray]); (try simp only [List.set_cons_succ]); (try simp only [List.set_cons_zero])))
            (refine wpAnyH_take (i := 15) (v := ?_) rfl (by kernel_rfl) (by kernel_rfl) (by kernel_rfl) (fun _ _ _ h => h) (Or.inl ⟨by rfl, ?_⟩) (by assumption) ?_; rotate_left; (intro w hSw; (try dsimp only at hSw); go_simp; try with_reducible rfl); ((try simp only [List.getElem_toArray]); (try simp only [List.getElem_cons_succ]); (try simp only [List.getElem_cons_zero]); (try simp only [Act.put]); (try simp only [List.setIfInBounds_toArray]); (try simp only [List.set_cons_succ]); (try simp only [List.set_cons_zero])))
            (refine wpAnyH_take (i := 16) (v := ?_) rfl (by kernel_rfl) (by kernel_rfl) (by kernel_rfl) (fun _ _ _ h => h) (Or.inl ⟨by rfl, ?_⟩) (by assumption) ?_; rotate_left; (intro w hSw; (try dsimp only at hSw); go_simp; try with_reducible rfl); ((try simp only [List.getElem_toArray]); (try simp only [List.getElem_cons_succ]); (try simp only [List.getElem_cons_zero]); (try simp only [Act.put]); (try simp only [List.setIfInBounds_toArray]); (try simp only [List.set_cons_succ]); (try simp only [List.set_cons_zero])))
            (refine wpAnyH_take (i := 17) (v := ?_) rfl (by kernel_rfl) (by kernel_rfl) (by kernel_rfl) (fun _ _ _ h => h) (Or.inl ⟨by rfl, ?_⟩) (by assumption) ?_; rotate_left; (intro w hSw; (try dsimp only at hSw); go_simp; try with_reducible rfl); ((try simp only [List.getElem_toArray]); (try simp only [List.getElem_cons_succ]); (try simp only [List.getElem_cons_zero]); (try simp only [Act.put]); (try simp only [List.setIfInBounds_toArray]); (try simp only [List.set_cons_succ]); (try simp only [List.set_cons_zero])))
            refine wpAnyH_done (by kernel_rfl) ?_ _
            go_wp2_with fail
            go_roundw
            case rel => exact ⟨k + 1, HKK, by omega, HA2, HT2⟩
            case measure =>
              show nr - numAt (wr.drew.setCell ⟨ab, 0, none⟩ (.int .i64 ((k + 1 : Nat) : Int))) ab < nr - numAt wr ab
              rw [HN2.out, HN0.out]
              omega
          | false =>
            have hpe : posL fk T.con = k := posL_stop hkC HK.out hkl
            have hls : Op.bytesLess T.con[k].1.toList fk.toList = false := hkl
            have HPE := Lib.hid hpe
            generalize T.con[k].1 = s at *
            clear hkl hpe c0
            go_wp2_with fail
            refine wp_region_held_drew (S := fun U => U.cell? ⟨ab, 0, none⟩ = some (.int .i64 k) ∧ U.cell? ⟨w1.heap.size + 1, 0, none⟩ = some (.pointer (some ⟨w1.heap.size, 0, none⟩)) ∧ U.cell? ⟨w1.heap.size, 0, none⟩ = some (.slice (some ⟨b, off, none⟩) nr cr) ∧ U.cell? ⟨b, off + k, none⟩ = some (.string s)) (by kernel_rfl) (by exact ⟨d0, d1, d2, d3⟩) (fun _ => ?_)
            (refine wpAnyH_take (i := 0) (v := ?_) rfl (by kernel_rfl) (by kernel_rfl) (by kernel_rfl) (fun _ _ _ h => h) (Or.inl ⟨by rfl, ?_⟩) (by assumption) ?_; rotate_left; (intro w hSw; (try dsimp only at hSw); go_simp; try with_reducible rfl); ((try simp only [List.getElem_toArray]); (try simp only [List.getElem_cons_succ]); (try simp only [List.getElem_cons_zero]); (try simp only [Act.put]); (try simp only [List.setIfInBounds_toArray]); (try simp only [List.set_cons_succ]); (try simp only [List.set_cons_zero])))
            (refine wpAnyH_take (i := 1) (v := ?_) rfl (by kernel_rfl) (by kernel_rfl) (by kernel_rfl) (fun _ _ _ h => h) (Or.inl ⟨by rfl, ?_⟩) (by assumption) ?_; rotate_left; (intro w hSw; (try dsimp only at hSw); go_simp; try with_reducible rfl); ((try simp only [List.getElem_toArray]); (try simp only [List.getElem_cons_succ]); (try simp only [List.getElem_cons_zero]); (try simp only [Act.put]); (try simp only [List.setIfInBounds_toArray]); (try simp only [List.set_cons_succ]); (try simp only [List.set_cons_zero])))
            (refine wpAnyH_take (i := 2) (v := ?_) rfl (by kernel_rfl) (by kernel_rfl) (by kernel_rfl) (fun _ _ _ h => h) (Or.inl ⟨by rfl, ?_⟩) (by assumption) ?_; rotate_left; (intro w hSw; (try dsimp only at hSw); go_simp; try with_reducible rfl); ((try simp only [List.getElem_toArray]); (try simp only [List.getElem_cons_succ]); (try simp only [List.getElem_cons_zero]); (try simp only [Act.put]); (try simp only [List.setIfInBounds_toArray]); (try simp only [List.set_cons_succ]); (try simp only [List.set_cons_zero])))
            (refine wpAnyH_take (i := 3) (v := ?_) rfl (by kernel_rfl) (by kernel_rfl) (by kernel_rfl) (fun _ _ _ h => h) (Or.inl ⟨by rfl, ?_⟩) (by assumption) ?_; rotate_left; (intro w hSw; (try dsimp only at hSw); go_simp; try with_reducible rfl); ((try simp only [List.getElem_toArray]); (try simp only [List.getElem_cons_succ]); (try simp only [List.getElem_cons_zero]); (try simp only [Act.put]); (try simp only [List.setIfInBounds_toArray]); (try simp only [List.set_cons_succ]); (try simp only [List.set_cons_zero])))
            (refine wpAnyH_take (i := 4) (v := ?_) rfl (by kernel_rfl) (by kernel_rfl) (by kernel_rfl) (fun _ _ _ h => h) (Or.inl ⟨by rfl, ?_⟩) (by assumption) ?_; rotate_left; (intro w hSw; (try dsimp only at hSw); go_simp; try with_reducible rfl); ((try simp only [List.getElem_toArray]); (try simp only [List.getElem_cons_succ]); (try simp only [List.getElem_cons_zero]); (try simp only [Act.put]); (try simp only [List.setIfInBounds_toArray]); (try simp only [List.set_cons_succ]); (try simp only [List.set_cons_zero])))
            (refine wpAnyH_take (i := 5) (v := ?_) rfl (by kernel_rfl) (by kernel_rfl) (by kernel_rfl) (fun _ _ _ h => h) (Or.inl ⟨by rfl, ?_⟩) (by assumption) ?_; rotate_left; (intro w hSw; (try dsimp only at hSw); go_simp; try with_reducible rfl); ((try simp only [List.getElem_toArray]); (try simp only [List.getElem_cons_succ]); (try simp only [List.getElem_cons_zero]); (try simp only [Act.put]); (try simp only [List.setIfInBounds_toArray]); (try simp only [List.set_cons_succ]); (try simp only [List.set_cons_zero])))
            (refine wpAnyH_take (i := 6) (v := ?_) rfl (by kernel_rfl) (by kernel_rfl) (by kernel_rfl) (fun _ _ _ h => h) (Or.inl ⟨by rfl, ?_⟩) (by assumption) ?_; rotate_left; (intro w hSw; (try dsimp only at hSw); go_simp; try with_reducible rfl); ((try simp only [List.getElem_toArray]); (try simp only [List.getElem_cons_succ]); (try simp only [List.getElem_cons_zero]); (try simp only [Act.put]); (try simp only [List.setIfInBounds_toArray]); (try simp only [List.set_cons_succ]); (try simp only [List.set_cons_zero])))
            (refine wpAnyH_take (i := 7) (v := ?_) rfl (by kernel_rfl) (by kernel_rfl) (by kernel_rfl) (fun _ _ _ h => h) (Or.inl ⟨by rfl, ?_⟩) (by assumption) ?_; rotate_left; (intro w hSw; (try dsimp only at hSw); go_simp; try with_reducible rfl); ((try simp only [List.getElem_toArray]); (try simp only [List.getElem_cons_succ]); (try simp only [List.getElem_cons_zero]); (try simp only [Act.put]); (try simp only [List.setIfInBounds_toArray]); (try simp only [List.set_cons_succ]); (try simp only [List.set_cons_zero])))
            (refine wpAnyH_take (i := 8) (v := ?_) rfl (by kernel_rfl) (by kernel_rfl) (by kernel_rfl) (fun _ _ _ h => h) (Or.inl ⟨by rfl, ?_⟩) (by assumption) ?_; rotate_left; (intro w hSw; (try dsimp only at hSw); go_simp; try with_reducible rfl); ((try simp only [List.getElem_toArray]); (try simp only [List.getElem_cons_succ]); (try simp only [List.getElem_cons_zero]); (try simp only [Act.put]); (try simp only [List.setIfInBounds_toArray]); (try simp only [List.set_cons_succ]); (try simp only [List.set_cons_zero])))
            (refine wpAnyH_take (i := 9) (v := ?_) rfl (by kernel_rfl) (by kernel_rfl) (by kernel_rfl) (fun _ _ _ h => h) (Or.inl ⟨by rfl, ?_⟩) (by assumption) ?_; rotate_left; (intro w hSw; (try dsimp only at hSw); go_simp; try with_reducible rfl); ((try simp only [List.getElem_toArray]); (try simp only [List.getElem_cons_succ]); (try simp only [List.getElem_cons_zero]); (try simp only [Act.put]); (try simp only [List.setIfInBounds_toArray]); (try simp only [List.set_cons_succ]); (try simp only [List.set_cons_zero])))
            (refine wpAnyH_take (i := 10) (v := ?_) rfl (by kernel_rfl) (by kernel_rfl) (by kernel_rfl) (fun _ _ _ h => h) (Or.inl ⟨by rfl, ?_⟩) (by assumption) ?_; rotate_left; (intro w hSw; (try dsimp only at hSw); go_simp; try with_reducible rfl); ((try simp only [List.getElem_toArray]); (try simp only [List.getElem_cons_succ]); (try simp only [List.getElem_cons_zero]); (try simp only [Act.put]); (try simp only [List.setIfInBounds_toArray]); (try simp only [List.set_cons_succ]); (try simp only [List.set_cons_zero])))
            (refine wpAnyH_take (i := 11) (v := ?_) rfl (by kernel_rfl) (by kernel_rfl) (by kernel_rfl) (fun _ _ _ h => h) (Or.inl ⟨by rfl, ?_⟩) (by assumption) ?_; rotate_left; (intro w hSw; (try dsimp only at hSw); go_simp; try with_reducible rfl); ((try simp only [List.getElem_toArray]); (try simp only [List.getElem_cons_succ]); (try simp only [List.getElem_cons_zero]); (try simp only [Act.put]); (try simp only [List.setIfInBounds_toArray]); (try simp only [List.set_cons_succ]); (try simp only [List.set_cons_zero])))
            (refine wpAnyH_take (i := 12) (v := ?_) rfl (by kernel_rfl) (by kernel_rfl) (by kernel_rfl) (fun _ _ _ h => h) (Or.inl ⟨by rfl, ?_⟩) (by assumption) ?_; rotate_left; (intro w hSw; (try dsimp only at hSw); go_simp; try with_reducible rfl); ((try simp only [List.getElem_toArray]); (try simp only [List.getElem_cons_succ]); (try simp only [List.getElem_cons_zero]); (try simp only [Act.put]); (try simp only [List.setIfInBounds_toArray]); (try simp only [List.set_cons_succ]); (try simp only [List.set_cons_zero])))
            (refine wpAnyH_take (i := 13) (v := ?_) rfl (by kernel_rfl) (by kernel_rfl) (by kernel_rfl) (fun _ _ _ h => h) (Or.inl ⟨by rfl, ?_⟩) (by assumption) ?_; rotate_left; (intro w hSw; (try dsimp only at hSw); go_simp; try with_reducible rfl); ((try simp only [List.getElem_toArray]); (try simp only [List.getElem_cons_succ]); (try simp only [List.getElem_cons_zero]); (try simp only [Act.put]); (try simp only [List.setIfInBounds_toArray]); (try simp only [List.set_cons_succ]); (try simp only [List.set_cons_zero])))
            (refine wpAnyH_take (i := 14) (v := ?_) rfl (by kernel_rfl) (by kernel_rfl) (by kernel_rfl) (fun _ _ _ h => h) (Or.inl ⟨by rfl, ?_⟩) (by assumption) ?_; rotate_left; (intro w hSw; (try dsimp only at hSw); go_simp; try with_reducible rfl); ((try simp only [List.getElem_toArray]); (try simp only [List.getElem_cons_succ]); (try simp only [List.getElem_cons_zero]); (try simp only [Act.put]); (try simp only [List.setIfInBounds_toArray]); (try simp only [List.set_cons_succ]); (try simp only [List.set_cons_zero])))
            (refine wpAnyH_take (i := 15) (v := ?_) rfl (by kernel_rfl) (by kernel_rfl) (by kernel_rfl) (fun _ _ _ h => h) (Or.inl ⟨by rfl, ?_⟩) (by assumption) ?_; rotate_left; (intro w hSw; (try dsimp only at hSw); go_simp; try with_reducible rfl); ((try simp only [List.getElem_toArray]); (try simp only [List.getElem_cons_succ]); (try simp only [List.getElem_cons_zero]); (try simp only [Act.put]); (try simp only [List.setIfInBounds_toArray]); (try simp only [List.set_cons_succ]); (try simp only [List.set_cons_zero])))
            (refine wpAnyH_take (i := 16) (v := ?_) rfl (by kernel_rfl) (by kernel_rfl) (by kernel_rfl) (fun _ _ _ h => h) (Or.inl ⟨by rfl, ?_⟩) (by assumption) ?_; rotate_left; (intro w hSw; (try dsimp only at hSw); go_simp; try with_reducible rfl); ((try simp only [List.getElem_toArray]); (try simp only [List.getElem_cons_succ]); (try simp only [List.getElem_cons_zero]); (try simp only [Act.put]); (try simp only [List.setIfInBounds_toArray]); (try simp only [List.set_cons_succ]); (try simp only [List.set_cons_zero])))
            (refine wpAnyH_take (i := 17) (v := ?_) rfl (by kernel_rfl) (by kernel_rfl) (by kernel_rfl) (fun _ _ _ h => h) (Or.inl ⟨by rfl, ?_⟩) (by assumption) ?_; rotate_left; (intro w hSw; (try dsimp only at hSw); go_simp; try with_reducible rfl); ((try simp only [List.getElem_toArray]); (try simp only [List.getElem_cons_succ]); (try simp only [List.getElem_cons_zero]); (try simp only [Act.put]); (try simp only [List.setIfInBounds_toArray]); (try simp only [List.set_cons_succ]); (try simp only [List.set_cons_zero])))
            refine wpAnyH_done (by kernel_rfl) ?_ _
            go_wp2_with fail
            go_meet
            case rel => exact ⟨by rw [HPE.out]; exact HAk, HTk.out.trans (Tur.drew [ab] wr) (Fre.refl _ _)⟩
        · have hkI : ¬ (k : Int) < (nr : Int) := by omega
          have hdk : decide ((k : Int) < (nr : Int)) = false := decide_eq_false hkI
          have hpe : posL fk T.con = k := by
            have h1 := posL_le fk T.con
            have h2 := HK.out
            have h3 := HNR.out
            omega
          have HPE := Lib.hid hpe
          clear hpe HK
          go_wp2_with fail
          refine wp_region_held_drew (S := fun U => U.cell? ⟨ab, 0, none⟩ = some (.int .i64 k) ∧ U.cell? ⟨w1.heap.size + 1, 0, none⟩ = some (.pointer (some ⟨w1.heap.size, 0, none⟩)) ∧ U.cell? ⟨w1.heap.size, 0, none⟩ = some (.slice Ar nr cr)) (by kernel_rfl) (by exact ⟨d0, d1, d2⟩) (fun _ => ?_)
          (refine wpAnyH_take (i := 0) (v := ?_) rfl (by kernel_rfl) (by kernel_rfl) (by kernel_rfl) (fun _ _ _ h => h) (Or.inl ⟨by rfl, ?_⟩) (by assumption) ?_; rotate_left; (intro w hSw; (try dsimp only at hSw); go_simp; try with_reducible rfl); ((try simp only [List.getElem_toArray]); (try simp only [List.getElem_cons_succ]); (try simp only [List.getElem_cons_zero]); (try simp only [Act.put]); (try simp only [List.setIfInBounds_toArray]); (try simp only [List.set_cons_succ]); (try simp only [List.set_cons_zero])))
          (refine wpAnyH_take (i := 1) (v := ?_) rfl (by kernel_rfl) (by kernel_rfl) (by kernel_rfl) (fun _ _ _ h => h) (Or.inl ⟨by rfl, ?_⟩) (by assumption) ?_; rotate_left; (intro w hSw; (try dsimp only at hSw); go_simp; try with_reducible rfl); ((try simp only [List.getElem_toArray]); (try simp only [List.getElem_cons_succ]); (try simp only [List.getElem_cons_zero]); (try simp only [Act.put]); (try simp only [List.setIfInBounds_toArray]); (try simp only [List.set_cons_succ]); (try simp only [List.set_cons_zero])))
          (refine wpAnyH_take (i := 2) (v := ?_) rfl (by kernel_rfl) (by kernel_rfl) (by kernel_rfl) (fun _ _ _ h => h) (Or.inl ⟨by rfl, ?_⟩) (by assumption) ?_; rotate_left; (intro w hSw; (try dsimp only at hSw); go_simp; try with_reducible rfl); ((try simp only [List.getElem_toArray]); (try simp only [List.getElem_cons_succ]); (try simp only [List.getElem_cons_zero]); (try simp only [Act.put]); (try simp only [List.setIfInBounds_toArray]); (try simp only [List.set_cons_succ]); (try simp only [List.set_cons_zero])))
          (refine wpAnyH_take (i := 3) (v := ?_) rfl (by kernel_rfl) (by kernel_rfl) (by kernel_rfl) (fun _ _ _ h => h) (Or.inl ⟨by rfl, ?_⟩) (by assumption) ?_; rotate_left; (intro w hSw; (try dsimp only at hSw); go_simp; try with_reducible rfl); ((try simp only [List.getElem_toArray]); (try simp only [List.getElem_cons_succ]); (try simp only [List.getElem_cons_zero]); (try simp only [Act.put]); (try simp only [List.setIfInBounds_toArray]); (try simp only [List.set_cons_succ]); (try simp only [List.set_cons_zero])))
          (refine wpAnyH_take (i := 4) (v := ?_) rfl (by kernel_rfl) (by kernel_rfl) (by kernel_rfl) (fun _ _ _ h => h) (Or.inl ⟨by rfl, ?_⟩) (by assumption) ?_; rotate_left; (intro w hSw; (try dsimp only at hSw); go_simp; try with_reducible rfl); ((try simp only [List.getElem_toArray]); (try simp only [List.getElem_cons_succ]); (try simp only [List.getElem_cons_zero]); (try simp only [Act.put]); (try simp only [List.setIfInBounds_toArray]); (try simp only [List.set_cons_succ]); (try simp only [List.set_cons_zero])))
          (refine wpAnyH_take (i := 5) (v := ?_) rfl (by kernel_rfl) (by kernel_rfl) (by kernel_rfl) (fun _ _ _ h => h) (Or.inl ⟨by rfl, ?_⟩) (by assumption) ?_; rotate_left; (intro w hSw; (try dsimp only at hSw); go_simp; try with_reducible rfl); ((try simp only [List.getElem_toArray]); (try simp only [List.getElem_cons_succ]); (try simp only [List.getElem_cons_zero]); (try simp only [Act.put]); (try simp only [List.setIfInBounds_toArray]); (try simp only [List.set_cons_succ]); (try simp only [List.set_cons_zero])))
          (refine wpAnyH_take (i := 6) (v := ?_) rfl (by kernel_rfl) (by kernel_rfl) (by kernel_rfl) (fun _ _ _ h => h) (Or.inl ⟨by rfl, ?_⟩) (by assumption) ?_; rotate_left; (intro w hSw; (try dsimp only at hSw); go_simp; try with_reducible rfl); ((try simp only [List.getElem_toArray]); (try simp only [List.getElem_cons_succ]); (try simp only [List.getElem_cons_zero]); (try simp only [Act.put]); (try simp only [List.setIfInBounds_toArray]); (try simp only [List.set_cons_succ]); (try simp only [List.set_cons_zero])))
          (refine wpAnyH_take (i := 7) (v := ?_) rfl (by kernel_rfl) (by kernel_rfl) (by kernel_rfl) (fun _ _ _ h => h) (Or.inl ⟨by rfl, ?_⟩) (by assumption) ?_; rotate_left; (intro w hSw; (try dsimp only at hSw); go_simp; try with_reducible rfl); ((try simp only [List.getElem_toArray]); (try simp only [List.getElem_cons_succ]); (try simp only [List.getElem_cons_zero]); (try simp only [Act.put]); (try simp only [List.setIfInBounds_toArray]); (try simp only [List.set_cons_succ]); (try simp only [List.set_cons_zero])))
          (refine wpAnyH_take (i := 8) (v := undef) rfl (by kernel_rfl) (by kernel_rfl) (by kernel_rfl) (fun _ _ _ h => h) (Or.inr ⟨by rfl, rfl⟩) (by assumption) ?_; ((try simp only [List.getElem_toArray]); (try simp only [List.getElem_cons_succ]); (try simp only [List.getElem_cons_zero]); (try simp only [Act.put]); (try simp only [List.setIfInBounds_toArray]); (try simp only [List.set_cons_succ]); (try simp only [List.set_cons_zero])))
          (refine wpAnyH_take (i := 9) (v := undef) rfl (by kernel_rfl) (by kernel_rfl) (by kernel_rfl) (fun _ _ _ h => h) (Or.inr ⟨by rfl, rfl⟩) (by assumption) ?_; ((try simp only [List.getElem_toArray]); (try simp only [List.getElem_cons_succ]); (try simp only [List.getElem_cons_zero]); (try simp only [Act.put]); (try simp only [List.setIfInBounds_toArray]); (try simp only [List.set_cons_succ]); (try simp only [List.set_cons_zero])))
          (refine wpAnyH_take (i := 10) (v := undef) rfl (by kernel_rfl) (by kernel_rfl) (by kernel_rfl) (fun _ _ _ h => h) (Or.inr ⟨by rfl, rfl⟩) (by assumption) ?_; ((try simp only [List.getElem_toArray]); (try simp only [List.getElem_cons_succ]); (try simp only [List.getElem_cons_zero]); (try simp only [Act.put]); (try simp only [List.setIfInBounds_toArray]); (try simp only [List.set_cons_succ]); (try simp only [List.set_cons_zero])))
          (refine wpAnyH_take (i := 11) (v := undef) rfl (by kernel_rfl) (by kernel_rfl) (by kernel_rfl) (fun _ _ _ h => h) (Or.inr ⟨by rfl, rfl⟩) (by assumption) ?_; ((try simp only [List.getElem_toArray]); (try simp only [List.getElem_cons_succ]); (try simp only [List.getElem_cons_zero]); (try simp only [Act.put]); (try simp only [List.setIfInBounds_toArray]); (try simp only [List.set_cons_succ]); (try simp only [List.set_cons_zero])))
          (refine wpAnyH_take (i := 12) (v := undef) rfl (by kernel_rfl) (by kernel_rfl) (by kernel_rfl) (fun _ _ _ h => h) (Or.inr ⟨by rfl, rfl⟩) (by assumption) ?_; ((try simp only [List.getElem_toArray]); (try simp only [List.getElem_cons_succ]); (try simp only [List.getElem_cons_zero]); (try simp only [Act.put]); (try simp only [List.setIfInBounds_toArray]); (try simp only [List.set_cons_succ]); (try simp only [List.set_cons_zero])))
          (refine wpAnyH_take (i := 13) (v := undef) rfl (by kernel_rfl) (by kernel_rfl) (by kernel_rfl) (fun _ _ _ h => h) (Or.inr ⟨by rfl, rfl⟩) (by assumption) ?_; ((try simp only [List.getElem_toArray]); (try simp only [List.getElem_cons_succ]); (try simp only [List.getElem_cons_zero]); (try simp only [Act.put]); (try simp only [List.setIfInBounds_toArray]); (try simp only [List.set_cons_succ]); (try simp only [List.set_cons_zero])))
          (refine wpAnyH_take (i := 14) (v := undef) rfl (by kernel_rfl) (by kernel_rfl) (by kernel_rfl) (fun _ _ _ h => h) (Or.inr ⟨by rfl, rfl⟩) (by assumption) ?_; ((try simp only [List.getElem_toArray]); (try simp only [List.getElem_cons_succ]); (try simp only [List.getElem_cons_zero]); (try simp only [Act.put]); (try simp only [List.setIfInBounds_toArray]); (try simp only [List.set_cons_succ]); (try simp only [List.set_cons_zero])))
          (refine wpAnyH_take (i := 15) (v := undef) rfl (by kernel_rfl) (by kernel_rfl) (by kernel_rfl) (fun _ _ _ h => h) (Or.inr ⟨by rfl, rfl⟩) (by assumption) ?_; ((try simp only [List.getElem_toArray]); (try simp only [List.getElem_cons_succ]); (try simp only [List.getElem_cons_zero]); (try simp only [Act.put]); (try simp only [List.setIfInBounds_toArray]); (try simp only [List.set_cons_succ]); (try simp only [List.set_cons_zero])))
          (refine wpAnyH_take (i := 16) (v := undef) rfl (by kernel_rfl) (by kernel_rfl) (by kernel_rfl) (fun _ _ _ h => h) (Or.inr ⟨by rfl, rfl⟩) (by assumption) ?_; ((try simp only [List.getElem_toArray]); (try simp only [List.getElem_cons_succ]); (try simp only [List.getElem_cons_zero]); (try simp only [Act.put]); (try simp only [List.setIfInBounds_toArray]); (try simp only [List.set_cons_succ]); (try simp only [List.set_cons_zero])))
          (refine wpAnyH_take (i := 17) (v := ?_) rfl (by kernel_rfl) (by kernel_rfl) (by kernel_rfl) (fun _ _ _ h => h) (Or.inl ⟨by rfl, ?_⟩) (by assumption) ?_; rotate_left; (intro w hSw; (try dsimp only at hSw); go_simp; try with_reducible rfl); ((try simp only [List.getElem_toArray]); (try simp only [List.getElem_cons_succ]); (try simp only [List.getElem_cons_zero]); (try simp only [Act.put]); (try simp only [List.setIfInBounds_toArray]); (try simp only [List.set_cons_succ]); (try simp only [List.set_cons_zero])))
          refine wpAnyH_done (by kernel_rfl) ?_ _
          go_wp2_with fail
          go_meet
          case rel => exact ⟨by rw [HPE.out]; exact HAk, HTk.out.trans (Tur.drew [ab] wr) (Fre.refl _ _)⟩
    case rest =>
      obtain ⟨HAP, HTP⟩ := hcut
      obtain ⟨pos, HPOS⟩ : ∃ pos, Hid (pos = posL fk T.con) := ⟨_, rfl⟩
      rw [← HPOS.out] at HAP
      have HTC := Lib.hid (HT4.out.turX HTP.out fun b hb => by
        have e : b = ab := by simpa using hb
        rw [e]
        exact ⟨_, _, HA4.out, by decide, by decide⟩)
      have HPC := Lib.hid (HP4.out.tur HTP.out NE1.out)
      have HGC := Lib.hid (HG4.out.tur HTP.out NE2.out)
      have HKC := Lib.hid (HK4.out.tur HTP.out NK1.out)
      have HVC := Lib.hid (HV4.out.tur HTP.out NK2.out)
      have hIC : Below (w.heap.size + 2) W0 wc := HI4.out.trans (HTP.out.below (by intro b hb; rw [List.mem_singleton.1 hb]; omega) (by have := HI4.out.size; omega))
      have HIC := Lib.hid hIC
      have HMC := Lib.hid (HM0.out.below hIC (by omega))
      have HVB := Lib.hid (HV0.out.below hIC (by omega))
      have hwc : ab < wc.heap.size := HAP.out.lt
      clear hIC HT4 HP4 HG4 HK4 HV4 HI4 HTP HA4
      go_wp2_with fail
      refine (from_any wc (w.heap.size + 2) fk).mono ?_
      rintro e w5 ⟨rfl, hw5⟩
      obtain ⟨V0, HV0E⟩ : ∃ V0, Hid (V0 = w5.alloc (.cells #[.int .i64 0] 3)) := ⟨_, rfl⟩
      have s5 : w5.heap.size = wc.heap.size + 2 := by rw [hw5]; simp
      have al5 : Below wc.heap.size wc w5 := by rw [hw5]; exact ((Below.refl _ wc).alloc (Nat.le_refl _) _).alloc (by simp) _
      have nb5 : Has w5 wc.heap.size 23 #[.pointer (some ⟨w.heap.size + 2, 0, none⟩)] := by rw [hw5]; exact (Has.new wc _ _).alloc _
      have kb5 : Has w5 (wc.heap.size + 1) 9 #[.string fk] := by
        rw [hw5]
        have := Has.new (wc.alloc (.cells #[.pointer (some ⟨w.heap.size + 2, 0, none⟩)] 23)) 9 #[.string fk]
        rw [World.size_alloc] at this
        exact this
      have al6 : Below w5.heap.size w5 V0 := by rw [HV0E.out]; exact (Below.refl _ w5).alloc (Nat.le_refl _) _
      have nV : Has V0 (wc.heap.size + 2) 3 #[.int .i64 0] := by rw [HV0E.out, ← s5]; exact Has.new w5 _ _
      have al7 : Below wc.heap.size wc V0 := al5.trans (al6.mono al5.size)
      have sV : V0.heap.size = wc.heap.size + 3 := by rw [HV0E.out]; simp [s5]
      have nbV : Has V0 wc.heap.size 23 #[.pointer (some ⟨w.heap.size + 2, 0, none⟩)] := nb5.below al6 (by omega)
      have kbV : Has V0 (wc.heap.size + 1) 9 #[.string fk] := kb5.below al6 (by omega)
      have TV : IsTr wc.heap.size V0 T := HTC.out.tr.below al7
      have tV : Has V0 (w.heap.size + 2) 49 #[.pointer T.ptr] := HTC.out.top.below al7 HTC.out.top.lt
      have htbl : w.heap.size + 2 < wc.heap.size := HTC.out.top.lt
      have hpbl : w1.heap.size + 1 < wc.heap.size := HPC.out.lt
      have HabV := Lib.hid (HAP.out.below al7 HAP.out.lt)
      have HpbV := Lib.hid (HPC.out.below al7 HPC.out.lt)
      have HgV := Lib.hid (HGC.out.below al7 HGC.out.lt)
      have HkV := Lib.hid (HKC.out.below al7)
      have HvV := Lib.hid (HVC.out.below al7)
      have HmV := Lib.hid (HMC.out.below al7 HMC.out.lt)
      have HbV := Lib.hid (HVB.out.below al7 HVB.out.lt)
      have HIV := Lib.hid (HIC.out.trans (al7.mono (by have := HIC.out.size; omega)))
      have hxs : (T.from fk).map (fun x => (x.k, x.v)) = T.con.drop pos := by rw [from_con fk T HRIS.out, from_drop HRIS.out, HPOS.out]
      have HXS := Lib.hid hxs
      have HTELL := Lib.hid (from1_tells wc.heap.size (w.heap.size + 2) fk T V0 wc.heap.size (wc.heap.size + 1) TV (by omega) htbl tV nbV kbV)
      have HNV := Lib.hid nV
      have F1 := Lib.hid (fun a (ha : Ar = some a) => Nat.lt_trans (HF1.out a ha) hwc)
      have F2 := Lib.hid (fun a (ha : Ar2 = some a) => Nat.lt_trans (HF2.out a ha) hwc)
      clear hxs hw5 al5 nb5 kb5 al6 nV al7 nbV kbV TV tV HTC HPC HGC HKC HVC HMC HVB HIC HAP
      have hfn := fun W => fnil_ne W wc.heap.size (wc.heap.size + 1)
      go_wp2_with fail
      rw [← HV0E.out]
      clear hfn
      refine (wpIn_wide (n := 3)).1 ?_
      refine wp_tells (xs := T.from fk) rfl rfl (gf := 25) (lb := #[.pointer (some ⟨wc.heap.size, 0, none⟩), .pointer (some ⟨wc.heap.size + 1, 0, none⟩)]) rfl trivial (enters_of Try.func25 (by kernel_rfl) rfl)
        HTELL.out (Nat.le_refl _) (fun _ _ => rfl) (by intro b hb; omega) (fun _ => rfl)
        (fun p Y U => Y = [wc.heap.size + 2] ∧ Tur [wc.heap.size + 2] V0 U ∧ Has U (wc.heap.size + 2) 3 #[.int .i64 (p.length : Nat)] ∧ (p = [] ∨ (p.length : Int) ≠ most))
        (fun c p Y U => c = .exit 4 ∧ Y = [wc.heap.size + 2] ∧ Tur [wc.heap.size + 2] V0 U ∧ Has U (wc.heap.size + 2) 3 #[.int .i64 (p.length : Nat)] ∧ (p.length : Int) = most ∧ p <+: T.from fk)
        (by rintro p Y U U' Z ⟨rfl, h1, h2, h3⟩ ht hz; exact ⟨rfl, h1.trans ht (fun b hb => .inr (hz b hb).1), h2.tur ht (fun hx => (hz _ hx).2 (by simp)), h3⟩)
        (by rintro c p Y U U' Z ⟨h0, rfl, h1, h2, h3⟩ ht hz; exact ⟨h0, rfl, h1.trans ht (fun b hb => .inr (hz b hb).1), h2.tur ht (fun hx => (hz _ hx).2 (by simp)), h3⟩)
        (by rintro p Y U ⟨rfl, h1, h2, h3⟩ b hb; rw [List.mem_singleton.1 hb]; exact h2.lt)
        [wc.heap.size + 2] (by intro b hb; rw [List.mem_singleton.1 hb]; omega) ⟨rfl, Tur.refl _ _, HNV.out, .inl rfl⟩ ?loop ?done ?stop
      case loop =>
        apply Exists.intro
        constructor
        · intro m' l' x U K hK
          dsimp only [Nd.enc2]
          gi_wp2
          exact hK
        · rintro m' l' p x Y U ⟨rfl, hT, hN, hpm⟩ hpre
          have hx0 : (T.from fk)[p.length]? = some x := by
            obtain ⟨tl, htl⟩ := hpre
            rw [← htl]
            simp
          have hxq : T.con[pos + p.length]? = some (x.k, x.v) := by
            have := congrArg (fun l : List (ByteArray × Int) => l[p.length]?) HXS.out
            simp only [List.getElem?_map, hx0, List.getElem?_drop, Option.map_some] at this
            exact this.symm
          obtain ⟨m, HMm⟩ : ∃ m, Hid (m = p.length) := ⟨_, rfl⟩
          obtain ⟨q, HQ⟩ : ∃ q, Hid (q = pos + m) := ⟨_, rfl⟩
          rw [← HMm.out, ← HQ.out] at hxq
          rw [← HMm.out] at hN
          obtain ⟨hqC, hqe⟩ := List.getElem?_eq_some_iff.1 hxq
          have hqn : q < nr := by rw [HNR.out] at hqC; exact hqC
          have hqI : (pos : Int) + (m : Int) = (q : Int) := by have := HQ.out; omega
          have hqnI : (q : Int) < (nr : Int) := by omega
          have hq0 : (0 : Int) ≤ (q : Int) := by omega
          have hwq : IntKind.i64.wrap (q : Int) = (q : Int) := by rw [IntKind.wrap_i64]; omega
          have hge : decide (nr ≤ q) = false := decide_eq_false (by omega)
          have hnge : ¬ nr ≤ q := by omega
          have hm40 : (m : Int) ≤ 40 := by have := HQ.out; omega
          obtain ⟨kb1, ko1, rfl, y1⟩ := HkV.out q (by rw [List.length_map]; exact hqC)
          obtain ⟨vb1, vo1, rfl, y2⟩ := HvV.out q (by rw [List.length_map]; exact hqC)
          rw [List.getElem_map, hqe] at y1 y2
          have n1 : kb1 ∉ [wc.heap.size + 2] := by have := F1.out _ rfl; simp at this ⊢; omega
          have n2 : vb1 ∉ [wc.heap.size + 2] := by have := F2.out _ rfl; simp at this ⊢; omega
          have z1 : U.drew.cell? ⟨kb1, ko1 + q, none⟩ = some (.string x.k) := (cell_same (hT.block kb1 (by have := F1.out _ rfl; simp at this; omega) n1)).trans y1
          have z2 : U.drew.cell? ⟨vb1, vo1 + q, none⟩ = some (.int .i64 x.v) := (cell_same (hT.block vb1 (by have := F2.out _ rfl; simp at this; omega) n2)).trans y2
          have z3 : U.drew.cell? ⟨ab, 0, none⟩ = some (.int .i64 pos) := (HabV.out.tur hT (by simp; omega)).cell 0
          have z4 : U.drew.cell? ⟨wc.heap.size + 2, 0, none⟩ = some (.int .i64 m) := hN.cell 0
          have z5 : U.drew.cell? ⟨w1.heap.size + 1, 0, none⟩ = some (.pointer (some ⟨w1.heap.size, 0, none⟩)) := (HpbV.out.tur hT (by simp; omega)).cell 0
          have hgU := HgV.out.tur hT (by simp; omega)
          have z6 : U.drew.cell? ⟨w1.heap.size, 0, none⟩ = some (.slice (some ⟨kb1, ko1, none⟩) nr cr) := hgU.cell 0
          have z7 : U.drew.cell? ⟨w1.heap.size, 1, none⟩ = some (.slice (some ⟨vb1, vo1, none⟩) nr cr2) := hgU.cell 1
          have f4 : U.drew.frozen? ⟨wc.heap.size + 2, 0, none⟩ = false := hN.free 0
          have hN2 : Has (U.drew.setCell ⟨wc.heap.size + 2, 0, none⟩ (.int .i64 ((m : Int) + 1))) (wc.heap.size + 2) 3 #[.int .i64 ((m : Int) + 1)] := (show Has U.drew (wc.heap.size + 2) 3 #[.int .i64 m] from hN).put 0 _
          have tU : Tur [wc.heap.size + 2] U (U.drew.setCell ⟨wc.heap.size + 2, 0, none⟩ (.int .i64 ((m : Int) + 1))) := (Tur.drew _ U).trans (Tur.setCell U.drew (p := ⟨wc.heap.size + 2, 0, none⟩) (by simp) _) (Fre.refl _ _)
          have hT2 := hT.trans tU (Fre.refl _ _)
          have z8 : (U.setCell ⟨wc.heap.size + 2, 0, none⟩ (.int .i64 ((m : Int) + 1))).cell? ⟨wc.heap.size + 2, 0, none⟩ = some (.int .i64 ((m : Int) + 1)) := hN2.cell 0
          have z9 : (U.setCell ⟨wc.heap.size + 2, 0, none⟩ (.int .i64 ((m : Int) + 1))).cell? ⟨w.heap.size, 0, none⟩ = some (.int .i64 most) := (HmV.out.tur hT2 (by simp; omega)).cell 0
          have HTU := Lib.hid tU
          have HT2 := Lib.hid hT2
          have HN2 : Hid (Has (U.drew.setCell ⟨wc.heap.size + 2, 0, none⟩ (.int .i64 ((m : Int) + 1))) (wc.heap.size + 2) 3 #[.int .i64 ((p ++ [x]).length : Nat)]) := by
            have e : (((p ++ [x]).length : Nat) : Int) = (m : Int) + 1 := by rw [List.length_append, HMm.out]; simp
            rw [e]
            exact hN2
          have HPRE := Lib.hid hpre
          have HLE : Hid ((((p ++ [x]).length : Nat) : Int) = (m : Int) + 1) := by show _ = _; rw [List.length_append, HMm.out]; simp
          clear tU hT2 hN2 hgU y1 y2 hx0 hxq hqe hqC n1 n2 hpm hpre hT hN hqn
          have hkk : (x.k.toList == x.k.toList) = true := beq_self_eq_true _
          have hkk2 : (x.k.toList != x.k.toList) = false := by simp
          have hvv : (x.v == x.v) = true := beq_self_eq_true _
          have hvv2 : (x.v != x.v) = false := by simp
          have hS0 : U.drew.cell? ⟨kb1, ko1 + q, none⟩ = some (.string x.k) ∧ U.drew.cell? ⟨vb1, vo1 + q, none⟩ = some (.int .i64 x.v) ∧ U.drew.cell? ⟨ab, 0, none⟩ = some (.int .i64 pos) ∧ U.drew.cell? ⟨wc.heap.size + 2, 0, none⟩ = some (.int .i64 m) ∧ U.drew.cell? ⟨w1.heap.size + 1, 0, none⟩ = some (.pointer (some ⟨w1.heap.size, 0, none⟩)) ∧ U.drew.cell? ⟨w1.heap.size, 0, none⟩ = some (.slice (some ⟨kb1, ko1, none⟩) nr cr) ∧ U.drew.cell? ⟨w1.heap.size, 1, none⟩ = some (.slice (some ⟨vb1, vo1, none⟩) nr cr2) := ⟨z1, z2, z3, z4, z5, z6, z7⟩
          gi_wp2
          refine wpIn_anyR (S := fun G => G.cell? ⟨kb1, ko1 + q, none⟩ = some (.string x.k) ∧ G.cell? ⟨vb1, vo1 + q, none⟩ = some (.int .i64 x.v) ∧ G.cell? ⟨ab, 0, none⟩ = some (.int .i64 pos) ∧ G.cell? ⟨wc.heap.size + 2, 0, none⟩ = some (.int .i64 m) ∧ G.cell? ⟨w1.heap.size + 1, 0, none⟩ = some (.pointer (some ⟨w1.heap.size, 0, none⟩)) ∧ G.cell? ⟨w1.heap.size, 0, none⟩ = some (.slice (some ⟨kb1, ko1, none⟩) nr cr) ∧ G.cell? ⟨w1.heap.size, 1, none⟩ = some (.slice (some ⟨vb1, vo1, none⟩) nr cr2)) hmix ?_
          (refine anyR_take (by kernel_rfl) (i := 0) (v := ?_) rfl (by kernel_rfl) (by kernel_rfl) (by kernel_rfl) (fun _ _ _ h => h) (Or.inl ⟨by rfl, ?_⟩) (by assumption) ?_; rotate_left; (intro w hSw; (try dsimp only at hSw); go_simp; try with_reducible rfl); ((try simp only [List.getElem_toArray]); (try simp only [List.getElem_cons_succ]); (try simp only [List.getElem_cons_zero]); (try simp only [Act.put]); (try simp only [List.setIfInBounds_toArray]); (try simp only [List.set_cons_succ]); (try simp only [List.set_cons_zero])))
          (refine anyR_take (by kernel_rfl) (i := 1) (v := ?_) rfl (by kernel_rfl) (by kernel_rfl) (by kernel_rfl) (fun _ _ _ h => h) (Or.inl ⟨by rfl, ?_⟩) (by assumption) ?_; rotate_left; (intro w hSw; (try dsimp only at hSw); go_simp; try with_reducible rfl); ((try simp only [List.getElem_toArray]); (try simp only [List.getElem_cons_succ]); (try simp only [List.getElem_cons_zero]); (try simp only [Act.put]); (try simp only [List.setIfInBounds_toArray]); (try simp only [List.set_cons_succ]); (try simp only [List.set_cons_zero])))
          (refine anyR_take (by kernel_rfl) (i := 2) (v := ?_) rfl (by kernel_rfl) (by kernel_rfl) (by kernel_rfl) (fun _ _ _ h => h) (Or.inl ⟨by rfl, ?_⟩) (by assumption) ?_; rotate_left; (intro w hSw; (try dsimp only at hSw); go_simp; try with_reducible rfl); ((try simp only [List.getElem_toArray]); (try simp only [List.getElem_cons_succ]); (try simp only [List.getElem_cons_zero]); (try simp only [Act.put]); (try simp only [List.setIfInBounds_toArray]); (try simp only [List.set_cons_succ]); (try simp only [List.set_cons_zero])))
          (refine anyR_take (by kernel_rfl) (i := 3) (v := ?_) rfl (by kernel_rfl) (by kernel_rfl) (by kernel_rfl) (fun _ _ _ h => h) (Or.inl ⟨by rfl, ?_⟩) (by assumption) ?_; rotate_left; (intro w hSw; (try dsimp only at hSw); go_simp; try with_reducible rfl); ((try simp only [List.getElem_toArray]); (try simp only [List.getElem_cons_succ]); (try simp only [List.getElem_cons_zero]); (try simp only [Act.put]); (try simp only [List.setIfInBounds_toArray]); (try simp only [List.set_cons_succ]); (try simp only [List.set_cons_zero])))
          (refine anyR_take (by kernel_rfl) (i := 4) (v := ?_) rfl (by kernel_rfl) (by kernel_rfl) (by kernel_rfl) (fun _ _ _ h => h) (Or.inl ⟨by rfl, ?_⟩) (by assumption) ?_; rotate_left; (intro w hSw; (try dsimp only at hSw); go_simp; try with_reducible rfl); ((try simp only [List.getElem_toArray]); (try simp only [List.getElem_cons_succ]); (try simp only [List.getElem_cons_zero]); (try simp only [Act.put]); (try simp only [List.setIfInBounds_toArray]); (try simp only [List.set_cons_succ]); (try simp only [List.set_cons_zero])))
          (refine anyR_take (by kernel_rfl) (i := 5) (v := ?_) rfl (by kernel_rfl) (by kernel_rfl) (by kernel_rfl) (fun _ _ _ h => h) (Or.inl ⟨by rfl, ?_⟩) (by assumption) ?_; rotate_left; (intro w hSw; (try dsimp only at hSw); go_simp; try with_reducible rfl); ((try simp only [List.getElem_toArray]); (try simp only [List.getElem_cons_succ]); (try simp only [List.getElem_cons_zero]); (try simp only [Act.put]); (try simp only [List.setIfInBounds_toArray]); (try simp only [List.set_cons_succ]); (try simp only [List.set_cons_zero])))
          (refine anyR_take (by kernel_rfl) (i := 6) (v := ?_) rfl (by kernel_rfl) (by kernel_rfl) (by kernel_rfl) (fun _ _ _ h => h) (Or.inl ⟨by rfl, ?_⟩) (by assumption) ?_; rotate_left; (intro w hSw; (try dsimp only at hSw); go_simp; try with_reducible rfl); ((try simp only [List.getElem_toArray]); (try simp only [List.getElem_cons_succ]); (try simp only [List.getElem_cons_zero]); (try simp only [Act.put]); (try simp only [List.setIfInBounds_toArray]); (try simp only [List.set_cons_succ]); (try simp only [List.set_cons_zero])))
          (refine anyR_take (by kernel_rfl) (i := 7) (v := ?_) rfl (by kernel_rfl) (by kernel_rfl) (by kernel_rfl) (fun _ _ _ h => h) (Or.inl ⟨by rfl, ?_⟩) (by assumption) ?_; rotate_left; (intro w hSw; (try dsimp only at hSw); go_simp; try with_reducible rfl); ((try simp only [List.getElem_toArray]); (try simp only [List.getElem_cons_succ]); (try simp only [List.getElem_cons_zero]); (try simp only [Act.put]); (try simp only [List.setIfInBounds_toArray]); (try simp only [List.set_cons_succ]); (try simp only [List.set_cons_zero])))
          (refine anyR_take (by kernel_rfl) (i := 8) (v := ?_) rfl (by kernel_rfl) (by kernel_rfl) (by kernel_rfl) (fun _ _ _ h => h) (Or.inl ⟨by rfl, ?_⟩) (by assumption) ?_; rotate_left; (intro w hSw; (try dsimp only at hSw); go_simp; try with_reducible rfl); ((try simp only [List.getElem_toArray]); (try simp only [List.getElem_cons_succ]); (try simp only [List.getElem_cons_zero]); (try simp only [Act.put]); (try simp only [List.setIfInBounds_toArray]); (try simp only [List.set_cons_succ]); (try simp only [List.set_cons_zero])))
          (refine anyR_take (by kernel_rfl) (i := 9) (v := ?_) rfl (by kernel_rfl) (by kernel_rfl) (by kernel_rfl) (fun _ _ _ h => h) (Or.inl ⟨by rfl, ?_⟩) (by assumption) ?_; rotate_left; (intro w hSw; (try dsimp only at hSw); go_simp; try with_reducible rfl); ((try simp only [List.getElem_toArray]); (try simp only [List.getElem_cons_succ]); (try simp only [List.getElem_cons_zero]); (try simp only [Act.put]); (try simp only [List.setIfInBounds_toArray]); (try simp only [List.set_cons_succ]); (try simp only [List.set_cons_zero])))
          (refine anyR_take (by kernel_rfl) (i := 10) (v := ?_) rfl (by kernel_rfl) (by kernel_rfl) (by kernel_rfl) (fun _ _ _ h => h) (Or.inl ⟨by rfl, ?_⟩) (by assumption) ?_; rotate_left; (intro w hSw; (try dsimp only at hSw); go_simp; try with_reducible rfl); ((try simp only [List.getElem_toArray]); (try simp only [List.getElem_cons_succ]); (try simp only [List.getElem_cons_zero]); (try simp only [Act.put]); (try simp only [List.setIfInBounds_toArray]); (try simp only [List.set_cons_succ]); (try simp only [List.set_cons_zero])))
          (refine anyR_take (by kernel_rfl) (i := 11) (v := ?_) rfl (by kernel_rfl) (by kernel_rfl) (by kernel_rfl) (fun _ _ _ h => h) (Or.inl ⟨by rfl, ?_⟩) (by assumption) ?_; rotate_left; (intro w hSw; (try dsimp only at hSw); go_simp; try with_reducible rfl); ((try simp only [List.getElem_toArray]); (try simp only [List.getElem_cons_succ]); (try simp only [List.getElem_cons_zero]); (try simp only [Act.put]); (try simp only [List.setIfInBounds_toArray]); (try simp only [List.set_cons_succ]); (try simp only [List.set_cons_zero])))
          (refine anyR_take (by kernel_rfl) (i := 12) (v := ?_) rfl (by kernel_rfl) (by kernel_rfl) (by kernel_rfl) (fun _ _ _ h => h) (Or.inl ⟨by rfl, ?_⟩) (by assumption) ?_; rotate_left; (intro w hSw; (try dsimp only at hSw); go_simp; try with_reducible rfl); ((try simp only [List.getElem_toArray]); (try simp only [List.getElem_cons_succ]); (try simp only [List.getElem_cons_zero]); (try simp only [Act.put]); (try simp only [List.setIfInBounds_toArray]); (try simp only [List.set_cons_succ]); (try simp only [List.set_cons_zero])))
          (refine anyR_take (by kernel_rfl) (i := 13) (v := ?_) rfl (by kernel_rfl) (by kernel_rfl) (by kernel_rfl) (fun _ _ _ h => h) (Or.inl ⟨by rfl, ?_⟩) (by assumption) ?_; rotate_left; (intro w hSw; (try dsimp only at hSw); go_simp; try with_reducible rfl); ((try simp only [List.getElem_toArray]); (try simp only [List.getElem_cons_succ]); (try simp only [List.getElem_cons_zero]); (try simp only [Act.put]); (try simp only [List.setIfInBounds_toArray]); (try simp only [List.set_cons_succ]); (try simp only [List.set_cons_zero])))
          (refine anyR_take (by kernel_rfl) (i := 14) (v := ?_) rfl (by kernel_rfl) (by kernel_rfl) (by kernel_rfl) (fun _ _ _ h => h) (Or.inl ⟨by rfl, ?_⟩) (by assumption) ?_; rotate_left; (intro w hSw; (try dsimp only at hSw); go_simp; try with_reducible rfl); ((try simp only [List.getElem_toArray]); (try simp only [List.getElem_cons_succ]); (try simp only [List.getElem_cons_zero]); (try simp only [Act.put]); (try simp only [List.setIfInBounds_toArray]); (try simp only [List.set_cons_succ]); (try simp only [List.set_cons_zero])))
          (refine anyR_take (by kernel_rfl) (i := 15) (v := ?_) rfl (by kernel_rfl) (by kernel_rfl) (by kernel_rfl) (fun _ _ _ h => h) (Or.inl ⟨by rfl, ?_⟩) (by assumption) ?_; rotate_left; (intro w hSw; (try dsimp only at hSw); go_simp; try with_reducible rfl); ((try simp only [List.getElem_toArray]); (try simp only [List.getElem_cons_succ]); (try simp only [List.getElem_cons_zero]); (try simp only [Act.put]); (try simp only [List.setIfInBounds_toArray]); (try simp only [List.set_cons_succ]); (try simp only [List.set_cons_zero])))
          (refine anyR_take (by kernel_rfl) (i := 16) (v := ?_) rfl (by kernel_rfl) (by kernel_rfl) (by kernel_rfl) (fun _ _ _ h => h) (Or.inl ⟨by rfl, ?_⟩) (by assumption) ?_; rotate_left; (intro w hSw; (try dsimp only at hSw); go_simp; try with_reducible rfl); ((try simp only [List.getElem_toArray]); (try simp only [List.getElem_cons_succ]); (try simp only [List.getElem_cons_zero]); (try simp only [Act.put]); (try simp only [List.setIfInBounds_toArray]); (try simp only [List.set_cons_succ]); (try simp only [List.set_cons_zero])))
          (refine anyR_take (by kernel_rfl) (i := 17) (v := ?_) rfl (by kernel_rfl) (by kernel_rfl) (by kernel_rfl) (fun _ _ _ h => h) (Or.inl ⟨by rfl, ?_⟩) (by assumption) ?_; rotate_left; (intro w hSw; (try dsimp only at hSw); go_simp; try with_reducible rfl); ((try simp only [List.getElem_toArray]); (try simp only [List.getElem_cons_succ]); (try simp only [List.getElem_cons_zero]); (try simp only [Act.put]); (try simp only [List.setIfInBounds_toArray]); (try simp only [List.set_cons_succ]); (try simp only [List.set_cons_zero])))
          (refine anyR_take (by kernel_rfl) (i := 18) (v := ?_) rfl (by kernel_rfl) (by kernel_rfl) (by kernel_rfl) (fun _ _ _ h => h) (Or.inl ⟨by rfl, ?_⟩) (by assumption) ?_; rotate_left; (intro w hSw; (try dsimp only at hSw); go_simp; try with_reducible rfl); ((try simp only [List.getElem_toArray]); (try simp only [List.getElem_cons_succ]); (try simp only [List.getElem_cons_zero]); (try simp only [Act.put]); (try simp only [List.setIfInBounds_toArray]); (try simp only [List.set_cons_succ]); (try simp only [List.set_cons_zero])))
          (refine anyR_take (by kernel_rfl) (i := 19) (v := ?_) rfl (by kernel_rfl) (by kernel_rfl) (by kernel_rfl) (fun _ _ _ h => h) (Or.inl ⟨by rfl, ?_⟩) (by assumption) ?_; rotate_left; (intro w hSw; (try dsimp only at hSw); go_simp; try with_reducible rfl); ((try simp only [List.getElem_toArray]); (try simp only [List.getElem_cons_succ]); (try simp only [List.getElem_cons_zero]); (try simp only [Act.put]); (try simp only [List.setIfInBounds_toArray]); (try simp only [List.set_cons_succ]); (try simp only [List.set_cons_zero])))
          (refine anyR_take (by kernel_rfl) (i := 20) (v := ?_) rfl (by kernel_rfl) (by kernel_rfl) (by kernel_rfl) (fun _ _ _ h => h) (Or.inl ⟨by rfl, ?_⟩) (by assumption) ?_; rotate_left; (intro w hSw; (try dsimp only at hSw); go_simp; try with_reducible rfl); ((try simp only [List.getElem_toArray]); (try simp only [List.getElem_cons_succ]); (try simp only [List.getElem_cons_zero]); (try simp only [Act.put]); (try simp only [List.setIfInBounds_toArray]); (try simp only [List.set_cons_succ]); (try simp only [List.set_cons_zero])))
          (refine anyR_take (by kernel_rfl) (i := 21) (v := ?_) rfl (by kernel_rfl) (by kernel_rfl) (by kernel_rfl) (fun _ _ _ h => h) (Or.inl ⟨by rfl, ?_⟩) (by assumption) ?_; rotate_left; (intro w hSw; (try dsimp only at hSw); go_simp; try with_reducible rfl); ((try simp only [List.getElem_toArray]); (try simp only [List.getElem_cons_succ]); (try simp only [List.getElem_cons_zero]); (try simp only [Act.put]); (try simp only [List.setIfInBounds_toArray]); (try simp only [List.set_cons_succ]); (try simp only [List.set_cons_zero])))
          (refine anyR_take (by kernel_rfl) (i := 22) (v := ?_) rfl (by kernel_rfl) (by kernel_rfl) (by kernel_rfl) (fun _ _ _ h => h) (Or.inl ⟨by rfl, ?_⟩) (by assumption) ?_; rotate_left; (intro w hSw; (try dsimp only at hSw); go_simp; try with_reducible rfl); ((try simp only [List.getElem_toArray]); (try simp only [List.getElem_cons_succ]); (try simp only [List.getElem_cons_zero]); (try simp only [Act.put]); (try simp only [List.setIfInBounds_toArray]); (try simp only [List.set_cons_succ]); (try simp only [List.set_cons_zero])))
          (refine anyR_take (by kernel_rfl) (i := 23) (v := ?_) rfl (by kernel_rfl) (by kernel_rfl) (by kernel_rfl) (fun _ _ _ h => h) (Or.inl ⟨by rfl, ?_⟩) (by assumption) ?_; rotate_left; (intro w hSw; (try dsimp only at hSw); go_simp; try with_reducible rfl); ((try simp only [List.getElem_toArray]); (try simp only [List.getElem_cons_succ]); (try simp only [List.getElem_cons_zero]); (try simp only [Act.put]); (try simp only [List.setIfInBounds_toArray]); (try simp only [List.set_cons_succ]); (try simp only [List.set_cons_zero])))
          (refine anyR_take (by kernel_rfl) (i := 24) (v := ?_) rfl (by kernel_rfl) (by kernel_rfl) (by kernel_rfl) (fun _ _ _ h => h) (Or.inl ⟨by rfl, ?_⟩) (by assumption) ?_; rotate_left; (intro w hSw; (try dsimp only at hSw); go_simp; try with_reducible rfl); ((try simp only [List.getElem_toArray]); (try simp only [List.getElem_cons_succ]); (try simp only [List.getElem_cons_zero]); (try simp only [Act.put]); (try simp only [List.setIfInBounds_toArray]); (try simp only [List.set_cons_succ]); (try simp only [List.set_cons_zero])))
          (refine anyR_take (by kernel_rfl) (i := 25) (v := ?_) rfl (by kernel_rfl) (by kernel_rfl) (by kernel_rfl) (fun _ _ _ h => h) (Or.inl ⟨by rfl, ?_⟩) (by assumption) ?_; rotate_left; (intro w hSw; (try dsimp only at hSw); go_simp; try with_reducible rfl); ((try simp only [List.getElem_toArray]); (try simp only [List.getElem_cons_succ]); (try simp only [List.getElem_cons_zero]); (try simp only [Act.put]); (try simp only [List.setIfInBounds_toArray]); (try simp only [List.set_cons_succ]); (try simp only [List.set_cons_zero])))
          (refine anyR_take (by kernel_rfl) (i := 26) (v := ?_) rfl (by kernel_rfl) (by kernel_rfl) (by kernel_rfl) (fun _ _ _ h => h) (Or.inl ⟨by rfl, ?_⟩) (by assumption) ?_; rotate_left; (intro w hSw; (try dsimp only at hSw); go_simp; try with_reducible rfl); ((try simp only [List.getElem_toArray]); (try simp only [List.getElem_cons_succ]); (try simp only [List.getElem_cons_zero]); (try simp only [Act.put]); (try simp only [List.setIfInBounds_toArray]); (try simp only [List.set_cons_succ]); (try simp only [List.set_cons_zero])))
          (refine anyR_take (by kernel_rfl) (i := 27) (v := ?_) rfl (by kernel_rfl) (by kernel_rfl) (by kernel_rfl) (fun _ _ _ h => h) (Or.inl ⟨by rfl, ?_⟩) (by assumption) ?_; rotate_left; (intro w hSw; (try dsimp only at hSw); go_simp; try with_reducible rfl); ((try simp only [List.getElem_toArray]); (try simp only [List.getElem_cons_succ]); (try simp only [List.getElem_cons_zero]); (try simp only [Act.put]); (try simp only [List.setIfInBounds_toArray]); (try simp only [List.set_cons_succ]); (try simp only [List.set_cons_zero])))
          (refine anyR_take (by kernel_rfl) (i := 28) (v := ?_) rfl (by kernel_rfl) (by kernel_rfl) (by kernel_rfl) (fun _ _ _ h => h) (Or.inl ⟨by rfl, ?_⟩) (by assumption) ?_; rotate_left; (intro w hSw; (try dsimp only at hSw); go_simp; try with_reducible rfl); ((try simp only [List.getElem_toArray]); (try simp only [List.getElem_cons_succ]); (try simp only [List.getElem_cons_zero]); (try simp only [Act.put]); (try simp only [List.setIfInBounds_toArray]); (try simp only [List.set_cons_succ]); (try simp only [List.set_cons_zero])))
          (refine anyR_take (by kernel_rfl) (i := 29) (v := ?_) rfl (by kernel_rfl) (by kernel_rfl) (by kernel_rfl) (fun _ _ _ h => h) (Or.inl ⟨by rfl, ?_⟩) (by assumption) ?_; rotate_left; (intro w hSw; (try dsimp only at hSw); go_simp; try with_reducible rfl); ((try simp only [List.getElem_toArray]); (try simp only [List.getElem_cons_succ]); (try simp only [List.getElem_cons_zero]); (try simp only [Act.put]); (try simp only [List.setIfInBounds_toArray]); (try simp only [List.set_cons_succ]); (try simp only [List.set_cons_zero])))
          (refine anyR_take (by kernel_rfl) (i := 30) (v := ?_) rfl (by kernel_rfl) (by kernel_rfl) (by kernel_rfl) (fun _ _ _ h => h) (Or.inl ⟨by rfl, ?_⟩) (by assumption) ?_; rotate_left; (intro w hSw; (try dsimp only at hSw); go_simp; try with_reducible rfl); ((try simp only [List.getElem_toArray]); (try simp only [List.getElem_cons_succ]); (try simp only [List.getElem_cons_zero]); (try simp only [Act.put]); (try simp only [List.setIfInBounds_toArray]); (try simp only [List.set_cons_succ]); (try simp only [List.set_cons_zero])))
          (refine anyR_take (by kernel_rfl) (i := 31) (v := ?_) rfl (by kernel_rfl) (by kernel_rfl) (by kernel_rfl) (fun _ _ _ h => h) (Or.inl ⟨by rfl, ?_⟩) (by assumption) ?_; rotate_left; (intro w hSw; (try dsimp only at hSw); go_simp; try with_reducible rfl); ((try simp only [List.getElem_toArray]); (try simp only [List.getElem_cons_succ]); (try simp only [List.getElem_cons_zero]); (try simp only [Act.put]); (try simp only [List.setIfInBounds_toArray]); (try simp only [List.set_cons_succ]); (try simp only [List.set_cons_zero])))
          (refine anyR_take (by kernel_rfl) (i := 32) (v := ?_) rfl (by kernel_rfl) (by kernel_rfl) (by kernel_rfl) (fun _ _ _ h => h) (Or.inl ⟨by rfl, ?_⟩) (by assumption) ?_; rotate_left; (intro w hSw; (try dsimp only at hSw); go_simp; try with_reducible rfl); ((try simp only [List.getElem_toArray]); (try simp only [List.getElem_cons_succ]); (try simp only [List.getElem_cons_zero]); (try simp only [Act.put]); (try simp only [List.setIfInBounds_toArray]); (try simp only [List.set_cons_succ]); (try simp only [List.set_cons_zero])))
          (refine anyR_take (by kernel_rfl) (i := 33) (v := ?_) rfl (by kernel_rfl) (by kernel_rfl) (by kernel_rfl) (fun _ _ _ h => h) (Or.inl ⟨by rfl, ?_⟩) (by assumption) ?_; rotate_left; (intro w hSw; (try dsimp only at hSw); go_simp; try with_reducible rfl); ((try simp only [List.getElem_toArray]); (try simp only [List.getElem_cons_succ]); (try simp only [List.getElem_cons_zero]); (try simp only [Act.put]); (try simp only [List.setIfInBounds_toArray]); (try simp only [List.set_cons_succ]); (try simp only [List.set_cons_zero])))
          (refine anyR_take (by kernel_rfl) (i := 34) (v := ?_) rfl (by kernel_rfl) (by kernel_rfl) (by kernel_rfl) (fun _ _ _ h => h) (Or.inl ⟨by rfl, ?_⟩) (by assumption) ?_; rotate_left; (intro w hSw; (try dsimp only at hSw); go_simp; try with_reducible rfl); ((try simp only [List.getElem_toArray]); (try simp only [List.getElem_cons_succ]); (try simp only [List.getElem_cons_zero]); (try simp only [Act.put]); (try simp only [List.setIfInBounds_toArray]); (try simp only [List.set_cons_succ]); (try simp only [List.set_cons_zero])))
          refine anyR_done (by kernel_rfl) ?_ _
          clear z1 z2 z3 z5 z6 z7 hS0 hkk hkk2 hvv hvv2
          by_cases hme : (m : Int) + 1 = most
          · have hmb : ((m : Int) + 1 == most) = true := by rw [hme]; simp
            have HME := Lib.hid hme
            clear hme
            gi_wp2
            exact ⟨[wc.heap.size + 2], ⟨rfl, rfl, HT2.out, HN2.out, by rw [HLE.out]; exact HME.out, HPRE.out⟩, HTU.out, Fre.refl _ _⟩
          · have hmb : ((m : Int) + 1 == most) = false := by simpa using hme
            have HME := Lib.hid hme
            clear hme
            gi_wp2
            exact ⟨[wc.heap.size + 2], ⟨rfl, HT2.out, HN2.out, .inr (by rw [HLE.out]; exact HME.out)⟩, HTU.out, Fre.refl _ _⟩
      case done =>
        rintro D Y U hD ⟨rfl, hT, hN, hpm⟩ hDY hDd
        obtain ⟨p, hpE⟩ : ∃ p, p = T.from fk := ⟨_, rfl⟩
        rw [← hpE] at hN hpm
        have hpl := posL_le fk T.con
        rw [← HPOS.out, HNR.out] at hpl
        have hxl : p.length ≤ (T.from fk).length := by rw [hpE]; exact Nat.le_refl _
        have hxd : (T.from fk).length = nr - pos := by
          have := congrArg List.length HXS.out
          rw [List.length_map, List.length_drop, HNR.out] at this
          exact this
        obtain ⟨m, HMm⟩ : ∃ m, Hid (m = p.length) := ⟨_, rfl⟩
        obtain ⟨q, HQ⟩ : ∃ q, Hid (q = pos + m) := ⟨_, rfl⟩
        rw [← HMm.out] at hN hpm hxl
        have hqn : q ≤ nr := by have := HQ.out; omega
        have hqI : (pos : Int) + (m : Int) = (q : Int) := by have := HQ.out; omega
        have hwq : IntKind.i64.wrap (q : Int) = (q : Int) := by rw [IntKind.wrap_i64]; omega
        have hm40 : (m : Int) ≤ 40 := by have := HQ.out; omega
        have habU := HabV.out.tur hT (by simp; omega)
        have hpbU := HpbV.out.tur hT (by simp; omega)
        have hgU := HgV.out.tur hT (by simp; omega)
        have hmU := HmV.out.tur hT (by simp; omega)
        have hbU := HbV.out.tur hT (by simp; omega)
        have z3 : U.drew.cell? ⟨ab, 0, none⟩ = some (.int .i64 pos) := habU.cell 0
        have z4 : U.drew.cell? ⟨wc.heap.size + 2, 0, none⟩ = some (.int .i64 m) := hN.cell 0
        have z5 : U.drew.cell? ⟨w1.heap.size + 1, 0, none⟩ = some (.pointer (some ⟨w1.heap.size, 0, none⟩)) := hpbU.cell 0
        have z6 : U.drew.cell? ⟨w1.heap.size, 0, none⟩ = some (.slice Ar nr cr) := hgU.cell 0
        have z9 : U.drew.cell? ⟨w.heap.size, 0, none⟩ = some (.int .i64 most) := hmU.cell 0
        have HFINAL : Hid (∀ W, Below U.heap.size U W → W.cell? ⟨ab, 0, none⟩ = some (.int .i64 pos) ∧ W.cell? ⟨wc.heap.size + 2, 0, none⟩ = some (.int .i64 m) ∧ W.cell? ⟨w1.heap.size + 1, 0, none⟩ = some (.pointer (some ⟨w1.heap.size, 0, none⟩)) ∧ W.cell? ⟨w1.heap.size, 0, none⟩ = some (.slice Ar nr cr) ∧ W.cell? ⟨w.heap.size, 0, none⟩ = some (.int .i64 most)) := fun W hb =>
          ⟨(habU.below hb habU.lt).cell 0, (hN.below hb hN.lt).cell 0, (hpbU.below hb hpbU.lt).cell 0, (hgU.below hb hgU.lt).cell 0, (hmU.below hb hmU.lt).cell 0⟩
        have HFIN2 : Hid (∀ W u, Below U.heap.size U W → W.cell? ⟨w.heap.size + 1, 0, none⟩ = some (.bool false) ∧ W.frozen? ⟨w.heap.size + 1, 0, none⟩ = false ∧ (W.setCell ⟨w.heap.size + 1, 0, none⟩ u).cell? ⟨w.heap.size + 1, 0, none⟩ = some u ∧ (W.setCell ⟨w.heap.size + 1, 0, none⟩ u).cell? ⟨ab, 0, none⟩ = some (.int .i64 pos) ∧ (W.setCell ⟨w.heap.size + 1, 0, none⟩ u).cell? ⟨wc.heap.size + 2, 0, none⟩ = some (.int .i64 m) ∧ (W.setCell ⟨w.heap.size + 1, 0, none⟩ u).cell? ⟨w1.heap.size + 1, 0, none⟩ = some (.pointer (some ⟨w1.heap.size, 0, none⟩)) ∧ (W.setCell ⟨w.heap.size + 1, 0, none⟩ u).cell? ⟨w1.heap.size, 0, none⟩ = some (.slice Ar nr cr) ∧ (W.setCell ⟨w.heap.size + 1, 0, none⟩ u).cell? ⟨w.heap.size, 0, none⟩ = some (.int .i64 most) ∧ (W.setCell ⟨w.heap.size + 1, 0, none⟩ u).heap[D]? = some (.deferred (some [])) ∧ Below w.heap.size w ((W.setCell ⟨w.heap.size + 1, 0, none⟩ u).putObj D (.deferred none))) := fun W u hb => by
          have t9 : Tur [w.heap.size + 1] W (W.setCell ⟨w.heap.size + 1, 0, none⟩ u) := Tur.setCell W (p := ⟨w.heap.size + 1, 0, none⟩) (by simp) u
          have hbW := hbU.below hb hbU.lt
          have hDl : D < U.heap.size := lt_of_some hDd
          have hD9 : (W.setCell ⟨w.heap.size + 1, 0, none⟩ u).heap[D]? = some (.deferred (some [])) := (t9.block D (by have := hb.size; omega) (by simp; omega)).trans ((hb.block D hDl).trans hDd)
          have hBU : Below w.heap.size w U := HBW.out.trans ((HIV.out.mono (by omega)).trans (hT.below (by intro b hb; rw [List.mem_singleton.1 hb]; omega) (by omega)))
          have hBW : Below w.heap.size w W := hBU.trans (hb.mono hBU.size)
          refine ⟨hbW.cell 0, hbW.free 0, (hbW.put 0 u).cell 0, ((habU.below hb habU.lt).tur t9 (by simp; omega)).cell 0, ((hN.below hb hN.lt).tur t9 (by simp; omega)).cell 0, ((hpbU.below hb hpbU.lt).tur t9 (by simp; omega)).cell 0, ((hgU.below hb hgU.lt).tur t9 (by simp; omega)).cell 0, ((hmU.below hb hmU.lt).tur t9 (by simp)).cell 0, hD9, ?_⟩
          have b9 := hBW.trans (t9.below (by intro b hb; rw [List.mem_singleton.1 hb]; omega) hBW.size)
          exact b9.trans ((Tur.putObj (X := [D]) (W.setCell ⟨w.heap.size + 1, 0, none⟩ u) (by simp) (.deferred none)).below (by intro b hb; rw [List.mem_singleton.1 hb]; omega) b9.size)
        clear habU hpbU hgU hmU hbU
        have hqe : q = nr := by
          have := HQ.out
          have h2 := HMm.out
          rw [hpE, hxd] at h2
          omega
        subst hqe
        have hnn : (q == q) = true := beq_self_eq_true _
        have hnn2 : ((q : Int) == (q : Int)) = true := beq_self_eq_true _
        clear hpE hxl hxd hqn
        go_wp2_with fail
        refine wp_region_held_drew (S := fun G => G.cell? ⟨ab, 0, none⟩ = some (.int .i64 pos) ∧ G.cell? ⟨wc.heap.size + 2, 0, none⟩ = some (.int .i64 m) ∧ G.cell? ⟨w1.heap.size + 1, 0, none⟩ = some (.pointer (some ⟨w1.heap.size, 0, none⟩)) ∧ G.cell? ⟨w1.heap.size, 0, none⟩ = some (.slice Ar q cr) ∧ G.cell? ⟨w.heap.size, 0, none⟩ = some (.int .i64 most)) (by kernel_rfl) (by exact ⟨z3, z4, z5, z6, z9⟩) (fun _ => ?_)
        (refine wpAnyH_take (i := 0) (v := ?_) rfl (by kernel_rfl) (by kernel_rfl) (by kernel_rfl) (fun _ _ _ h => h) (Or.inl ⟨by rfl, ?_⟩) (by assumption) ?_; rotate_left; (intro w hSw; (try dsimp only at hSw); go_simp; try with_reducible rfl); ((try simp only [List.getElem_toArray]); (try simp only [List.getElem_cons_succ]); (try simp only [List.getElem_cons_zero]); (try simp only [Act.put]); (try simp only [List.setIfInBounds_toArray]); (try simp only [List.set_cons_succ]); (try simp only [List.set_cons_zero])))
        (refine wpAnyH_take (i := 1) (v := ?_) rfl (by kernel_rfl) (by kernel_rfl) (by kernel_rfl) (fun _ _ _ h => h) (Or.inl ⟨by rfl, ?_⟩) (by assumption) ?_; rotate_left; (intro w hSw; (try dsimp only at hSw); go_simp; try with_reducible rfl); ((try simp only [List.getElem_toArray]); (try simp only [List.getElem_cons_succ]); (try simp only [List.getElem_cons_zero]); (try simp only [Act.put]); (try simp only [List.setIfInBounds_toArray]); (try simp only [List.set_cons_succ]); (try simp only [List.set_cons_zero])))
        (refine wpAnyH_take (i := 2) (v := ?_) rfl (by kernel_rfl) (by kernel_rfl) (by kernel_rfl) (fun _ _ _ h => h) (Or.inl ⟨by rfl, ?_⟩) (by assumption) ?_; rotate_left; (intro w hSw; (try dsimp only at hSw); go_simp; try with_reducible rfl); ((try simp only [List.getElem_toArray]); (try simp only [List.getElem_cons_succ]); (try simp only [List.getElem_cons_zero]); (try simp only [Act.put]); (try simp only [List.setIfInBounds_toArray]); (try simp only [List.set_cons_succ]); (try simp only [List.set_cons_zero])))
        (refine wpAnyH_take (i := 3) (v := ?_) rfl (by kernel_rfl) (by kernel_rfl) (by kernel_rfl) (fun _ _ _ h => h) (Or.inl ⟨by rfl, ?_⟩) (by assumption) ?_; rotate_left; (intro w hSw; (try dsimp only at hSw); go_simp; try with_reducible rfl); ((try simp only [List.getElem_toArray]); (try simp only [List.getElem_cons_succ]); (try simp only [List.getElem_cons_zero]); (try simp only [Act.put]); (try simp only [List.setIfInBounds_toArray]); (try simp only [List.set_cons_succ]); (try simp only [List.set_cons_zero])))
        (refine wpAnyH_take (i := 4) (v := ?_) rfl (by kernel_rfl) (by kernel_rfl) (by kernel_rfl) (fun _ _ _ h => h) (Or.inl ⟨by rfl, ?_⟩) (by assumption) ?_; rotate_left; (intro w hSw; (try dsimp only at hSw); go_simp; try with_reducible rfl); ((try simp only [List.getElem_toArray]); (try simp only [List.getElem_cons_succ]); (try simp only [List.getElem_cons_zero]); (try simp only [Act.put]); (try simp only [List.setIfInBounds_toArray]); (try simp only [List.set_cons_succ]); (try simp only [List.set_cons_zero])))
        (refine wpAnyH_take (i := 5) (v := ?_) rfl (by kernel_rfl) (by kernel_rfl) (by kernel_rfl) (fun _ _ _ h => h) (Or.inl ⟨by rfl, ?_⟩) (by assumption) ?_; rotate_left; (intro w hSw; (try dsimp only at hSw); go_simp; try with_reducible rfl); ((try simp only [List.getElem_toArray]); (try simp only [List.getElem_cons_succ]); (try simp only [List.getElem_cons_zero]); (try simp only [Act.put]); (try simp only [List.setIfInBounds_toArray]); (try simp only [List.set_cons_succ]); (try simp only [List.set_cons_zero])))
        (refine wpAnyH_take (i := 6) (v := ?_) rfl (by kernel_rfl) (by kernel_rfl) (by kernel_rfl) (fun _ _ _ h => h) (Or.inl ⟨by rfl, ?_⟩) (by assumption) ?_; rotate_left; (intro w hSw; (try dsimp only at hSw); go_simp; try with_reducible rfl); ((try simp only [List.getElem_toArray]); (try simp only [List.getElem_cons_succ]); (try simp only [List.getElem_cons_zero]); (try simp only [Act.put]); (try simp only [List.setIfInBounds_toArray]); (try simp only [List.set_cons_succ]); (try simp only [List.set_cons_zero])))
        (refine wpAnyH_take (i := 7) (v := ?_) rfl (by kernel_rfl) (by kernel_rfl) (by kernel_rfl) (fun _ _ _ h => h) (Or.inl ⟨by rfl, ?_⟩) (by assumption) ?_; rotate_left; (intro w hSw; (try dsimp only at hSw); go_simp; try with_reducible rfl); ((try simp only [List.getElem_toArray]); (try simp only [List.getElem_cons_succ]); (try simp only [List.getElem_cons_zero]); (try simp only [Act.put]); (try simp only [List.setIfInBounds_toArray]); (try simp only [List.set_cons_succ]); (try simp only [List.set_cons_zero])))
        (refine wpAnyH_take (i := 8) (v := ?_) rfl (by kernel_rfl) (by kernel_rfl) (by kernel_rfl) (fun _ _ _ h => h) (Or.inl ⟨by rfl, ?_⟩) (by assumption) ?_; rotate_left; (intro w hSw; (try dsimp only at hSw); go_simp; try with_reducible rfl); ((try simp only [List.getElem_toArray]); (try simp only [List.getElem_cons_succ]); (try simp only [List.getElem_cons_zero]); (try simp only [Act.put]); (try simp only [List.setIfInBounds_toArray]); (try simp only [List.set_cons_succ]); (try simp only [List.set_cons_zero])))
        (refine wpAnyH_take (i := 9) (v := ?_) rfl (by kernel_rfl) (by kernel_rfl) (by kernel_rfl) (fun _ _ _ h => h) (Or.inl ⟨by rfl, ?_⟩) (by assumption) ?_; rotate_left; (intro w hSw; (try dsimp only at hSw); go_simp; try with_reducible rfl); ((try simp only [List.getElem_toArray]); (try simp only [List.getElem_cons_succ]); (try simp only [List.getElem_cons_zero]); (try simp only [Act.put]); (try simp only [List.setIfInBounds_toArray]); (try simp only [List.set_cons_succ]); (try simp only [List.set_cons_zero])))
        (refine wpAnyH_take (i := 10) (v := undef) rfl (by kernel_rfl) (by kernel_rfl) (by kernel_rfl) (fun _ _ _ h => h) (Or.inr ⟨by rfl, rfl⟩) (by assumption) ?_; ((try simp only [List.getElem_toArray]); (try simp only [List.getElem_cons_succ]); (try simp only [List.getElem_cons_zero]); (try simp only [Act.put]); (try simp only [List.setIfInBounds_toArray]); (try simp only [List.set_cons_succ]); (try simp only [List.set_cons_zero])))
        (refine wpAnyH_take (i := 11) (v := undef) rfl (by kernel_rfl) (by kernel_rfl) (by kernel_rfl) (fun _ _ _ h => h) (Or.inr ⟨by rfl, rfl⟩) (by assumption) ?_; ((try simp only [List.getElem_toArray]); (try simp only [List.getElem_cons_succ]); (try simp only [List.getElem_cons_zero]); (try simp only [Act.put]); (try simp only [List.setIfInBounds_toArray]); (try simp only [List.set_cons_succ]); (try simp only [List.set_cons_zero])))
        (refine wpAnyH_take (i := 12) (v := undef) rfl (by kernel_rfl) (by kernel_rfl) (by kernel_rfl) (fun _ _ _ h => h) (Or.inr ⟨by rfl, rfl⟩) (by assumption) ?_; ((try simp only [List.getElem_toArray]); (try simp only [List.getElem_cons_succ]); (try simp only [List.getElem_cons_zero]); (try simp only [Act.put]); (try simp only [List.setIfInBounds_toArray]); (try simp only [List.set_cons_succ]); (try simp only [List.set_cons_zero])))
        (refine wpAnyH_take (i := 13) (v := ?_) rfl (by kernel_rfl) (by kernel_rfl) (by kernel_rfl) (fun _ _ _ h => h) (Or.inl ⟨by rfl, ?_⟩) (by assumption) ?_; rotate_left; (intro w hSw; (try dsimp only at hSw); go_simp; try with_reducible rfl); ((try simp only [List.getElem_toArray]); (try simp only [List.getElem_cons_succ]); (try simp only [List.getElem_cons_zero]); (try simp only [Act.put]); (try simp only [List.setIfInBounds_toArray]); (try simp only [List.set_cons_succ]); (try simp only [List.set_cons_zero])))
        (refine wpAnyH_take (i := 14) (v := ?_) rfl (by kernel_rfl) (by kernel_rfl) (by kernel_rfl) (fun _ _ _ h => h) (Or.inl ⟨by rfl, ?_⟩) (by assumption) ?_; rotate_left; (intro w hSw; (try dsimp only at hSw); go_simp; try with_reducible rfl); ((try simp only [List.getElem_toArray]); (try simp only [List.getElem_cons_succ]); (try simp only [List.getElem_cons_zero]); (try simp only [Act.put]); (try simp only [List.setIfInBounds_toArray]); (try simp only [List.set_cons_succ]); (try simp only [List.set_cons_zero])))
        refine wpAnyH_ready (rs := [15]) (by kernel_rfl) (by simp) ?_
        refine AllReadyH.cons rfl (fun K2 hK2 => ?_) AllReadyH.nil
        go_simp
        refine (lives_any U.drew).mono ?_
        rintro e w7 ⟨rfl, b7⟩
        have hb7 : Below U.heap.size U w7 := (Below.refl _ U).drew.trans b7
        have HS7 := HFINAL.out w7 hb7
        obtain ⟨y1, y2, y3, y4, y5, y6, y7, y8, yD, yB⟩ := HFIN2.out w7 (.bool true) hb7
        have YB := Lib.hid yB
        have YD := Lib.hid yD
        clear b7 hb7 yB yD
        go_wp2_with fail
        refine hK2.out _ _ (by exact HS7) (fun hq => ?_)
        clear hK2 K2
        ((try simp only [List.getElem_toArray]); (try simp only [List.getElem_cons_succ]); (try simp only [List.getElem_cons_zero]); (try simp only [Act.put]); (try simp only [List.setIfInBounds_toArray]); (try simp only [List.set_cons_succ]); (try simp only [List.set_cons_zero]))
        (refine wpAnyH_take (i := 16) (v := ?_) rfl (by kernel_rfl) (by kernel_rfl) (by kernel_rfl) (fun _ _ _ h => h) (Or.inl ⟨by rfl, ?_⟩) (by assumption) ?_; rotate_left; (intro w hSw; (try dsimp only at hSw); go_simp; try with_reducible rfl); ((try simp only [List.getElem_toArray]); (try simp only [List.getElem_cons_succ]); (try simp only [List.getElem_cons_zero]); (try simp only [Act.put]); (try simp only [List.setIfInBounds_toArray]); (try simp only [List.set_cons_succ]); (try simp only [List.set_cons_zero])))
        refine wpAnyH_ready (rs := [17]) (by kernel_rfl) (by simp) ?_
        refine AllReadyH.cons rfl (fun K2 hK2 => ?_) AllReadyH.nil
        go_simp
        refine hK2.out _ _ (by exact ⟨y4, y5, y6, y7, y8⟩) (fun hq => ?_)
        clear hK2 K2
        ((try simp only [List.getElem_toArray]); (try simp only [List.getElem_cons_succ]); (try simp only [List.getElem_cons_zero]); (try simp only [Act.put]); (try simp only [List.setIfInBounds_toArray]); (try simp only [List.set_cons_succ]); (try simp only [List.set_cons_zero]))
        refine wpAnyH_done (by kernel_rfl) ?_ _
        go_wp2_with fail
        refine ⟨by simp, .inl ⟨_, _, rfl, run_takeDeferred YD.out, ?_⟩⟩
        have yc : ((w7.setCell ⟨w.heap.size + 1, 0, none⟩ (.bool true)).putObj D (.deferred none)).cell? ⟨w.heap.size + 1, 0, none⟩ = some (.bool true) := (cell_same ((Tur.putObj (X := [D]) (w7.setCell ⟨w.heap.size + 1, 0, none⟩ (.bool true)) (by simp) (.deferred none)).block (w.heap.size + 1) (World.block_lt_of_cell? _ _ y3) (by simp; omega))).trans y3
        exact ⟨_, result_cell1 rfl _ _ _ _ rfl yc, rfl, YB.out⟩
      case stop =>
        rintro D c p Y U hD ⟨rfl, rfl, hT, hN, hpm, hpre⟩ hDY hDd
        have hpl := posL_le fk T.con
        rw [← HPOS.out, HNR.out] at hpl
        have hxl : p.length ≤ (T.from fk).length := hpre.length_le
        have hxd : (T.from fk).length = nr - pos := by
          have := congrArg List.length HXS.out
          rw [List.length_map, List.length_drop, HNR.out] at this
          exact this
        obtain ⟨m, HMm⟩ : ∃ m, Hid (m = p.length) := ⟨_, rfl⟩
        obtain ⟨q, HQ⟩ : ∃ q, Hid (q = pos + m) := ⟨_, rfl⟩
        rw [← HMm.out] at hN hpm hxl
        have hqn : q ≤ nr := by have := HQ.out; omega
        have hqI : (pos : Int) + (m : Int) = (q : Int) := by have := HQ.out; omega
        have hwq : IntKind.i64.wrap (q : Int) = (q : Int) := by rw [IntKind.wrap_i64]; omega
        have hm40 : (m : Int) ≤ 40 := by have := HQ.out; omega
        have habU := HabV.out.tur hT (by simp; omega)
        have hpbU := HpbV.out.tur hT (by simp; omega)
        have hgU := HgV.out.tur hT (by simp; omega)
        have hmU := HmV.out.tur hT (by simp; omega)
        have hbU := HbV.out.tur hT (by simp; omega)
        have z3 : U.drew.cell? ⟨ab, 0, none⟩ = some (.int .i64 pos) := habU.cell 0
        have z4 : U.drew.cell? ⟨wc.heap.size + 2, 0, none⟩ = some (.int .i64 m) := hN.cell 0
        have z5 : U.drew.cell? ⟨w1.heap.size + 1, 0, none⟩ = some (.pointer (some ⟨w1.heap.size, 0, none⟩)) := hpbU.cell 0
        have z6 : U.drew.cell? ⟨w1.heap.size, 0, none⟩ = some (.slice Ar nr cr) := hgU.cell 0
        have z9 : U.drew.cell? ⟨w.heap.size, 0, none⟩ = some (.int .i64 most) := hmU.cell 0
        have HFINAL : Hid (∀ W, Below U.heap.size U W → W.cell? ⟨ab, 0, none⟩ = some (.int .i64 pos) ∧ W.cell? ⟨wc.heap.size + 2, 0, none⟩ = some (.int .i64 m) ∧ W.cell? ⟨w1.heap.size + 1, 0, none⟩ = some (.pointer (some ⟨w1.heap.size, 0, none⟩)) ∧ W.cell? ⟨w1.heap.size, 0, none⟩ = some (.slice Ar nr cr) ∧ W.cell? ⟨w.heap.size, 0, none⟩ = some (.int .i64 most)) := fun W hb =>
          ⟨(habU.below hb habU.lt).cell 0, (hN.below hb hN.lt).cell 0, (hpbU.below hb hpbU.lt).cell 0, (hgU.below hb hgU.lt).cell 0, (hmU.below hb hmU.lt).cell 0⟩
        have HFIN2 : Hid (∀ W u, Below U.heap.size U W → W.cell? ⟨w.heap.size + 1, 0, none⟩ = some (.bool false) ∧ W.frozen? ⟨w.heap.size + 1, 0, none⟩ = false ∧ (W.setCell ⟨w.heap.size + 1, 0, none⟩ u).cell? ⟨w.heap.size + 1, 0, none⟩ = some u ∧ (W.setCell ⟨w.heap.size + 1, 0, none⟩ u).cell? ⟨ab, 0, none⟩ = some (.int .i64 pos) ∧ (W.setCell ⟨w.heap.size + 1, 0, none⟩ u).cell? ⟨wc.heap.size + 2, 0, none⟩ = some (.int .i64 m) ∧ (W.setCell ⟨w.heap.size + 1, 0, none⟩ u).cell? ⟨w1.heap.size + 1, 0, none⟩ = some (.pointer (some ⟨w1.heap.size, 0, none⟩)) ∧ (W.setCell ⟨w.heap.size + 1, 0, none⟩ u).cell? ⟨w1.heap.size, 0, none⟩ = some (.slice Ar nr cr) ∧ (W.setCell ⟨w.heap.size + 1, 0, none⟩ u).cell? ⟨w.heap.size, 0, none⟩ = some (.int .i64 most) ∧ (W.setCell ⟨w.heap.size + 1, 0, none⟩ u).heap[D]? = some (.deferred (some [])) ∧ Below w.heap.size w ((W.setCell ⟨w.heap.size + 1, 0, none⟩ u).putObj D (.deferred none))) := fun W u hb => by
          have t9 : Tur [w.heap.size + 1] W (W.setCell ⟨w.heap.size + 1, 0, none⟩ u) := Tur.setCell W (p := ⟨w.heap.size + 1, 0, none⟩) (by simp) u
          have hbW := hbU.below hb hbU.lt
          have hDl : D < U.heap.size := lt_of_some hDd
          have hD9 : (W.setCell ⟨w.heap.size + 1, 0, none⟩ u).heap[D]? = some (.deferred (some [])) := (t9.block D (by have := hb.size; omega) (by simp; omega)).trans ((hb.block D hDl).trans hDd)
          have hBU : Below w.heap.size w U := HBW.out.trans ((HIV.out.mono (by omega)).trans (hT.below (by intro b hb; rw [List.mem_singleton.1 hb]; omega) (by omega)))
          have hBW : Below w.heap.size w W := hBU.trans (hb.mono hBU.size)
          refine ⟨hbW.cell 0, hbW.free 0, (hbW.put 0 u).cell 0, ((habU.below hb habU.lt).tur t9 (by simp; omega)).cell 0, ((hN.below hb hN.lt).tur t9 (by simp; omega)).cell 0, ((hpbU.below hb hpbU.lt).tur t9 (by simp; omega)).cell 0, ((hgU.below hb hgU.lt).tur t9 (by simp; omega)).cell 0, ((hmU.below hb hmU.lt).tur t9 (by simp)).cell 0, hD9, ?_⟩
          have b9 := hBW.trans (t9.below (by intro b hb; rw [List.mem_singleton.1 hb]; omega) hBW.size)
          exact b9.trans ((Tur.putObj (X := [D]) (W.setCell ⟨w.heap.size + 1, 0, none⟩ u) (by simp) (.deferred none)).below (by intro b hb; rw [List.mem_singleton.1 hb]; omega) b9.size)
        clear habU hpbU hgU hmU hbU
        refine wpIn_wide.2 ?_
        have hmm : ((m : Int) == most) = true := by rw [hpm]; simp
        have HPM := Lib.hid hpm
        clear hpm hpre hxl hxd
        by_cases hqe : q = nr
        · subst hqe
          have hnn : (q == q) = true := beq_self_eq_true _
          have hnn2 : ((q : Int) == (q : Int)) = true := beq_self_eq_true _
          go_wp2_with fail
          refine wp_region_held_drew (S := fun G => G.cell? ⟨ab, 0, none⟩ = some (.int .i64 pos) ∧ G.cell? ⟨wc.heap.size + 2, 0, none⟩ = some (.int .i64 m) ∧ G.cell? ⟨w1.heap.size + 1, 0, none⟩ = some (.pointer (some ⟨w1.heap.size, 0, none⟩)) ∧ G.cell? ⟨w1.heap.size, 0, none⟩ = some (.slice Ar q cr) ∧ G.cell? ⟨w.heap.size, 0, none⟩ = some (.int .i64 most)) (by kernel_rfl) (by exact ⟨z3, z4, z5, z6, z9⟩) (fun _ => ?_)
          (refine wpAnyH_take (i := 0) (v := ?_) rfl (by kernel_rfl) (by kernel_rfl) (by kernel_rfl) (fun _ _ _ h => h) (Or.inl ⟨by rfl, ?_⟩) (by assumption) ?_; rotate_left; (intro w hSw; (try dsimp only at hSw); go_simp; try with_reducible rfl); ((try simp only [List.getElem_toArray]); (try simp only [List.getElem_cons_succ]); (try simp only [List.getElem_cons_zero]); (try simp only [Act.put]); (try simp only [List.setIfInBounds_toArray]); (try simp only [List.set_cons_succ]); (try simp only [List.set_cons_zero])))
          (refine wpAnyH_take (i := 1) (v := ?_) rfl (by kernel_rfl) (by kernel_rfl) (by kernel_rfl) (fun _ _ _ h => h) (Or.inl ⟨by rfl, ?_⟩) (by assumption) ?_; rotate_left; (intro w hSw; (try dsimp only at hSw); go_simp; try with_reducible rfl); ((try simp only [List.getElem_toArray]); (try simp only [List.getElem_cons_succ]); (try simp only [List.getElem_cons_zero]); (try simp only [Act.put]); (try simp only [List.setIfInBounds_toArray]); (try simp only [List.set_cons_succ]); (try simp only [List.set_cons_zero])))
          (refine wpAnyH_take (i := 2) (v := ?_) rfl (by kernel_rfl) (by kernel_rfl) (by kernel_rfl) (fun _ _ _ h => h) (Or.inl ⟨by rfl, ?_⟩) (by assumption) ?_; rotate_left; (intro w hSw; (try dsimp only at hSw); go_simp; try with_reducible rfl); ((try simp only [List.getElem_toArray]); (try simp only [List.getElem_cons_succ]); (try simp only [List.getElem_cons_zero]); (try simp only [Act.put]); (try simp only [List.setIfInBounds_toArray]); (try simp only [List.set_cons_succ]); (try simp only [List.set_cons_zero])))
          (refine wpAnyH_take (i := 3) (v := ?_) rfl (by kernel_rfl) (by kernel_rfl) (by kernel_rfl) (fun _ _ _ h => h) (Or.inl ⟨by rfl, ?_⟩) (by assumption) ?_; rotate_left; (intro w hSw; (try dsimp only at hSw); go_simp; try with_reducible rfl); ((try simp only [List.getElem_toArray]); (try simp only [List.getElem_cons_succ]); (try simp only [List.getElem_cons_zero]); (try simp only [Act.put]); (try simp only [List.setIfInBounds_toArray]); (try simp only [List.set_cons_succ]); (try simp only [List.set_cons_zero])))
          (refine wpAnyH_take (i := 4) (v := ?_) rfl (by kernel_rfl) (by kernel_rfl) (by kernel_rfl) (fun _ _ _ h => h) (Or.inl ⟨by rfl, ?_⟩) (by assumption) ?_; rotate_left; (intro w hSw; (try dsimp only at hSw); go_simp; try with_reducible rfl); ((try simp only [List.getElem_toArray]); (try simp only [List.getElem_cons_succ]); (try simp only [List.getElem_cons_zero]); (try simp only [Act.put]); (try simp only [List.setIfInBounds_toArray]); (try simp only [List.set_cons_succ]); (try simp only [List.set_cons_zero])))
          (refine wpAnyH_take (i := 5) (v := ?_) rfl (by kernel_rfl) (by kernel_rfl) (by kernel_rfl) (fun _ _ _ h => h) (Or.inl ⟨by rfl, ?_⟩) (by assumption) ?_; rotate_left; (intro w hSw; (try dsimp only at hSw); go_simp; try with_reducible rfl); ((try simp only [List.getElem_toArray]); (try simp only [List.getElem_cons_succ]); (try simp only [List.getElem_cons_zero]); (try simp only [Act.put]); (try simp only [List.setIfInBounds_toArray]); (try simp only [List.set_cons_succ]); (try simp only [List.set_cons_zero])))
          (refine wpAnyH_take (i := 6) (v := ?_) rfl (by kernel_rfl) (by kernel_rfl) (by kernel_rfl) (fun _ _ _ h => h) (Or.inl ⟨by rfl, ?_⟩) (by assumption) ?_; rotate_left; (intro w hSw; (try dsimp only at hSw); go_simp; try with_reducible rfl); ((try simp only [List.getElem_toArray]); (try simp only [List.getElem_cons_succ]); (try simp only [List.getElem_cons_zero]); (try simp only [Act.put]); (try simp only [List.setIfInBounds_toArray]); (try simp only [List.set_cons_succ]); (try simp only [List.set_cons_zero])))
          (refine wpAnyH_take (i := 7) (v := ?_) rfl (by kernel_rfl) (by kernel_rfl) (by kernel_rfl) (fun _ _ _ h => h) (Or.inl ⟨by rfl, ?_⟩) (by assumption) ?_; rotate_left; (intro w hSw; (try dsimp only at hSw); go_simp; try with_reducible rfl); ((try simp only [List.getElem_toArray]); (try simp only [List.getElem_cons_succ]); (try simp only [List.getElem_cons_zero]); (try simp only [Act.put]); (try simp only [List.setIfInBounds_toArray]); (try simp only [List.set_cons_succ]); (try simp only [List.set_cons_zero])))
          (refine wpAnyH_take (i := 8) (v := ?_) rfl (by kernel_rfl) (by kernel_rfl) (by kernel_rfl) (fun _ _ _ h => h) (Or.inl ⟨by rfl, ?_⟩) (by assumption) ?_; rotate_left; (intro w hSw; (try dsimp only at hSw); go_simp; try with_reducible rfl); ((try simp only [List.getElem_toArray]); (try simp only [List.getElem_cons_succ]); (try simp only [List.getElem_cons_zero]); (try simp only [Act.put]); (try simp only [List.setIfInBounds_toArray]); (try simp only [List.set_cons_succ]); (try simp only [List.set_cons_zero])))
          (refine wpAnyH_take (i := 9) (v := ?_) rfl (by kernel_rfl) (by kernel_rfl) (by kernel_rfl) (fun _ _ _ h => h) (Or.inl ⟨by rfl, ?_⟩) (by assumption) ?_; rotate_left; (intro w hSw; (try dsimp only at hSw); go_simp; try with_reducible rfl); ((try simp only [List.getElem_toArray]); (try simp only [List.getElem_cons_succ]); (try simp only [List.getElem_cons_zero]); (try simp only [Act.put]); (try simp only [List.setIfInBounds_toArray]); (try simp only [List.set_cons_succ]); (try simp only [List.set_cons_zero])))
          (refine wpAnyH_take (i := 10) (v := undef) rfl (by kernel_rfl) (by kernel_rfl) (by kernel_rfl) (fun _ _ _ h => h) (Or.inr ⟨by rfl, rfl⟩) (by assumption) ?_; ((try simp only [List.getElem_toArray]); (try simp only [List.getElem_cons_succ]); (try simp only [List.getElem_cons_zero]); (try simp only [Act.put]); (try simp only [List.setIfInBounds_toArray]); (try simp only [List.set_cons_succ]); (try simp only [List.set_cons_zero])))
          (refine wpAnyH_take (i := 11) (v := undef) rfl (by kernel_rfl) (by kernel_rfl) (by kernel_rfl) (fun _ _ _ h => h) (Or.inr ⟨by rfl, rfl⟩) (by assumption) ?_; ((try simp only [List.getElem_toArray]); (try simp only [List.getElem_cons_succ]); (try simp only [List.getElem_cons_zero]); (try simp only [Act.put]); (try simp only [List.setIfInBounds_toArray]); (try simp only [List.set_cons_succ]); (try simp only [List.set_cons_zero])))
          (refine wpAnyH_take (i := 12) (v := undef) rfl (by kernel_rfl) (by kernel_rfl) (by kernel_rfl) (fun _ _ _ h => h) (Or.inr ⟨by rfl, rfl⟩) (by assumption) ?_; ((try simp only [List.getElem_toArray]); (try simp only [List.getElem_cons_succ]); (try simp only [List.getElem_cons_zero]); (try simp only [Act.put]); (try simp only [List.setIfInBounds_toArray]); (try simp only [List.set_cons_succ]); (try simp only [List.set_cons_zero])))
          (refine wpAnyH_take (i := 13) (v := ?_) rfl (by kernel_rfl) (by kernel_rfl) (by kernel_rfl) (fun _ _ _ h => h) (Or.inl ⟨by rfl, ?_⟩) (by assumption) ?_; rotate_left; (intro w hSw; (try dsimp only at hSw); go_simp; try with_reducible rfl); ((try simp only [List.getElem_toArray]); (try simp only [List.getElem_cons_succ]); (try simp only [List.getElem_cons_zero]); (try simp only [Act.put]); (try simp only [List.setIfInBounds_toArray]); (try simp only [List.set_cons_succ]); (try simp only [List.set_cons_zero])))
          (refine wpAnyH_take (i := 14) (v := ?_) rfl (by kernel_rfl) (by kernel_rfl) (by kernel_rfl) (fun _ _ _ h => h) (Or.inl ⟨by rfl, ?_⟩) (by assumption) ?_; rotate_left; (intro w hSw; (try dsimp only at hSw); go_simp; try with_reducible rfl); ((try simp only [List.getElem_toArray]); (try simp only [List.getElem_cons_succ]); (try simp only [List.getElem_cons_zero]); (try simp only [Act.put]); (try simp only [List.setIfInBounds_toArray]); (try simp only [List.set_cons_succ]); (try simp only [List.set_cons_zero])))
          refine wpAnyH_ready (rs := [15]) (by kernel_rfl) (by simp) ?_
          refine AllReadyH.cons rfl (fun K2 hK2 => ?_) AllReadyH.nil
          go_simp
          refine (lives_any U.drew).mono ?_
          rintro e w7 ⟨rfl, b7⟩
          have hb7 : Below U.heap.size U w7 := (Below.refl _ U).drew.trans b7
          have HS7 := HFINAL.out w7 hb7
          obtain ⟨y1, y2, y3, y4, y5, y6, y7, y8, yD, yB⟩ := HFIN2.out w7 (.bool true) hb7
          have YB := Lib.hid yB
          have YD := Lib.hid yD
          clear b7 hb7 yB yD
          go_wp2_with fail
          refine hK2.out _ _ (by exact HS7) (fun hq => ?_)
          clear hK2 K2
          ((try simp only [List.getElem_toArray]); (try simp only [List.getElem_cons_succ]); (try simp only [List.getElem_cons_zero]); (try simp only [Act.put]); (try simp only [List.setIfInBounds_toArray]); (try simp only [List.set_cons_succ]); (try simp only [List.set_cons_zero]))
          (refine wpAnyH_take (i := 16) (v := ?_) rfl (by kernel_rfl) (by kernel_rfl) (by kernel_rfl) (fun _ _ _ h => h) (Or.inl ⟨by rfl, ?_⟩) (by assumption) ?_; rotate_left; (intro w hSw; (try dsimp only at hSw); go_simp; try with_reducible rfl); ((try simp only [List.getElem_toArray]); (try simp only [List.getElem_cons_succ]); (try simp only [List.getElem_cons_zero]); (try simp only [Act.put]); (try simp only [List.setIfInBounds_toArray]); (try simp only [List.set_cons_succ]); (try simp only [List.set_cons_zero])))
          refine wpAnyH_ready (rs := [17]) (by kernel_rfl) (by simp) ?_
          refine AllReadyH.cons rfl (fun K2 hK2 => ?_) AllReadyH.nil
          go_simp
          refine hK2.out _ _ (by exact ⟨y4, y5, y6, y7, y8⟩) (fun hq => ?_)
          clear hK2 K2
          ((try simp only [List.getElem_toArray]); (try simp only [List.getElem_cons_succ]); (try simp only [List.getElem_cons_zero]); (try simp only [Act.put]); (try simp only [List.setIfInBounds_toArray]); (try simp only [List.set_cons_succ]); (try simp only [List.set_cons_zero]))
          refine wpAnyH_done (by kernel_rfl) ?_ _
          go_wp2_with fail
          refine ⟨by simp, .inl ⟨_, _, rfl, run_takeDeferred YD.out, ?_⟩⟩
          have yc : ((w7.setCell ⟨w.heap.size + 1, 0, none⟩ (.bool true)).putObj D (.deferred none)).cell? ⟨w.heap.size + 1, 0, none⟩ = some (.bool true) := (cell_same ((Tur.putObj (X := [D]) (w7.setCell ⟨w.heap.size + 1, 0, none⟩ (.bool true)) (by simp) (.deferred none)).block (w.heap.size + 1) (World.block_lt_of_cell? _ _ y3) (by simp; omega))).trans y3
          exact ⟨_, result_cell1 rfl _ _ _ _ rfl yc, rfl, YB.out⟩
        · have hnn : (q == nr) = false := by simpa using hqe
          have hnn2 : ((q : Int) == (nr : Int)) = false := by simp; omega
          have hqne : ¬ q = nr := hqe
          go_wp2_with fail
          refine wp_region_held_drew (S := fun G => G.cell? ⟨ab, 0, none⟩ = some (.int .i64 pos) ∧ G.cell? ⟨wc.heap.size + 2, 0, none⟩ = some (.int .i64 m) ∧ G.cell? ⟨w1.heap.size + 1, 0, none⟩ = some (.pointer (some ⟨w1.heap.size, 0, none⟩)) ∧ G.cell? ⟨w1.heap.size, 0, none⟩ = some (.slice Ar nr cr) ∧ G.cell? ⟨w.heap.size, 0, none⟩ = some (.int .i64 most)) (by kernel_rfl) (by exact ⟨z3, z4, z5, z6, z9⟩) (fun _ => ?_)
          (refine wpAnyH_take (i := 0) (v := ?_) rfl (by kernel_rfl) (by kernel_rfl) (by kernel_rfl) (fun _ _ _ h => h) (Or.inl ⟨by rfl, ?_⟩) (by assumption) ?_; rotate_left; (intro w hSw; (try dsimp only at hSw); go_simp; try with_reducible rfl); ((try simp only [List.getElem_toArray]); (try simp only [List.getElem_cons_succ]); (try simp only [List.getElem_cons_zero]); (try simp only [Act.put]); (try simp only [List.setIfInBounds_toArray]); (try simp only [List.set_cons_succ]); (try simp only [List.set_cons_zero])))
          (refine wpAnyH_take (i := 1) (v := ?_) rfl (by kernel_rfl) (by kernel_rfl) (by kernel_rfl) (fun _ _ _ h => h) (Or.inl ⟨by rfl, ?_⟩) (by assumption) ?_; rotate_left; (intro w hSw; (try dsimp only at hSw); go_simp; try with_reducible rfl); ((try simp only [List.getElem_toArray]); (try simp only [List.getElem_cons_succ]); (try simp only [List.getElem_cons_zero]); (try simp only [Act.put]); (try simp only [List.setIfInBounds_toArray]); (try simp only [List.set_cons_succ]); (try simp only [List.set_cons_zero])))
          (refine wpAnyH_take (i := 2) (v := ?_) rfl (by kernel_rfl) (by kernel_rfl) (by kernel_rfl) (fun _ _ _ h => h) (Or.inl ⟨by rfl, ?_⟩) (by assumption) ?_; rotate_left; (intro w hSw; (try dsimp only at hSw); go_simp; try with_reducible rfl); ((try simp only [List.getElem_toArray]); (try simp only [List.getElem_cons_succ]); (try simp only [List.getElem_cons_zero]); (try simp only [Act.put]); (try simp only [List.setIfInBounds_toArray]); (try simp only [List.set_cons_succ]); (try simp only [List.set_cons_zero])))
          (refine wpAnyH_take (i := 3) (v := ?_) rfl (by kernel_rfl) (by kernel_rfl) (by kernel_rfl) (fun _ _ _ h => h) (Or.inl ⟨by rfl, ?_⟩) (by assumption) ?_; rotate_left; (intro w hSw; (try dsimp only at hSw); go_simp; try with_reducible rfl); ((try simp only [List.getElem_toArray]); (try simp only [List.getElem_cons_succ]); (try simp only [List.getElem_cons_zero]); (try simp only [Act.put]); (try simp only [List.setIfInBounds_toArray]); (try simp only [List.set_cons_succ]); (try simp only [List.set_cons_zero])))
          (refine wpAnyH_take (i := 4) (v := ?_) rfl (by kernel_rfl) (by kernel_rfl) (by kernel_rfl) (fun _ _ _ h => h) (Or.inl ⟨by rfl, ?_⟩) (by assumption) ?_; rotate_left; (intro w hSw; (try dsimp only at hSw); go_simp; try with_reducible rfl); ((try simp only [List.getElem_toArray]); (try simp only [List.getElem_cons_succ]); (try simp only [List.getElem_cons_zero]); (try simp only [Act.put]); (try simp only [List.setIfInBounds_toArray]); (try simp only [List.set_cons_succ]); (try simp only [List.set_cons_zero])))
          (refine wpAnyH_take (i := 5) (v := ?_) rfl (by kernel_rfl) (by kernel_rfl) (by kernel_rfl) (fun _ _ _ h => h) (Or.inl ⟨by rfl, ?_⟩) (by assumption) ?_; rotate_left; (intro w hSw; (try dsimp only at hSw); go_simp; try with_reducible rfl); ((try simp only [List.getElem_toArray]); (try simp only [List.getElem_cons_succ]); (try simp only [List.getElem_cons_zero]); (try simp only [Act.put]); (try simp only [List.setIfInBounds_toArray]); (try simp only [List.set_cons_succ]); (try simp only [List.set_cons_zero])))
          (refine wpAnyH_take (i := 6) (v := ?_) rfl (by kernel_rfl) (by kernel_rfl) (by kernel_rfl) (fun _ _ _ h => h) (Or.inl ⟨by rfl, ?_⟩) (by assumption) ?_; rotate_left; (intro w hSw; (try dsimp only at hSw); go_simp; try with_reducible rfl); ((try simp only [List.getElem_toArray]); (try simp only [List.getElem_cons_succ]); (try simp only [List.getElem_cons_zero]); (try simp only [Act.put]); (try simp only [List.setIfInBounds_toArray]); (try simp only [List.set_cons_succ]); (try simp only [List.set_cons_zero])))
          (refine wpAnyH_take (i := 7) (v := ?_) rfl (by kernel_rfl) (by kernel_rfl) (by kernel_rfl) (fun _ _ _ h => h) (Or.inl ⟨by rfl, ?_⟩) (by assumption) ?_; rotate_left; (intro w hSw; (try dsimp only at hSw); go_simp; try with_reducible rfl); ((try simp only [List.getElem_toArray]); (try simp only [List.getElem_cons_succ]); (try simp only [List.getElem_cons_zero]); (try simp only [Act.put]); (try simp only [List.setIfInBounds_toArray]); (try simp only [List.set_cons_succ]); (try simp only [List.set_cons_zero])))
          (refine wpAnyH_take (i := 8) (v := ?_) rfl (by kernel_rfl) (by kernel_rfl) (by kernel_rfl) (fun _ _ _ h => h) (Or.inl ⟨by rfl, ?_⟩) (by assumption) ?_; rotate_left; (intro w hSw; (try dsimp only at hSw); go_simp; try with_reducible rfl); ((try simp only [List.getElem_toArray]); (try simp only [List.getElem_cons_succ]); (try simp only [List.getElem_cons_zero]); (try simp only [Act.put]); (try simp only [List.setIfInBounds_toArray]); (try simp only [List.set_cons_succ]); (try simp only [List.set_cons_zero])))
          (refine wpAnyH_take (i := 9) (v := ?_) rfl (by kernel_rfl) (by kernel_rfl) (by kernel_rfl) (fun _ _ _ h => h) (Or.inl ⟨by rfl, ?_⟩) (by assumption) ?_; rotate_left; (intro w hSw; (try dsimp only at hSw); go_simp; try with_reducible rfl); ((try simp only [List.getElem_toArray]); (try simp only [List.getElem_cons_succ]); (try simp only [List.getElem_cons_zero]); (try simp only [Act.put]); (try simp only [List.setIfInBounds_toArray]); (try simp only [List.set_cons_succ]); (try simp only [List.set_cons_zero])))
          (refine wpAnyH_take (i := 10) (v := ?_) rfl (by kernel_rfl) (by kernel_rfl) (by kernel_rfl) (fun _ _ _ h => h) (Or.inl ⟨by rfl, ?_⟩) (by assumption) ?_; rotate_left; (intro w hSw; (try dsimp only at hSw); go_simp; try with_reducible rfl); ((try simp only [List.getElem_toArray]); (try simp only [List.getElem_cons_succ]); (try simp only [List.getElem_cons_zero]); (try simp only [Act.put]); (try simp only [List.setIfInBounds_toArray]); (try simp only [List.set_cons_succ]); (try simp only [List.set_cons_zero])))
          (refine wpAnyH_take (i := 11) (v := ?_) rfl (by kernel_rfl) (by kernel_rfl) (by kernel_rfl) (fun _ _ _ h => h) (Or.inl ⟨by rfl, ?_⟩) (by assumption) ?_; rotate_left; (intro w hSw; (try dsimp only at hSw); go_simp; try with_reducible rfl); ((try simp only [List.getElem_toArray]); (try simp only [List.getElem_cons_succ]); (try simp only [List.getElem_cons_zero]); (try simp only [Act.put]); (try simp only [List.setIfInBounds_toArray]); (try simp only [List.set_cons_succ]); (try simp only [List.set_cons_zero])))
          (refine wpAnyH_take (i := 12) (v := ?_) rfl (by kernel_rfl) (by kernel_rfl) (by kernel_rfl) (fun _ _ _ h => h) (Or.inl ⟨by rfl, ?_⟩) (by assumption) ?_; rotate_left; (intro w hSw; (try dsimp only at hSw); go_simp; try with_reducible rfl); ((try simp only [List.getElem_toArray]); (try simp only [List.getElem_cons_succ]); (try simp only [List.getElem_cons_zero]); (try simp only [Act.put]); (try simp only [List.setIfInBounds_toArray]); (try simp only [List.set_cons_succ]); (try simp only [List.set_cons_zero])))
          (refine wpAnyH_take (i := 13) (v := ?_) rfl (by kernel_rfl) (by kernel_rfl) (by kernel_rfl) (fun _ _ _ h => h) (Or.inl ⟨by rfl, ?_⟩) (by assumption) ?_; rotate_left; (intro w hSw; (try dsimp only at hSw); go_simp; try with_reducible rfl); ((try simp only [List.getElem_toArray]); (try simp only [List.getElem_cons_succ]); (try simp only [List.getElem_cons_zero]); (try simp only [Act.put]); (try simp only [List.setIfInBounds_toArray]); (try simp only [List.set_cons_succ]); (try simp only [List.set_cons_zero])))
          (refine wpAnyH_take (i := 14) (v := ?_) rfl (by kernel_rfl) (by kernel_rfl) (by kernel_rfl) (fun _ _ _ h => h) (Or.inl ⟨by rfl, ?_⟩) (by assumption) ?_; rotate_left; (intro w hSw; (try dsimp only at hSw); go_simp; try with_reducible rfl); ((try simp only [List.getElem_toArray]); (try simp only [List.getElem_cons_succ]); (try simp only [List.getElem_cons_zero]); (try simp only [Act.put]); (try simp only [List.setIfInBounds_toArray]); (try simp only [List.set_cons_succ]); (try simp only [List.set_cons_zero])))
          refine wpAnyH_ready (rs := [15]) (by kernel_rfl) (by simp) ?_
          refine AllReadyH.cons rfl (fun K2 hK2 => ?_) AllReadyH.nil
          go_simp
          refine (lives_any U.drew).mono ?_
          rintro e w7 ⟨rfl, b7⟩
          have hb7 : Below U.heap.size U w7 := (Below.refl _ U).drew.trans b7
          have HS7 := HFINAL.out w7 hb7
          obtain ⟨y1, y2, y3, y4, y5, y6, y7, y8, yD, yB⟩ := HFIN2.out w7 (.bool true) hb7
          have YB := Lib.hid yB
          have YD := Lib.hid yD
          clear b7 hb7 yB yD
          go_wp2_with fail
          refine hK2.out _ _ (by exact HS7) (fun hq => ?_)
          clear hK2 K2
          ((try simp only [List.getElem_toArray]); (try simp only [List.getElem_cons_succ]); (try simp only [List.getElem_cons_zero]); (try simp only [Act.put]); (try simp only [List.setIfInBounds_toArray]); (try simp only [List.set_cons_succ]); (try simp only [List.set_cons_zero]))
          (refine wpAnyH_take (i := 16) (v := ?_) rfl (by kernel_rfl) (by kernel_rfl) (by kernel_rfl) (fun _ _ _ h => h) (Or.inl ⟨by rfl, ?_⟩) (by assumption) ?_; rotate_left; (intro w hSw; (try dsimp only at hSw); go_simp; try with_reducible rfl); ((try simp only [List.getElem_toArray]); (try simp only [List.getElem_cons_succ]); (try simp only [List.getElem_cons_zero]); (try simp only [Act.put]); (try simp only [List.setIfInBounds_toArray]); (try simp only [List.set_cons_succ]); (try simp only [List.set_cons_zero])))
          refine wpAnyH_ready (rs := [17]) (by kernel_rfl) (by simp) ?_
          refine AllReadyH.cons rfl (fun K2 hK2 => ?_) AllReadyH.nil
          go_simp
          refine hK2.out _ _ (by exact ⟨y4, y5, y6, y7, y8⟩) (fun hq => ?_)
          clear hK2 K2
          ((try simp only [List.getElem_toArray]); (try simp only [List.getElem_cons_succ]); (try simp only [List.getElem_cons_zero]); (try simp only [Act.put]); (try simp only [List.setIfInBounds_toArray]); (try simp only [List.set_cons_succ]); (try simp only [List.set_cons_zero]))
          refine wpAnyH_done (by kernel_rfl) ?_ _
          go_wp2_with fail
          refine ⟨by simp, .inl ⟨_, _, rfl, run_takeDeferred YD.out, ?_⟩⟩
          have yc : ((w7.setCell ⟨w.heap.size + 1, 0, none⟩ (.bool true)).putObj D (.deferred none)).cell? ⟨w.heap.size + 1, 0, none⟩ = some (.bool true) := (cell_same ((Tur.putObj (X := [D]) (w7.setCell ⟨w.heap.size + 1, 0, none⟩ (.bool true)) (by simp) (.deferred none)).block (w.heap.size + 1) (World.block_lt_of_cell? _ _ y3) (by simp; omega))).trans y3
          exact ⟨_, result_cell1 rfl _ _ _ _ rfl yc, rfl, YB.out⟩
end Go.Proofs.Ytmapclocbhkpbaa.treeFroms
