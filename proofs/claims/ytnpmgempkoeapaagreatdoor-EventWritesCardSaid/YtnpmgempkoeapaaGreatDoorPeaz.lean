/-
  Put together, as far as it is used: Qq.
-/
import Derived.Test.YtnpmgempkoeapaaGreatDoorPeaq
import Derived.Test.YtnpmgempkoeapaaGreatDoorPear
import Derived.Deep.CutRange
import Derived.Test.YtnpmgempkoeapaaGreatDoorPeas
import Derived.Test.YtnpmgempkoeapaaGreatDoorPeaf
import Derived.Test.YtnpmgempkoeapaaGreatDoorPeay
set_option linter.unusedVariables false
set_option linter.unusedSimpArgs false
set_option linter.defProp false
namespace Go.Proofs.YtnpmgempkoeapaaGreatDoor
open Go.RowKit Dg
set_option maxHeartbeats 2000000 in
set_option maxRecDepth 100000 in
theorem rzero_any (cn : ByteArray) (cq : Int) (cb : Bool) (w : World) :
 Calls Tryz.prog 66 #[.agg #[.string cn, .int .i64 cq, .bool cb]] w fun e w' => e = .returned (.bool (Cl.eqb ⟨cn, cq, cb⟩ ⟨⟨#[]⟩, 0, false⟩)) ∧ Hid (Below w.heap.size w w') := by
 have HB := Lib.hid ((Below.refl w.heap.size w).alloc (Nat.le_refl _) (.cells #[.string cn, .int .i64 cq, .bool cb] 29))
 have eq := eqC
 go_enter Tryz.func66, Tryz.ntmps66
 go_wp2_with fail
 go_ret
 exact ⟨rfl, HB⟩
def altF (ck : Int) (ct : ByteArray) (L : List Cl) (K : Int) (q : Cl) : Int :=
 if ck = 1 then (if (nameF ct && smayF L K && q.eqb ⟨⟨#[]⟩, 0, false⟩) = true then 0 else 1)
 else if ck = 2 then (if (nameF ct && (K == 0 && L.length == 0) && q.eqb ⟨⟨#[]⟩, 0, false⟩) = true then 0 else 1)
 else if ck = 3 ∨ ck = 5 then (if (nameF ct && (K == 0 && L.length == 0) && nameF q.nm && kindF q.k) = true then 0 else 1)
 else if ck = 4 then (if (nameF ct && (K == 0 && L.length == 0) && nameF q.nm && q.k == 0 && !q.no) = true then 0 else 1)
 else 5
set_option maxHeartbeats 8000000 in
set_option maxRecDepth 100000 in
theorem raltered_any (ck : Int) (ct : ByteArray) (A : Option Addr) (n c : Nat) (L : List Cl) (K : Int) (cn : ByteArray) (cq : Int) (cb : Bool) (w : World) (hn : L.length = n) (hnI : (n : Int) ≤ 9223372036854775807) (hA : CRow w A L) :
 Calls Tryz.prog 33 #[.agg #[.int .i64 ck, .string ct, .slice A n c, .int .i64 K, .string cn, .int .i64 cq, .bool cb]] w fun e w' => e = .returned (.int .i64 (altF ck ct L K ⟨cn, cq, cb⟩)) ∧ Hid (Below w.heap.size w w') := by
 have hb0 := (Below.refl w.heap.size w).alloc (Nat.le_refl _) (.cells #[.int .i64 ck, .string ct, .slice A n c, .int .i64 K, .string cn, .int .i64 cq, .bool cb] 31)
 have HB := Lib.hid hb0
 have HX := Lib.hid (Has.new w 31 #[.int .i64 ck, .string ct, .slice A n c, .int .i64 K, .string cn, .int .i64 cq, .bool cb])
 have HA := Lib.hid hA
 have HN := Lib.hid hn
 clear hb0 hA hn
 obtain ⟨b1, HB1⟩ : ∃ b, Hid (nameF ct = b) := ⟨_, rfl⟩
 obtain ⟨b2, HB2⟩ : ∃ b, Hid (nameF cn = b) := ⟨_, rfl⟩
 obtain ⟨b3, HB3⟩ : ∃ b, Hid (kindF cq = b) := ⟨_, rfl⟩
 obtain ⟨b4, HB4⟩ : ∃ b, Hid ((K == 0 && L.length == 0) = b) := ⟨_, rfl⟩
 obtain ⟨b5, HB5⟩ : ∃ b, Hid (Cl.eqb ⟨cn, cq, cb⟩ ⟨⟨#[]⟩, 0, false⟩ = b) := ⟨_, rfl⟩
 obtain ⟨b6, HB6⟩ : ∃ b, Hid (smayF L K = b) := ⟨_, rfl⟩
 go_enter Tryz.func33, Tryz.ntmps33
 go_wp2_with fail
 refine (refName_any ct _).mono ?_
 rintro e w1 ⟨rfl, rfl⟩
 rw [HB1.out]
 go_wp2_with fail
 refine (refName_any cn _).mono ?_
 rintro e w1 ⟨rfl, rfl⟩
 rw [HB2.out]
 obtain ⟨w1, HW1⟩ : ∃ w1, Hid (w1 = w.alloc (.cells #[.int .i64 ck, .string ct, .slice A n c, .int .i64 K, .string cn, .int .i64 cq, .bool cb] 31)) := ⟨_, rfl⟩
 rw [← HW1.out] at HX HB ⊢
 have x0 : w1.cell? ⟨w.heap.size, 0, none⟩ = some (.int .i64 ck) := HX.out.cell 0
 have x2 : w1.cell? ⟨w.heap.size, 2, none⟩ = some (.slice A n c) := HX.out.cell 2
 have x3 : w1.cell? ⟨w.heap.size, 3, none⟩ = some (.int .i64 K) := HX.out.cell 3
 have x4 : w1.cell? ⟨w.heap.size, 4, none⟩ = some (.string cn) := HX.out.cell 4
 have x5 : w1.cell? ⟨w.heap.size, 5, none⟩ = some (.int .i64 cq) := HX.out.cell 5
 have x6 : w1.cell? ⟨w.heap.size, 6, none⟩ = some (.bool cb) := HX.out.cell 6
 go_upto_region 3 with (fail)
 go_cut [5] from 17 to 26 (fun s5 W => s5 = .bool b3 ∧ W = w1)
 case first =>
  by_cases h1 : 1 ≤ cq
  ·by_cases h4 : cq ≤ 4
   ·have hb : b3 = true := by rw [← HB3.out]; simp [kindF, h1, h4]
    subst hb
    go_wp2_with fail
    go_meet
    case rel => exact ⟨by first | rfl | simp [h4], rfl⟩
   ·have hb : b3 = false := by rw [← HB3.out]; simp [kindF, h1, h4]
    subst hb
    go_wp2_with fail
    go_meet
    case rel => exact ⟨by first | rfl | simp [h4], rfl⟩
  ·have hb : b3 = false := by rw [← HB3.out]; simp [kindF, h1]
   subst hb
   go_wp2_with fail
   go_meet
   case rel => exact ⟨by first | rfl | simp [h1], rfl⟩
 case rest =>
  obtain ⟨rfl, rfl⟩ := hcut
  go_upto_region 4 with (fail)
  go_cut [6] from 27 to 37 (fun s6 W => s6 = .bool b4 ∧ W = wc)
  case first =>
   by_cases hK : K = 0
   ·have hK2 : (K == 0) = true := by rw [hK]; rfl
    by_cases hn0 : n = 0
    ·have hb : b4 = true := by rw [← HB4.out, HN.out, hn0, hK]; rfl
     subst hb
     have hn1 : (n == 0) = true := by rw [hn0]; rfl
     have hn2 : ((n : Int) == 0) = true := by rw [hn0]; rfl
     clear hK hn0
     go_wp2_with fail
     go_meet
     case rel => exact ⟨by first | rfl | simp, rfl⟩
    ·have hb : b4 = false := by rw [← HB4.out, HN.out]; simp [hn0]
     subst hb
     have hn1 : (n == 0) = false := by simpa using hn0
     have hn2 : ((n : Int) == 0) = false := by simp; omega
     clear hK
     go_wp2_with fail
     go_meet
     case rel => exact ⟨by first | rfl | simp, rfl⟩
   ·have hb : b4 = false := by rw [← HB4.out]; simp [hK]
    subst hb
    have hK2 : (K == 0) = false := by simpa using hK
    go_wp2_with fail
    go_meet
    case rel => exact ⟨by first | rfl | simp, rfl⟩
  case rest =>
   obtain ⟨rfl, rfl⟩ := hcut
   go_wp2_with fail
   refine (rzero_any cn cq cb _).mono ?_
   rintro e w2 ⟨rfl, hb2⟩
   rw [HB5.out]
   have HX2 := Lib.hid (HX.out.below hb2.out HX.out.lt)
   have HB2w := Lib.hid (HB.out.trans (hb2.out.mono HB.out.size))
   have HM := Lib.hid (rmay_all A L n c K w2 HN.out (HA.out.below HB2w.out))
   have y0 : w2.cell? ⟨w.heap.size, 0, none⟩ = some (.int .i64 ck) := HX2.out.cell 0
   have y2 : w2.cell? ⟨w.heap.size, 2, none⟩ = some (.slice A n c) := HX2.out.cell 2
   have y3 : w2.cell? ⟨w.heap.size, 3, none⟩ = some (.int .i64 K) := HX2.out.cell 3
   clear hb2 x0 x2 x3 x4 x5 x6 HX HB
   go_wp2_with fail
   refine HM.out.mono ?_
   rintro e w3 ⟨rfl, hb3⟩
   rw [HB6.out]
   have HX3 := Lib.hid (HX2.out.below hb3.out HX2.out.lt)
   have HB3w : Hid (Below w.heap.size w w3) := HB2w.out.trans (hb3.out.mono HB2w.out.size)
   have z0 : w3.cell? ⟨w.heap.size, 0, none⟩ = some (.int .i64 ck) := HX3.out.cell 0
   have z5 : w3.cell? ⟨w.heap.size, 5, none⟩ = some (.int .i64 cq) := HX3.out.cell 5
   have z6 : w3.cell? ⟨w.heap.size, 6, none⟩ = some (.bool cb) := HX3.out.cell 6
   obtain ⟨b7, HB7⟩ : ∃ b, Hid ((cq == 0) = b) := ⟨_, rfl⟩
   have hF : altF ck ct L K ⟨cn, cq, cb⟩ = if ck = 1 then (if (b1 && b6 && b5) = true then 0 else 1) else if ck = 2 then (if (b1 && b4 && b5) = true then 0 else 1) else if ck = 3 ∨ ck = 5 then (if (b1 && b4 && b2 && b3) = true then 0 else 1) else if ck = 4 then (if (b1 && b4 && b2 && b7 && !cb) = true then 0 else 1) else 5 := by
    unfold altF
    rw [HB1.out, HB4.out, HB5.out, HB6.out]
    show (if ck = 1 then _ else if ck = 2 then _ else if ck = 3 ∨ ck = 5 then (if (b1 && b4 && nameF cn && kindF cq) = true then (0 : Int) else 1) else if ck = 4 then (if (b1 && b4 && nameF cn && cq == 0 && !cb) = true then 0 else 1) else 5) = _
    rw [HB2.out, HB3.out, HB7.out]
   clear hb3 HX2 HB2w HM y0 y2 y3 HX3
   by_cases c1 : ck = 1
   ·subst c1
    have HF := Lib.hid hF
    clear hF
    cases b1 <;> cases b6 <;> cases b5 <;> (go_wp2_with fail; go_ret; exact ⟨by rw [HF.out]; rfl, HB3w⟩)
   ·by_cases c2 : ck = 2
    ·subst c2
     have HF := Lib.hid hF
     clear hF c1
     cases b1 <;> cases b4 <;> cases b5 <;> (go_wp2_with fail; go_ret; exact ⟨by rw [HF.out]; rfl, HB3w⟩)
    ·by_cases c3 : ck = 3
     ·subst c3
      have HF := Lib.hid hF
      clear hF c1 c2
      cases b1 <;> cases b4 <;> cases b2 <;> cases b3 <;> (go_wp2_with fail; go_ret; exact ⟨by rw [HF.out]; rfl, HB3w⟩)
     ·by_cases c5 : ck = 5
      ·subst c5
       have HF := Lib.hid hF
       clear hF c1 c2 c3
       cases b1 <;> cases b4 <;> cases b2 <;> cases b3 <;> (go_wp2_with fail; go_ret; exact ⟨by rw [HF.out]; rfl, HB3w⟩)
      ·by_cases c4 : ck = 4
       ·subst c4
        have HF := Lib.hid hF
        clear hF c1 c2 c3 c5
        cases b7 with
        | true =>
          have hc0 : cq = 0 := by simpa using HB7.out
          subst hc0
          cases b1 <;> cases b4 <;> cases b2 <;> cases cb <;> (go_wp2_with fail; go_ret; exact ⟨by rw [HF.out]; rfl, HB3w⟩)
        | false =>
          have hc0 : (cq == 0) = false := HB7.out
          cases b1 <;> cases b4 <;> cases b2 <;> cases cb <;> (go_wp2_with fail; go_ret; exact ⟨by rw [HF.out]; rfl, HB3w⟩)
       ·rw [if_neg c1, if_neg c2, if_neg (by omega), if_neg c4] at hF
        have HF := Lib.hid hF
        have e1 : (ck == 1) = false := by simpa using c1
        have e2 : (ck == 2) = false := by simpa using c2
        have e3 : (ck == 3) = false := by simpa using c3
        have e4 : (ck == 4) = false := by simpa using c4
        have e5 : (ck == 5) = false := by simpa using c5
        clear hF
        go_wp2_with fail
        go_ret
        exact ⟨by rw [HF.out]; rfl, HB3w⟩
def pool6 (i : Nat) : ByteArray := if i = 0 then ⟨#[116]⟩ else if i = 1 then ⟨#[117]⟩ else ⟨#[118]⟩
theorem pool6_name (i : Nat) : nameF (pool6 i) = true := by
 unfold pool6
 split
 ·decide
 ·split <;> decide
def nm6 (s : ByteArray) (i : Nat) : ByteArray := if nameF s = true then s else pool6 i
theorem nm6_name (s : ByteArray) (i : Nat) : nameF (nm6 s i) = true := by
 unfold nm6; split
 ·assumption
 ·exact pool6_name i
def insD (D : List Td) (x : Td) : List Td := if plD D x.nm = true then D else D.take (lbD D x.nm) ++ [x] ++ D.drop (lbD D x.nm)
def g6To (T : List Tb) : Nat → List Td
 | 0 => []
 | k + 1 => match T[k]? with
   | some x => insD (g6To T k) ⟨nm6 x.nm k, gdC x.L x.K, gdK x.L x.K⟩
   | none => g6To T k
theorem g6To_succ (T : List Tb) (k : Nat) (h : k < T.length) : g6To T (k + 1) = insD (g6To T k) ⟨nm6 T[k].nm k, gdC T[k].L T[k].K, gdK T[k].L T[k].K⟩ := by
 show (match T[k]? with | some x => _ | none => _) = _
 rw [List.getElem?_eq_getElem h]
structure GoodD (D : List Td) : Prop where
 sort : SortD D
 ok : ∀ x ∈ D, nameF x.nm = true ∧ ∃ k : Nat, x.K = (k : Int) ∧ GoodS x.L k
theorem goodD_nil : GoodD [] := ⟨List.Pairwise.nil, fun _ h => by cases h⟩
theorem goodD_put {D : List Td} (h : GoodD D) {x : Td} (hp : plD D x.nm = false) (hx : nameF x.nm = true ∧ ∃ k : Nat, x.K = (k : Int) ∧ GoodS x.L k) : GoodD (D.take (lbD D x.nm) ++ [x] ++ D.drop (lbD D x.nm)) := by
 refine ⟨sortD_ins h.sort hp, fun y hy => ?_⟩
 rw [List.append_assoc, List.mem_append] at hy
 rcases hy with hy | hy
 ·exact h.ok y (List.mem_of_mem_take hy)
 ·rw [List.singleton_append, List.mem_cons] at hy
  rcases hy with rfl | hy
  ·exact hx
  ·exact h.ok y (List.mem_of_mem_drop hy)
theorem goodD_ins {D : List Td} (h : GoodD D) {x : Td} (hx : nameF x.nm = true ∧ ∃ k : Nat, x.K = (k : Int) ∧ GoodS x.L k) : GoodD (insD D x) := by
 unfold insD; split
 ·exact h
 ·next hp => exact goodD_put h (by simpa using hp) hx
theorem insD_len (D : List Td) (x : Td) : (insD D x).length ≤ D.length + 1 := by
 unfold insD; split
 ·omega
 ·simp; omega
theorem g6_good (T : List Tb) : ∀ k, GoodD (g6To T k) ∧ (g6To T k).length ≤ k
 | 0 => ⟨goodD_nil, by simp [g6To]⟩
 | k + 1 => by
   obtain ⟨h1, h2⟩ := g6_good T k
   by_cases hk : k < T.length
   ·rw [g6To_succ T k hk]
    refine ⟨goodD_ins h1 ⟨nm6_name _ _, _, rfl, goodS_is _ _⟩, ?_⟩
    have := insD_len (g6To T k) ⟨nm6 T[k].nm k, gdC T[k].L T[k].K, gdK T[k].L T[k].K⟩
    omega
   ·have e : g6To T (k + 1) = g6To T k := by
     show (match T[k]? with | some x => _ | none => _) = _
     rw [List.getElem?_eq_none (by omega)]
    rw [e]; exact ⟨h1, by omega⟩
theorem goodT_sort {T : List Tb} (h : GoodD (tds T)) : SortT T := (sort_d T).2 h.sort
theorem goodT_ok {T : List Tb} (h : GoodD (tds T)) : ∀ x ∈ T, nameF x.nm = true ∧ ∃ k : Nat, x.K = (k : Int) ∧ GoodS x.L k := fun x hx => h.ok x.td (List.mem_map_of_mem hx)
end Go.Proofs.YtnpmgempkoeapaaGreatDoor
namespace Go.Proofs.YtnpmgempkoeapaaGreatDoor
open Go.ChangeShapes Go.WideShapes Go.RowKit Go.Joins Go.Deep Go.Lib
set_option maxRecDepth 100000
theorem cellsG : Tryz.prog.cellsOf 31 = 7 := by kernel_rfl
section
variable {H : Type} {enc : TypeId × Value → H} {w : World} {base : Nat} {spare : Nat → Bool} {held : Bool}
end
end Go.Proofs.YtnpmgempkoeapaaGreatDoor
namespace Go.Proofs.YtnpmgempkoeapaaGreatDoor
open Go.ChangeShapes Go.WideShapes Go.RowKit Go.Joins Go.Deep Go.Lib
set_option maxRecDepth 100000
theorem cellsE : Tryz.prog.cellsOf 33 = 12 := by kernel_rfl
theorem cellsR : Tryz.prog.cellsOf 24 = 1 := by kernel_rfl
section
variable {H : Type} {enc : TypeId × Value → H} {w : World} {base : Nat} {spare : Nat → Bool} {held : Bool}
theorem rvals_in {fuel : Nat} {cs : List Value} {x : DataW H × List MemPlace} (h : DataW.trod enc Tryz.prog w base spare held fuel 24 cs = some x) (hl : Lite 24 x.1) :
 ∃ (A : Option Addr) (len cap : Nat) (L : List Vl), cs = [.slice A len cap] ∧ L.length = len ∧ len ≤ cap ∧ cap ≤ maxLen ∧ VRow w A L ∧ ∀ v ∈ L, v.fits := by
 rcases open_slice Tryz.underlying24 h with ⟨hcs, _⟩ | ⟨a, len, cap, m, n, D, Pl, hcs, _, hlc, hcm, hm, hx, hel⟩
 ·exact ⟨none, 0, 0, [], hcs, rfl, Nat.le_refl _, Nat.zero_le _, fun h => absurd rfl h, fun _ h => by cases h⟩
 ·have hlm : len ≤ m := by rw [hm]; split <;> omega
  have hv : ∀ i, i < len → ∃ v : Vl, v.fits ∧ ∀ j (hj : j < 3), w.cell? (a.add (i * 3 + j)) = v.cells[j]? := by
   intro i hi
   obtain ⟨cs', hc, ht⟩ := hel i (by omega)
   rw [cellsV] at hc
   obtain ⟨_, _, hat⟩ := World.cells?_some hc
   obtain ⟨v, e, hfit⟩ := val_in ht (fun n hn => hl n (by
    rw [hx]
    simp only [DataW.weights, Tryz.underlying24]
    refine List.mem_cons_of_mem _ (List.mem_append_left _ (weights_in (d := D i) ?_ n hn))
    exact List.mem_map.2 ⟨i, List.mem_range.2 hi, rfl⟩))
   refine ⟨v, hfit, fun j hj => ?_⟩
   rw [← Go.Deep.add_add, hat j hj, e]
  have hL : ∃ L : List Vl, L.length = len ∧ (∀ v ∈ L, v.fits) ∧ ∀ i (hi : i < L.length), ∀ j, j < 3 → w.cell? (a.add (i * 3 + j)) = L[i].cells[j]? := by
   clear hx hel hm hlc hlm hcs
   induction len with
   | zero => exact ⟨[], rfl, fun _ h => (by cases h), fun i hi => absurd hi (by simp)⟩
   | succ len ih =>
     obtain ⟨L, h1, h2, h3⟩ := ih (fun i hi => hv i (by omega))
     obtain ⟨v, h4, h5⟩ := hv len (by omega)
     refine ⟨L ++ [v], by simp [h1], fun u hu => ?_, fun i hi j hj => ?_⟩
     ·rcases List.mem_append.1 hu with h | h
      ·exact h2 u h
      ·rw [List.mem_singleton.1 h]; exact h4
     ·by_cases hil : i < L.length
      ·rw [List.getElem_append_left hil]; exact h3 i hil j hj
      ·have e : i = len := by simp at hi; omega
       subst e
       rw [List.getElem_append_right (by omega)]
       simp only [h1, Nat.sub_self, zC]
       exact h5 j hj
  obtain ⟨L, h1, h2, h3⟩ := hL
  refine ⟨some a, len, cap, L, hcs, h1, hlc, hcm, fun hne => ?_, h2⟩
  have h0 : 0 < L.length := List.length_pos_iff.2 hne
  obtain ⟨b, off, ha⟩ : ∃ b off, a = ⟨b, off, none⟩ := by
   have := h3 0 h0 0 (by omega)
   obtain ⟨b, off, spot⟩ := a
   have hspot : spot = none := by simpa [Addr.add] using World.cell?_spot this
   exact ⟨b, off, by rw [hspot]⟩
  subst ha
  refine ⟨b, off, rfl, fun i hi => ?_⟩
  have q0 := h3 i hi 0 (by omega)
  have q1 := h3 i hi 1 (by omega)
  have q2 := h3 i hi 2 (by omega)
  rw [Addr.add_lit] at q0 q1 q2
  exact ⟨q0, q1, q2⟩

set_option maxRecDepth 100000 in
theorem chgS_in {fuel : Nat} {cs : List Value} {x : DataW H × List MemPlace} (h : DataW.trod enc Tryz.prog w base spare held fuel 31 cs = some x) (hl : Lite 31 x.1) :
 ∃ (ck : Int) (tn : ByteArray) (A : Option Addr) (len cap : Nat) (L : List Cl) (K : Int) (cl : Cl), cs = [.int .i64 ck, .string tn, .slice A len cap, .int .i64 K, .string cl.nm, .int .i64 cl.k, .bool cl.no] ∧ (L.length = len ∧ len ≤ cap ∧ cap ≤ maxLen ∧ CRow w A L ∧ ∀ v ∈ L, v.fit) ∧ cl.fit ∧ tn.size ≤ 140737488355328 := by
 obtain ⟨xs, n, _, hx, hc, hxl, hf⟩ := DataW.trod_struct Tryz.underlying31 h
 rw [cellsG] at hc
 match cs, hc with
 | [c0, c1, c2, c3, c4, c5, c6], _ =>
   match xs, hxl with
   | [y0, y1, y2, y3], _ =>
     have f0 := hf 0 _ rfl
     have f1 := hf 1 _ rfl
     have f2 := hf 2 _ rfl
     have f3 := hf 3 _ rfl
     simp [cellsI, cellsS, cellsH, cellsC] at f0 f1 f2 f3
     obtain ⟨ck, e0, _, _⟩ := DataW.trod_int Tryz.underlying3 f0
     obtain ⟨tn, e1, ey, _⟩ := DataW.trod_string Tryz.underlying9 f1
     have hsz := hl tn.data.toList.length (by rw [hx]; simp [DataW.weights, Tryz.underlying31, DataW.weightsEach, ey])
     rw [bytes_size] at hsz
     obtain ⟨A, len, cap, L, K, e2, hL, _, _⟩ := sch_in f2 (fun n hn => hl n (by rw [hx]; simp only [DataW.weights, Tryz.underlying31]; simp [DataW.weightsEach]; exact .inr (.inr (.inl hn))))
     obtain ⟨cl, e3, hcl⟩ := col_in f3 (fun n hn => hl n (by rw [hx]; simp only [DataW.weights, Tryz.underlying31]; simp [DataW.weightsEach]; exact .inr (.inr (.inr hn))))
     simp [Cl.cells] at e0 e1 e2 e3
     obtain ⟨e2, e22⟩ := e2
     obtain ⟨e3, e32, e33⟩ := e3
     subst e0 e1 e2 e22 e3 e32 e33
     exact ⟨ck, tn, A, len, cap, L, K, cl, rfl, hL, hcl, reach_le hsz⟩
def RowIn (w : World) (A : Option Addr) (n c : Nat) (L : List Vl) : Prop := L.length = n ∧ n ≤ c ∧ c ≤ maxLen ∧ VRow w A L ∧ ∀ v ∈ L, v.fits
set_option maxHeartbeats 1000000 in
theorem evt_in {fuel : Nat} {cs : List Value} {x : DataW H × List MemPlace} (h : DataW.trod enc Tryz.prog w base spare held fuel 33 cs = some x) (hl : Lite 33 x.1) :
 ∃ (ek en : Int) (et : ByteArray) (Ab : Option Addr) (nb cb : Nat) (Lb : List Vl) (Aa : Option Addr) (na ca : Nat) (La : List Vl) (ck : Int) (tn : ByteArray) (A : Option Addr) (len cap : Nat) (L : List Cl) (K : Int) (cl : Cl), cs = [.int .i64 ek, .int .i64 en, .string et, .slice Ab nb cb, .slice Aa na ca, .int .i64 ck, .string tn, .slice A len cap, .int .i64 K, .string cl.nm, .int .i64 cl.k, .bool cl.no] ∧ (-9223372036854775808 ≤ ek ∧ ek ≤ 9223372036854775807) ∧ (-9223372036854775808 ≤ en ∧ en ≤ 9223372036854775807) ∧ RowIn w Ab nb cb Lb ∧ RowIn w Aa na ca La ∧ (L.length = len ∧ len ≤ cap ∧ cap ≤ maxLen ∧ CRow w A L ∧ ∀ v ∈ L, v.fit) ∧ (cl.fit ∧ tn.size ≤ 140737488355328) ∧ et.size ≤ 140737488355328 := by
 obtain ⟨xs, n, _, hx, hc, hxl, hf⟩ := DataW.trod_struct Tryz.underlying33 h
 rw [cellsE] at hc
 match cs, hc with
 | [c0, c1, c2, c3, c4, c5, c6, c7, c8, c9, c10, c11], _ =>
   match xs, hxl with
   | [y0, y1, y2, y3, y4, y5], _ =>
     have f0 := hf 0 _ rfl
     have f1 := hf 1 _ rfl
     have f2 := hf 2 _ rfl
     have f3 := hf 3 _ rfl
     have f4 := hf 4 _ rfl
     have f5 := hf 5 _ rfl
     simp [cellsI, cellsS, cellsR, cellsG] at f0 f1 f2 f3 f4 f5
     obtain ⟨ek, e0, _, hek⟩ := DataW.trod_int Tryz.underlying3 f0
     obtain ⟨en, e1, _, hen⟩ := DataW.trod_int Tryz.underlying3 f1
     obtain ⟨et, e2, ey, _⟩ := DataW.trod_string Tryz.underlying9 f2
     have hsz := hl et.data.toList.length (by rw [hx]; simp [DataW.weights, Tryz.underlying33, DataW.weightsEach, ey])
     rw [bytes_size] at hsz
     obtain ⟨Ab, nb, cb, Lb, e3, hB⟩ := rvals_in f3 (fun n hn => hl n (by rw [hx]; simp only [DataW.weights, Tryz.underlying33]; simp [DataW.weightsEach]; exact .inr (.inr (.inr (.inl hn)))))
     obtain ⟨Aa, na, ca, La, e4, hA⟩ := rvals_in f4 (fun n hn => hl n (by rw [hx]; simp only [DataW.weights, Tryz.underlying33]; simp [DataW.weightsEach]; exact .inr (.inr (.inr (.inr (.inl hn))))))
     obtain ⟨ck, tn, A, len, cap, L, K, cl, e5, hL, hcl⟩ := chgS_in f5 (fun n hn => hl n (by rw [hx]; simp only [DataW.weights, Tryz.underlying33]; simp [DataW.weightsEach]; exact .inr (.inr (.inr (.inr (.inr hn))))))
     simp at e0 e1 e2 e3 e4 e5
     obtain ⟨e5, e6, e7, e8, e9, e10, e11⟩ := e5
     subst e0 e1 e2 e3 e4 e5 e6 e7 e8 e9 e10 e11
     exact ⟨ek, en, et, Ab, nb, cb, Lb, Aa, na, ca, La, ck, tn, A, len, cap, L, K, cl, rfl, bounds_int hek, bounds_int hen, hB, hA, hL, hcl, reach_le hsz⟩
theorem event_in {r : Reach} {b0 : Nat} {v : Value} {d : DataW H} {p : List MemPlace} (hv : Value.okWide Tryz.prog w r b0 33 v) (h : DataW.Trod enc Tryz.prog w base spare held 33 v d p) (hl : Lite 33 d) :
 ∃ (ek en : Int) (et : ByteArray) (Ab : Option Addr) (nb cb : Nat) (Lb : List Vl) (Aa : Option Addr) (na ca : Nat) (La : List Vl) (ck : Int) (tn : ByteArray) (A : Option Addr) (len cap : Nat) (L : List Cl) (K : Int) (cl : Cl), v = .agg #[.int .i64 ek, .int .i64 en, .string et, .slice Ab nb cb, .slice Aa na ca, .int .i64 ck, .string tn, .slice A len cap, .int .i64 K, .string cl.nm, .int .i64 cl.k, .bool cl.no] ∧ (-9223372036854775808 ≤ ek ∧ ek ≤ 9223372036854775807) ∧ (-9223372036854775808 ≤ en ∧ en ≤ 9223372036854775807) ∧ RowIn w Ab nb cb Lb ∧ RowIn w Aa na ca La ∧ (L.length = len ∧ len ≤ cap ∧ cap ≤ maxLen ∧ CRow w A L ∧ ∀ v ∈ L, v.fit) ∧ (cl.fit ∧ tn.size ≤ 140737488355328) ∧ et.size ≤ 140737488355328 := by
 obtain ⟨fuel, hf⟩ := h
 obtain ⟨cs, rfl, hsz⟩ := okWide_struct Tryz.underlying33 hv
 obtain ⟨ek, en, et, Ab, nb, cb, Lb, Aa, na, ca, La, ck, tn, A, len, cap, L, K, cl, e, hL⟩ := evt_in hf hl
 rw [cells_agg] at e
 refine ⟨ek, en, et, Ab, nb, cb, Lb, Aa, na, ca, La, ck, tn, A, len, cap, L, K, cl, ?_, hL⟩
 have : cs = #[.int .i64 ek, .int .i64 en, .string et, .slice Ab nb cb, .slice Aa na ca, .int .i64 ck, .string tn, .slice A len cap, .int .i64 K, .string cl.nm, .int .i64 cl.k, .bool cl.no] := by
  apply Array.ext'
  rw [e]
 rw [this]
end
end Go.Proofs.YtnpmgempkoeapaaGreatDoor
namespace Go.Proofs.YtnpmgempkoeapaaGreatDoor
open Go.ChangeShapes Go.WideShapes Go.RowKit Go.Joins Go.Deep Go.Lib
set_option maxRecDepth 100000
theorem cellsT : Tryz.prog.cellsOf 52 = 3 := by kernel_rfl
def Tb.cells (x : Tb) : List Value := [.string x.nm, .slice x.A x.n x.c, .int .i64 x.K]
section
variable {H : Type} {enc : TypeId × Value → H} {w : World} {base : Nat} {spare : Nat → Bool} {held : Bool}
def TbIn (w : World) (x : Tb) : Prop := (x.L.length = x.n ∧ x.n ≤ x.c ∧ x.c ≤ maxLen ∧ CRow w x.A x.L) ∧ (∀ y ∈ x.L, y.fit) ∧ x.nm.size ≤ 140737488355328 ∧ -9223372036854775808 ≤ x.K ∧ x.K ≤ 9223372036854775807
theorem tab_in {fuel : Nat} {cs : List Value} {x : DataW H × List MemPlace} (h : DataW.trod enc Tryz.prog w base spare held fuel 52 cs = some x) (hl : Lite 52 x.1) :
 ∃ v : Tb, cs = v.cells ∧ TbIn w v := by
 obtain ⟨xs, n, _, hx, hc, hxl, hf⟩ := DataW.trod_struct Tryz.underlying52 h
 rw [cellsT] at hc
 match cs, hc with
 | [c0, c1, c2], _ =>
   match xs, hxl with
   | [y0, y1], _ =>
     have f0 := hf 0 _ rfl
     have f1 := hf 1 _ rfl
     simp [cellsS, cellsH] at f0 f1
     obtain ⟨s, e0, ey, _⟩ := DataW.trod_string Tryz.underlying9 f0
     have hsz := hl s.data.toList.length (by rw [hx]; simp [DataW.weights, Tryz.underlying52, DataW.weightsEach, ey])
     rw [bytes_size] at hsz
     obtain ⟨A, len, cap, L, K, e1, hL, hk1, hk2⟩ := sch_in f1 (fun n hn => hl n (by rw [hx]; simp only [DataW.weights, Tryz.underlying52]; simp [DataW.weightsEach]; exact .inr hn))
     simp at e0 e1
     obtain ⟨e1, e2⟩ := e1
     subst e0 e1 e2
     exact ⟨⟨s, A, len, cap, L, K⟩, rfl, ⟨hL.1, hL.2.1, hL.2.2.1, hL.2.2.2.1⟩, hL.2.2.2.2, reach_le hsz, hk1, hk2⟩
theorem tabs_in {fuel : Nat} {cs : List Value} {x : DataW H × List MemPlace} (h : DataW.trod enc Tryz.prog w base spare held fuel 22 cs = some x) (hl : Lite 22 x.1) :
 ∃ (A : Option Addr) (len cap : Nat) (L : List Tb), cs = [.slice A len cap] ∧ L.length = len ∧ len ≤ cap ∧ cap ≤ maxLen ∧ TRow w A L ∧ ∀ v ∈ L, TbIn w v := by
 rcases open_slice Tryz.underlying22 h with ⟨hcs, _⟩ | ⟨a, len, cap, m, n, D, Pl, hcs, _, hlc, hcm, hm, hx, hel⟩
 ·exact ⟨none, 0, 0, [], hcs, rfl, Nat.le_refl _, Nat.zero_le _, fun h => absurd rfl h, fun _ h => by cases h⟩
 ·have hlm : len ≤ m := by rw [hm]; split <;> omega
  have hv : ∀ i, i < len → ∃ v : Tb, TbIn w v ∧ ∀ j (hj : j < 3), w.cell? (a.add (i * 3 + j)) = v.cells[j]? := by
   intro i hi
   obtain ⟨cs', hc, ht⟩ := hel i (by omega)
   rw [cellsT] at hc
   obtain ⟨_, _, hat⟩ := World.cells?_some hc
   obtain ⟨v, e, hfit⟩ := tab_in ht (fun n hn => hl n (by
    rw [hx]
    simp only [DataW.weights, Tryz.underlying22]
    refine List.mem_cons_of_mem _ (List.mem_append_left _ (weights_in (d := D i) ?_ n hn))
    exact List.mem_map.2 ⟨i, List.mem_range.2 hi, rfl⟩))
   refine ⟨v, hfit, fun j hj => ?_⟩
   rw [← Go.Deep.add_add, hat j hj, e]
  have hL : ∃ L : List Tb, L.length = len ∧ (∀ v ∈ L, TbIn w v) ∧ ∀ i (hi : i < L.length), ∀ j, j < 3 → w.cell? (a.add (i * 3 + j)) = L[i].cells[j]? := by
   clear hx hel hm hlc hlm hcs
   induction len with
   | zero => exact ⟨[], rfl, fun _ h => (by cases h), fun i hi => absurd hi (by simp)⟩
   | succ len ih =>
     obtain ⟨L, h1, h2, h3⟩ := ih (fun i hi => hv i (by omega))
     obtain ⟨v, h4, h5⟩ := hv len (by omega)
     refine ⟨L ++ [v], by simp [h1], fun u hu => ?_, fun i hi j hj => ?_⟩
     ·rcases List.mem_append.1 hu with h | h
      ·exact h2 u h
      ·rw [List.mem_singleton.1 h]; exact h4
     ·by_cases hil : i < L.length
      ·rw [List.getElem_append_left hil]; exact h3 i hil j hj
      ·have e : i = len := by simp at hi; omega
       subst e
       rw [List.getElem_append_right (by omega)]
       simp only [h1, Nat.sub_self, zC]
       exact h5 j hj
  obtain ⟨L, h1, h2, h3⟩ := hL
  refine ⟨some a, len, cap, L, hcs, h1, hlc, hcm, fun hne => ?_, h2⟩
  have h0 : 0 < L.length := List.length_pos_iff.2 hne
  obtain ⟨b, off, ha⟩ : ∃ b off, a = ⟨b, off, none⟩ := by
   have := h3 0 h0 0 (by omega)
   obtain ⟨b, off, spot⟩ := a
   have hspot : spot = none := by simpa [Addr.add] using World.cell?_spot this
   exact ⟨b, off, by rw [hspot]⟩
  subst ha
  refine ⟨b, off, rfl, fun i hi => ?_⟩
  have q0 := h3 i hi 0 (by omega)
  have q1 := h3 i hi 1 (by omega)
  have q2 := h3 i hi 2 (by omega)
  rw [Addr.add_lit] at q0 q1 q2
  exact ⟨q0, q1, q2⟩
theorem tables_in {r : Reach} {b0 : Nat} {v : Value} {d : DataW H} {p : List MemPlace} (hv : Value.okWide Tryz.prog w r b0 22 v) (h : DataW.Trod enc Tryz.prog w base spare held 22 v d p) (hl : Lite 22 d) :
 ∃ (A : Option Addr) (len cap : Nat) (L : List Tb), v = .slice A len cap ∧ L.length = len ∧ len ≤ cap ∧ cap ≤ maxLen ∧ TRow w A L ∧ ∀ v ∈ L, TbIn w v := by
 obtain ⟨a, l, c, rfl⟩ := okWide_slice Tryz.underlying22 hv
 obtain ⟨fuel, hf⟩ := h
 obtain ⟨A, len, cap, L, hcs, h⟩ := tabs_in hf hl
 simp [Value.cells] at hcs
 obtain ⟨rfl, rfl, rfl⟩ := hcs
 exact ⟨_, _, _, L, rfl, h⟩
end
end Go.Proofs.YtnpmgempkoeapaaGreatDoor
