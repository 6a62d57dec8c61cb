/-
  Put together, as far as it is used: Args.
-/
import Derived.Test.YtnpmgempkoeapaaGreatDoorRows
import Derived.Test.YtnpmgempkoeapaaGreatDoorPeac
import Derived.ProofKit
import Derived.OpenShut
import Derived.ChangeOld
import Derived.Below
import Derived.Deep.Slices
import Derived.Lib.SmallJoins
import Derived.SizedLaws
set_option linter.unusedVariables false
set_option linter.unusedSimpArgs false
set_option linter.defProp false
namespace Go.Proofs.YtnpmgempkoeapaaGreatDoor
open Go.ChangeShapes Go.WideShapes Go.RowKit Go.Joins Go.Deep Go.Lib
set_option maxRecDepth 100000
theorem cellsI : Tryz.prog.cellsOf 3 = 1 := by kernel_rfl
theorem cellsS : Tryz.prog.cellsOf 9 = 1 := by kernel_rfl
theorem cellsB : Tryz.prog.cellsOf 4 = 1 := by kernel_rfl
theorem cellsL : Tryz.prog.cellsOf 25 = 1 := by kernel_rfl
theorem cellsV : Tryz.prog.cellsOf 87 = 3 := by kernel_rfl
theorem cellsC : Tryz.prog.cellsOf 29 = 3 := by kernel_rfl
theorem cellsH : Tryz.prog.cellsOf 27 = 2 := by kernel_rfl
section
variable {H : Type} {enc : TypeId × Value → H} {w : World} {base : Nat} {spare : Nat → Bool} {held : Bool}
def Lite (t : TypeId) (d : DataW H) : Prop := ∀ n ∈ d.weights Tryz.prog t, n ≤ reachBytes
theorem lite_of {ts : List TypeId} {ds : List (DataW H)} (h : (DataW.weightsEach Tryz.prog ts ds).all (· ≤ reachBytes) = true) {j : Nat} {t : TypeId} {d : DataW H} (ht : ts[j]? = some t) (hd : ds[j]? = some d) : Lite t d := fun n hn => by
 have := List.all_eq_true.1 h n (DataW.weights_mem_each ht hd n hn)
 simpa using this
theorem bounds_int {n : Int} (h : (Lit.int .i64 n).wf = true) : -9223372036854775808 ≤ n ∧ n ≤ 9223372036854775807 := by
 simpa [Lit.wf, IntKind.min, IntKind.max, IntKind.signed, IntKind.bits] using h
theorem bytes_size (s : ByteArray) : s.data.toList.length = s.size := rfl
theorem reach_le {n : Nat} (h : n ≤ reachBytes) : n ≤ 140737488355328 := Nat.le_trans h (Nat.le_of_lt reachBytes_lt)
set_option maxRecDepth 100000 in
theorem val_in {fuel : Nat} {cs : List Value} {x : DataW H × List MemPlace} (h : DataW.trod enc Tryz.prog w base spare held fuel 87 cs = some x) (hl : Lite 87 x.1) :
 ∃ v : Vl, cs = v.cells ∧ v.fits := by
 obtain ⟨xs, n, _, hx, hc, hxl, hf⟩ := DataW.trod_struct Tryz.underlying87 h
 rw [cellsV] at hc
 match cs, hc with
 | [c0, c1, c2], _ =>
   match xs, hxl with
   | [y0, y1, y2], _ =>
     have f0 := hf 0 _ rfl
     have f1 := hf 1 _ rfl
     have f2 := hf 2 _ rfl
     simp [cellsI, cellsS] at f0 f1 f2
     obtain ⟨k, e0, _, hk⟩ := DataW.trod_int Tryz.underlying3 f0
     obtain ⟨m, e1, _, hm⟩ := DataW.trod_int Tryz.underlying3 f1
     obtain ⟨s, e2, ey, _⟩ := DataW.trod_string Tryz.underlying9 f2
     simp at e0 e1 e2
     subst e0 e1 e2
     refine ⟨⟨k, m, s⟩, rfl, ⟨(bounds_int hm).1, (bounds_int hm).2, ?_⟩, (bounds_int hk).1, (bounds_int hk).2⟩
     have := hl s.data.toList.length (by rw [hx]; simp [DataW.weights, Tryz.underlying87, DataW.weightsEach, ey])
     rw [bytes_size] at this
     exact reach_le this
theorem weights_in {e : TypeId} : ∀ {l : List (DataW H)} {d : DataW H}, d ∈ l → ∀ n ∈ d.weights Tryz.prog e, n ∈ DataW.weightsAll Tryz.prog e l
 | d0 :: l, d, h, n, hn => by
   simp only [DataW.weightsAll, List.mem_append]
   rcases List.mem_cons.1 h with rfl | h
   ·exact .inl hn
   ·exact .inr (weights_in h n hn)
set_option maxRecDepth 100000 in
theorem col_in {fuel : Nat} {cs : List Value} {x : DataW H × List MemPlace} (h : DataW.trod enc Tryz.prog w base spare held fuel 29 cs = some x) (hl : Lite 29 x.1) :
 ∃ v : Cl, cs = v.cells ∧ v.fit := by
 obtain ⟨xs, n, _, hx, hc, hxl, hf⟩ := DataW.trod_struct Tryz.underlying29 h
 rw [cellsC] at hc
 match cs, hc with
 | [c0, c1, c2], _ =>
   match xs, hxl with
   | [y0, y1, y2], _ =>
     have f0 := hf 0 _ rfl
     have f1 := hf 1 _ rfl
     have f2 := hf 2 _ rfl
     simp [cellsI, cellsS, cellsB] at f0 f1 f2
     obtain ⟨s, e0, ey, _⟩ := DataW.trod_string Tryz.underlying9 f0
     obtain ⟨k, e1, _, hk⟩ := DataW.trod_int Tryz.underlying3 f1
     obtain ⟨b, e2, _⟩ := DataW.trod_bool Tryz.underlying4 f2
     simp at e0 e1 e2
     subst e0 e1 e2
     refine ⟨⟨s, k, b⟩, rfl, ?_, (bounds_int hk).1, (bounds_int hk).2⟩
     have := hl s.data.toList.length (by rw [hx]; simp [DataW.weights, Tryz.underlying29, DataW.weightsEach, ey])
     rw [bytes_size] at this
     exact reach_le this
theorem cols_in {fuel : Nat} {cs : List Value} {x : DataW H × List MemPlace} (h : DataW.trod enc Tryz.prog w base spare held fuel 25 cs = some x) (hl : Lite 25 x.1) :
 ∃ (A : Option Addr) (len cap : Nat) (L : List Cl), cs = [.slice A len cap] ∧ L.length = len ∧ len ≤ cap ∧ cap ≤ maxLen ∧ CRow w A L ∧ ∀ v ∈ L, v.fit := by
 rcases open_slice Tryz.underlying25 h with ⟨hcs, _⟩ | ⟨a, len, cap, m, n, D, Pl, hcs, _, hlc, hcm, hm, hx, hel⟩
 ·exact ⟨none, 0, 0, [], hcs, rfl, Nat.le_refl _, Nat.zero_le _, fun h => absurd rfl h, fun _ h => by cases h⟩
 ·have hlm : len ≤ m := by rw [hm]; split <;> omega
  have hv : ∀ i, i < len → ∃ v : Cl, v.fit ∧ ∀ j (hj : j < 3), w.cell? (a.add (i * 3 + j)) = v.cells[j]? := by
   intro i hi
   obtain ⟨cs', hc, ht⟩ := hel i (by omega)
   rw [cellsC] at hc
   obtain ⟨_, _, hat⟩ := World.cells?_some hc
   obtain ⟨v, e, hfit⟩ := col_in ht (fun n hn => hl n (by
    rw [hx]
    simp only [DataW.weights, Tryz.underlying25]
    refine List.mem_cons_of_mem _ (List.mem_append_left _ (weights_in (d := D i) ?_ n hn))
    exact List.mem_map.2 ⟨i, List.mem_range.2 hi, rfl⟩))
   refine ⟨v, hfit, fun j hj => ?_⟩
   rw [← Go.Deep.add_add, hat j hj, e]
  have hL : ∃ L : List Cl, L.length = len ∧ (∀ v ∈ L, v.fit) ∧ ∀ i (hi : i < L.length), ∀ j, j < 3 → w.cell? (a.add (i * 3 + j)) = L[i].cells[j]? := by
   clear hx hel hm hlc hlm hcs
   induction len with
   | zero => exact ⟨[], rfl, fun _ h => (by cases h), fun i hi => absurd hi (by simp)⟩
   | succ len ih =>
     obtain ⟨L, h1, h2, h3⟩ := ih (fun i hi => hv i (by omega))
     obtain ⟨v, h4, h5⟩ := hv len (by omega)
     refine ⟨L ++ [v], by simp [h1], fun u hu => ?_, fun i hi j hj => ?_⟩
     ·rcases List.mem_append.1 hu with h | h
      ·exact h2 u h
      ·rw [List.mem_singleton.1 h]; exact h4
     ·by_cases hil : i < L.length
      ·rw [List.getElem_append_left hil]; exact h3 i hil j hj
      ·have e : i = len := by simp at hi; omega
       subst e
       rw [List.getElem_append_right (by omega)]
       simp only [h1, Nat.sub_self, zC]
       exact h5 j hj
  obtain ⟨L, h1, h2, h3⟩ := hL
  refine ⟨some a, len, cap, L, hcs, h1, hlc, hcm, fun hne => ?_, h2⟩
  have h0 : 0 < L.length := List.length_pos_iff.2 hne
  obtain ⟨b, off, ha⟩ : ∃ b off, a = ⟨b, off, none⟩ := by
   have := h3 0 h0 0 (by omega)
   obtain ⟨b, off, spot⟩ := a
   have hspot : spot = none := by simpa [Addr.add] using World.cell?_spot this
   exact ⟨b, off, by rw [hspot]⟩
  subst ha
  refine ⟨b, off, rfl, fun i hi => ?_⟩
  have q0 := h3 i hi 0 (by omega)
  have q1 := h3 i hi 1 (by omega)
  have q2 := h3 i hi 2 (by omega)
  rw [Addr.add_lit] at q0 q1 q2
  exact ⟨q0, q1, q2⟩
theorem cells_agg (cs : Array Value) : (Value.agg cs).cells = cs := rfl
set_option maxRecDepth 100000 in
theorem sch_in {fuel : Nat} {cs : List Value} {x : DataW H × List MemPlace} (h : DataW.trod enc Tryz.prog w base spare held fuel 27 cs = some x) (hl : Lite 27 x.1) :
 ∃ (A : Option Addr) (len cap : Nat) (L : List Cl) (K : Int), cs = [.slice A len cap, .int .i64 K] ∧ (L.length = len ∧ len ≤ cap ∧ cap ≤ maxLen ∧ CRow w A L ∧ ∀ v ∈ L, v.fit) ∧ -9223372036854775808 ≤ K ∧ K ≤ 9223372036854775807 := by
 obtain ⟨xs, n, _, hx, hc, hxl, hf⟩ := DataW.trod_struct Tryz.underlying27 h
 rw [cellsH] at hc
 match cs, hc with
 | [c0, c1], _ =>
   match xs, hxl with
   | [y0, y1], _ =>
     have f0 := hf 0 _ rfl
     have f1 := hf 1 _ rfl
     simp [cellsI, cellsL] at f0 f1
     obtain ⟨k, e1, _, hk⟩ := DataW.trod_int Tryz.underlying3 f1
     obtain ⟨A, len, cap, L, e0, hL⟩ := cols_in f0 (fun n hn => hl n (by rw [hx]; simp only [DataW.weights, Tryz.underlying27]; simp [DataW.weightsEach]; exact .inl hn))
     simp at e0 e1
     subst e0 e1
     exact ⟨A, len, cap, L, k, rfl, hL, (bounds_int hk).1, (bounds_int hk).2⟩
end
end Go.Proofs.YtnpmgempkoeapaaGreatDoor
