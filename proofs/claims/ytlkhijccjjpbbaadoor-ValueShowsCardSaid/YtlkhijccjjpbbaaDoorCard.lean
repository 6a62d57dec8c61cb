/-
  Arguments of the laws on values, read as data; the library's tables out of what a row lists.
-/
import Derived.Test.YtlkhijccjjpbbaaDoorRows
import Derived.Test.YtlkhijccjjpbbaaDoorTie
import Derived.Test.YtlkhijccjjpbbaaDoorOwnV
import Derived.ProofKit
import Derived.OpenShut
import Derived.ChangeOld
import Derived.Below
import Derived.Deep.Slices
import Derived.Lib.SmallJoins
import Derived.SizedLaws
import Derived.LaidMore
import Derived.Lay
import Derived.SevenTiedAt
import Derived.PinnedBridge
import Derived.Stop.Joined
namespace Go.Proofs.YtlkhijccjjpbbaaDoor
open Go.ChangeShapes Go.WideShapes Go.RowKit Go.Joins Go.Deep Go.Lib
theorem own : ownKnob Tryd.prog.godebug = none := by kernel_rfl
theorem laidOut : laidOutB Tryd.prog = true := by kernel_rfl
theorem cellsI : Tryd.prog.cellsOf 3 = 1 := by kernel_rfl
theorem cellsS : Tryd.prog.cellsOf 9 = 1 := by kernel_rfl
theorem cellsV : Tryd.prog.cellsOf 23 = 3 := by kernel_rfl
/-- What a row of this seat lists. -/
def listed : List (String × DataW Unit) := [("math/bits.deBruijn32tab", Rows.laid_math_bits_deBruijn32tab), ("math/bits.deBruijn64tab", Rows.laid_math_bits_deBruijn64tab), ("internal/strconv.uint64pow10", Rows.laid_internal_strconv_uint64pow10), ("unicode/utf8.acceptRanges", Rows.laid_unicode_utf8_acceptRanges), ("unicode/utf8.first", Rows.laid_unicode_utf8_first)]
theorem accept_eq : (Rows.laid_unicode_utf8_acceptRanges : DataW Unit) = acceptData := by kernel_rfl
theorem tabs_of {W : World} (h : laidMetH Tryd.prog listed W) : Tabs W := by
  rw [MakeChecks.laidMetH_plain _ _ _ (by kernel_rfl)] at h
  refine utf8Tabs_of_readsT (U8Types.of196 Tryd.laysValid) ⟨by kernel_rfl, by kernel_rfl, by kernel_rfl, by kernel_rfl, by kernel_rfl, by kernel_rfl, by kernel_rfl⟩ ?_ ?_
  · have := Lib.laidMet.reads h (.tail _ (.tail _ (.tail _ (.tail _ (.head _)))))
    exact Pinned.utf8First_eq ▸ this
  · have := Lib.laidMet.reads h (.tail _ (.tail _ (.tail _ (.head _))))
    exact accept_eq ▸ this
section
variable {H : Type} {enc : TypeId × Value → H} {w : World} {base : Nat} {spare : Nat → Bool} {held : Bool}
/-- A datum no text of which is too long to be read. -/
def Lite (t : TypeId) (d : DataW H) : Prop := ∀ n ∈ d.weights Tryd.prog t, n ≤ reachBytes
theorem lite_of {ts : List TypeId} {ds : List (DataW H)} (h : (DataW.weightsEach Tryd.prog ts ds).all (· ≤ reachBytes) = true) {j : Nat} {t : TypeId} {d : DataW H} (ht : ts[j]? = some t) (hd : ds[j]? = some d) : Lite t d := fun n hn => by
  have := List.all_eq_true.1 h n (DataW.weights_mem_each ht hd n hn)
  simpa using this
theorem bounds_int {n : Int} (h : (Lit.int .i64 n).wf = true) : -9223372036854775808 ≤ n ∧ n ≤ 9223372036854775807 := by
  simpa [Lit.wf, IntKind.min, IntKind.max, IntKind.signed, IntKind.bits] using h
theorem bytes_size (s : ByteArray) : s.data.toList.length = s.size := rfl
theorem reach_le {n : Nat} (h : n ≤ reachBytes) : n ≤ 140737488355328 := Nat.le_trans h (Nat.le_of_lt reachBytes_lt)
set_option maxRecDepth 100000 in
theorem val_in {fuel : Nat} {cs : List Value} {x : DataW H × List MemPlace} (h : DataW.trod enc Tryd.prog w base spare held fuel 23 cs = some x) (hl : Lite 23 x.1) :
    ∃ v : Vl, cs = v.cells ∧ v.fits := by
  obtain ⟨xs, n, _, hx, hc, hxl, hf⟩ := DataW.trod_struct Tryd.underlying23 h
  rw [cellsV] at hc
  match cs, hc with
  | [c0, c1, c2], _ =>
    match xs, hxl with
    | [y0, y1, y2], _ =>
      have f0 := hf 0 _ rfl
      have f1 := hf 1 _ rfl
      have f2 := hf 2 _ rfl
      simp [cellsI, cellsS] at f0 f1 f2
      obtain ⟨k, e0, _, hk⟩ := DataW.trod_int Tryd.underlying3 f0
      obtain ⟨m, e1, _, hm⟩ := DataW.trod_int Tryd.underlying3 f1
      obtain ⟨s, e2, ey, _⟩ := DataW.trod_string Tryd.underlying9 f2
      simp at e0 e1 e2
      subst e0 e1 e2
      refine ⟨⟨k, m, s⟩, rfl, ⟨(bounds_int hm).1, (bounds_int hm).2, ?_⟩, (bounds_int hk).1, (bounds_int hk).2⟩
      have := hl s.data.toList.length (by rw [hx]; simp [DataW.weights, Tryd.underlying23, DataW.weightsEach, ey])
      rw [bytes_size] at this
      exact reach_le this
theorem weights_in {e : TypeId} : ∀ {l : List (DataW H)} {d : DataW H}, d ∈ l → ∀ n ∈ d.weights Tryd.prog e, n ∈ DataW.weightsAll Tryd.prog e l
  | d0 :: l, d, h, n, hn => by
    simp only [DataW.weightsAll, List.mem_append]
    rcases List.mem_cons.1 h with rfl | h
    · exact .inl hn
    · exact .inr (weights_in h n hn)
theorem vals_in {fuel : Nat} {cs : List Value} {x : DataW H × List MemPlace} (h : DataW.trod enc Tryd.prog w base spare held fuel 28 cs = some x) (hl : Lite 28 x.1) :
    ∃ (A : Option Addr) (len cap : Nat) (L : List Vl), cs = [.slice A len cap] ∧ L.length = len ∧ len ≤ cap ∧ cap ≤ maxLen ∧ VRow w A L ∧ ∀ v ∈ L, v.fits := by
  rcases open_slice Tryd.underlying28 h with ⟨hcs, _⟩ | ⟨a, len, cap, m, n, D, Pl, hcs, _, hlc, hcm, hm, hx, hel⟩
  · exact ⟨none, 0, 0, [], hcs, rfl, Nat.le_refl _, Nat.zero_le _, fun h => absurd rfl h, fun _ h => by cases h⟩
  · have hlm : len ≤ m := by rw [hm]; split <;> omega
    have hv : ∀ i, i < len → ∃ v : Vl, v.fits ∧ ∀ j (hj : j < 3), w.cell? (a.add (i * 3 + j)) = v.cells[j]? := by
      intro i hi
      obtain ⟨cs', hc, ht⟩ := hel i (by omega)
      rw [cellsV] at hc
      obtain ⟨_, _, hat⟩ := World.cells?_some hc
      obtain ⟨v, e, hfit⟩ := val_in ht (fun n hn => hl n (by
        rw [hx]
        simp only [DataW.weights, Tryd.underlying28]
        refine List.mem_cons_of_mem _ (List.mem_append_left _ (weights_in (d := D i) ?_ n hn))
        exact List.mem_map.2 ⟨i, List.mem_range.2 hi, rfl⟩))
      refine ⟨v, hfit, fun j hj => ?_⟩
      rw [← Go.Deep.add_add, hat j hj, e]
    have hL : ∃ L : List Vl, L.length = len ∧ (∀ v ∈ L, v.fits) ∧ ∀ i (hi : i < L.length), ∀ j, j < 3 → w.cell? (a.add (i * 3 + j)) = L[i].cells[j]? := by
      clear hx hel hm hlc hlm hcs
      induction len with
      | zero => exact ⟨[], rfl, fun _ h => (by cases h), fun i hi => absurd hi (by simp)⟩
      | succ len ih =>
        obtain ⟨L, h1, h2, h3⟩ := ih (fun i hi => hv i (by omega))
        obtain ⟨v, h4, h5⟩ := hv len (by omega)
        refine ⟨L ++ [v], by simp [h1], fun u hu => ?_, fun i hi j hj => ?_⟩
        · rcases List.mem_append.1 hu with h | h
          · exact h2 u h
          · rw [List.mem_singleton.1 h]; exact h4
        · by_cases hil : i < L.length
          · rw [List.getElem_append_left hil]; exact h3 i hil j hj
          · have e : i = len := by simp at hi; omega
            subst e
            rw [List.getElem_append_right (by omega)]
            simp only [h1, Nat.sub_self, List.getElem_cons_zero]
            exact h5 j hj
    obtain ⟨L, h1, h2, h3⟩ := hL
    refine ⟨some a, len, cap, L, hcs, h1, hlc, hcm, fun hne => ?_, h2⟩
    have h0 : 0 < L.length := List.length_pos_iff.2 hne
    obtain ⟨b, off, ha⟩ : ∃ b off, a = ⟨b, off, none⟩ := by
      have := h3 0 h0 0 (by omega)
      obtain ⟨b, off, spot⟩ := a
      have hspot : spot = none := by simpa [Addr.add] using World.cell?_spot this
      exact ⟨b, off, by rw [hspot]⟩
    subst ha
    refine ⟨b, off, rfl, fun i hi => ?_⟩
    have q0 := h3 i hi 0 (by omega)
    have q1 := h3 i hi 1 (by omega)
    have q2 := h3 i hi 2 (by omega)
    rw [Addr.add_lit] at q0 q1 q2
    exact ⟨q0, q1, q2⟩
theorem cells_agg (cs : Array Value) : (Value.agg cs).cells = cs := rfl
/-- A value that came in. -/
theorem value_in {r : Reach} {b0 : Nat} {v : Value} {d : DataW H} {p : List MemPlace} (hv : Value.okWide Tryd.prog w r b0 23 v) (h : DataW.Trod enc Tryd.prog w base spare held 23 v d p) (hl : Lite 23 d) :
    ∃ x : Vl, v = .agg #[.int .i64 x.k, .int .i64 x.n, .string x.s] ∧ x.fits := by
  obtain ⟨fuel, hf⟩ := h
  obtain ⟨cs, rfl, hsz⟩ := okWide_struct Tryd.underlying23 hv
  obtain ⟨x, e, hx⟩ := val_in hf hl
  rw [cells_agg] at e
  refine ⟨x, ?_, hx⟩
  have : cs = x.cells.toArray := by rw [← e]
  rw [this]
  rfl
theorem values_in {r : Reach} {b0 : Nat} {v : Value} {d : DataW H} {p : List MemPlace} (hv : Value.okWide Tryd.prog w r b0 28 v) (h : DataW.Trod enc Tryd.prog w base spare held 28 v d p) (hl : Lite 28 d) :
    ∃ (A : Option Addr) (len cap : Nat) (L : List Vl), v = .slice A len cap ∧ L.length = len ∧ len ≤ cap ∧ cap ≤ maxLen ∧ VRow w A L ∧ ∀ v ∈ L, v.fits := by
  obtain ⟨a, l, c, rfl⟩ := okWide_slice Tryd.underlying28 hv
  obtain ⟨fuel, hf⟩ := h
  obtain ⟨A, len, cap, L, hcs, h⟩ := vals_in hf hl
  simp [Value.cells] at hcs
  obtain ⟨rfl, rfl, rfl⟩ := hcs
  exact ⟨_, _, _, L, rfl, h⟩
/-- Bytes that came in. -/
theorem bytes_in {r : Reach} {b0 : Nat} {v : Value} {d : DataW H} {p : List MemPlace} (hv : Value.okWide Tryd.prog w r b0 39 v) (h : DataW.Trod enc Tryd.prog w base spare held 39 v d p) :
    ∃ (A : Option Addr) (len cap : Nat) (l : List Nat), v = .slice A len cap ∧ l.length = len ∧ len ≤ cap ∧ cap ≤ maxLen ∧ (∀ x ∈ l, x < 256) ∧ Rd w A l ∧ (A = none → cap = 0) := by
  obtain ⟨a, l0, c0, rfl⟩ := okWide_slice Tryd.underlying39 hv
  obtain ⟨fuel, hf⟩ := h
  rcases open_ints Tryd.underlying39 Tryd.underlying5 (by kernel_rfl) hf with ⟨hcs, _⟩ | ⟨x, len, cap, zs, hcs, _, h1, h2, hz, _, hc, hw⟩
  · simp [Value.cells] at hcs
    obtain ⟨rfl, rfl, rfl⟩ := hcs
    exact ⟨none, 0, 0, [], rfl, rfl, Nat.le_refl _, Nat.zero_le _, fun _ h => (by cases h), Rd.nil _ _, fun _ => rfl⟩
  · simp [Value.cells] at hcs
    obtain ⟨rfl, rfl, rfl⟩ := hcs
    have h3 : l0 ≤ zs.length := by
      rw [show zs.length = _ by simpa using hz]
      first | exact h1 | (split <;> omega)
    have hb : ∀ i, i < zs.length → 0 ≤ zs.getD i 0 ∧ zs.getD i 0 ≤ 255 := fun i hi => by
      have := hw (zs.getD i 0) (by rw [List.getD_eq_getElem?_getD, List.getElem?_eq_getElem hi]; exact List.getElem_mem hi)
      exact bounds_u8 this
    refine ⟨some x, l0, c0, (zs.take l0).map Int.toNat, rfl, by rw [List.length_map, List.length_take]; omega, h1, h2, ?_, fun hl => ?_, fun e => by cases e⟩
    · intro y hy
      obtain ⟨z, hz, rfl⟩ := List.mem_map.1 hy
      have := bounds_u8 (hw z (List.mem_of_mem_take hz))
      omega
    · have hp : 0 < zs.length := by
        rcases zs with _ | ⟨z, zs⟩
        · simp at hl
        · simp
      obtain ⟨b, off, rfl, hc'⟩ := ints_at hc hp
      refine ⟨b, off, rfl, fun i hi => ?_⟩
      rw [List.length_map, List.length_take] at hi
      rw [hc' i (by omega)]
      have h0 := hb i (by omega)
      have e : zs.getD i 0 = zs[i]'(by omega) := by rw [List.getD_eq_getElem?_getD, List.getElem?_eq_getElem (by omega)]; rfl
      rw [e] at h0 ⊢
      simp only [bv, List.getElem_map, List.getElem_take, Option.some.injEq, Value.int.injEq, true_and]
      omega
/-- A string that came in. -/
theorem text_in {r : Reach} {b0 : Nat} {v : Value} {d : DataW H} {p : List MemPlace} (hv : Value.okWide Tryd.prog w r b0 9 v) (h : DataW.Trod enc Tryd.prog w base spare held 9 v d p) (hl : Lite 9 d) :
    ∃ s : ByteArray, v = .string s ∧ s.size ≤ 140737488355328 := by
  obtain ⟨s, rfl, rfl, _, _⟩ := Go.ChangeMaps.open_string Tryd.underlying9 hv h
  have := hl s.data.toList.length (by simp [DataW.weights])
  rw [bytes_size] at this
  exact ⟨s, rfl, reach_le this⟩
end
end Go.Proofs.YtlkhijccjjpbbaaDoor
