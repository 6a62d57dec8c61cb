/-
  An event that comes in, read as data.
-/
import Derived.Test.YtcdjeibcnkpadaaDoorArgsG
namespace Go.Proofs.YtcdjeibcnkpadaaDoor
open Go.ChangeShapes Go.WideShapes Go.RowKit Go.Joins Go.Deep Go.Lib
set_option maxRecDepth 100000
theorem cellsE : Tryd.prog.cellsOf 51 = 12 := by kernel_rfl
theorem cellsR : Tryd.prog.cellsOf 45 = 1 := by kernel_rfl
section
variable {H : Type} {enc : TypeId × Value → H} {w : World} {base : Nat} {spare : Nat → Bool} {held : Bool}
theorem rvals_in {fuel : Nat} {cs : List Value} {x : DataW H × List MemPlace} (h : DataW.trod enc Tryd.prog w base spare held fuel 45 cs = some x) (hl : Lite 45 x.1) :
    ∃ (A : Option Addr) (len cap : Nat) (L : List Vl), cs = [.slice A len cap] ∧ L.length = len ∧ len ≤ cap ∧ cap ≤ maxLen ∧ VRow w A L ∧ ∀ v ∈ L, v.fits := by
  rcases open_slice Tryd.underlying45 h with ⟨hcs, _⟩ | ⟨a, len, cap, m, n, D, Pl, hcs, _, hlc, hcm, hm, hx, hel⟩
  · exact ⟨none, 0, 0, [], hcs, rfl, Nat.le_refl _, Nat.zero_le _, fun h => absurd rfl h, fun _ h => by cases h⟩
  · have hlm : len ≤ m := by rw [hm]; split <;> omega
    have hv : ∀ i, i < len → ∃ v : Vl, v.fits ∧ ∀ j (hj : j < 3), w.cell? (a.add (i * 3 + j)) = v.cells[j]? := by
      intro i hi
      obtain ⟨cs', hc, ht⟩ := hel i (by omega)
      rw [cellsV] at hc
      obtain ⟨_, _, hat⟩ := World.cells?_some hc
      obtain ⟨v, e, hfit⟩ := val_in ht (fun n hn => hl n (by
        rw [hx]
        simp only [DataW.weights, Tryd.underlying45]
        refine List.mem_cons_of_mem _ (List.mem_append_left _ (weights_in (d := D i) ?_ n hn))
        exact List.mem_map.2 ⟨i, List.mem_range.2 hi, rfl⟩))
      refine ⟨v, hfit, fun j hj => ?_⟩
      rw [← Go.Deep.add_add, hat j hj, e]
    have hL : ∃ L : List Vl, L.length = len ∧ (∀ v ∈ L, v.fits) ∧ ∀ i (hi : i < L.length), ∀ j, j < 3 → w.cell? (a.add (i * 3 + j)) = L[i].cells[j]? := by
      clear hx hel hm hlc hlm hcs
      induction len with
      | zero => exact ⟨[], rfl, fun _ h => (by cases h), fun i hi => absurd hi (by simp)⟩
      | succ len ih =>
        obtain ⟨L, h1, h2, h3⟩ := ih (fun i hi => hv i (by omega))
        obtain ⟨v, h4, h5⟩ := hv len (by omega)
        refine ⟨L ++ [v], by simp [h1], fun u hu => ?_, fun i hi j hj => ?_⟩
        · rcases List.mem_append.1 hu with h | h
          · exact h2 u h
          · rw [List.mem_singleton.1 h]; exact h4
        · by_cases hil : i < L.length
          · rw [List.getElem_append_left hil]; exact h3 i hil j hj
          · have e : i = len := by simp at hi; omega
            subst e
            rw [List.getElem_append_right (by omega)]
            simp only [h1, Nat.sub_self, List.getElem_cons_zero]
            exact h5 j hj
    obtain ⟨L, h1, h2, h3⟩ := hL
    refine ⟨some a, len, cap, L, hcs, h1, hlc, hcm, fun hne => ?_, h2⟩
    have h0 : 0 < L.length := List.length_pos_iff.2 hne
    obtain ⟨b, off, ha⟩ : ∃ b off, a = ⟨b, off, none⟩ := by
      have := h3 0 h0 0 (by omega)
      obtain ⟨b, off, spot⟩ := a
      have hspot : spot = none := by simpa [Addr.add] using World.cell?_spot this
      exact ⟨b, off, by rw [hspot]⟩
    subst ha
    refine ⟨b, off, rfl, fun i hi => ?_⟩
    have q0 := h3 i hi 0 (by omega)
    have q1 := h3 i hi 1 (by omega)
    have q2 := h3 i hi 2 (by omega)
    rw [Addr.add_lit] at q0 q1 q2
    exact ⟨q0, q1, q2⟩

set_option maxRecDepth 100000 in
theorem chgS_in {fuel : Nat} {cs : List Value} {x : DataW H × List MemPlace} (h : DataW.trod enc Tryd.prog w base spare held fuel 49 cs = some x) (hl : Lite 49 x.1) :
    ∃ (ck : Int) (tn : ByteArray) (A : Option Addr) (len cap : Nat) (L : List Cl) (K : Int) (cl : Cl), cs = [.int .i64 ck, .string tn, .slice A len cap, .int .i64 K, .string cl.nm, .int .i64 cl.k, .bool cl.no] ∧ (L.length = len ∧ len ≤ cap ∧ cap ≤ maxLen ∧ CRow w A L ∧ ∀ v ∈ L, v.fit) ∧ cl.fit ∧ tn.size ≤ 140737488355328 := by
  obtain ⟨xs, n, _, hx, hc, hxl, hf⟩ := DataW.trod_struct Tryd.underlying49 h
  rw [cellsG] at hc
  match cs, hc with
  | [c0, c1, c2, c3, c4, c5, c6], _ =>
    match xs, hxl with
    | [y0, y1, y2, y3], _ =>
      have f0 := hf 0 _ rfl
      have f1 := hf 1 _ rfl
      have f2 := hf 2 _ rfl
      have f3 := hf 3 _ rfl
      simp [cellsI, cellsS, cellsH, cellsC] at f0 f1 f2 f3
      obtain ⟨ck, e0, _, _⟩ := DataW.trod_int Tryd.underlying3 f0
      obtain ⟨tn, e1, ey, _⟩ := DataW.trod_string Tryd.underlying9 f1
      have hsz := hl tn.data.toList.length (by rw [hx]; simp [DataW.weights, Tryd.underlying49, DataW.weightsEach, ey])
      rw [bytes_size] at hsz
      obtain ⟨A, len, cap, L, K, e2, hL, _, _⟩ := sch_in f2 (fun n hn => hl n (by rw [hx]; simp only [DataW.weights, Tryd.underlying49]; simp [DataW.weightsEach]; exact .inr (.inr (.inl hn))))
      obtain ⟨cl, e3, hcl⟩ := col_in f3 (fun n hn => hl n (by rw [hx]; simp only [DataW.weights, Tryd.underlying49]; simp [DataW.weightsEach]; exact .inr (.inr (.inr hn))))
      simp [Cl.cells] at e0 e1 e2 e3
      obtain ⟨e2, e22⟩ := e2
      obtain ⟨e3, e32, e33⟩ := e3
      subst e0 e1 e2 e22 e3 e32 e33
      exact ⟨ck, tn, A, len, cap, L, K, cl, rfl, hL, hcl, reach_le hsz⟩
/-- A row of values that came in. -/
def RowIn (w : World) (A : Option Addr) (n c : Nat) (L : List Vl) : Prop := L.length = n ∧ n ≤ c ∧ c ≤ maxLen ∧ VRow w A L ∧ ∀ v ∈ L, v.fits
set_option maxHeartbeats 1000000 in
theorem evt_in {fuel : Nat} {cs : List Value} {x : DataW H × List MemPlace} (h : DataW.trod enc Tryd.prog w base spare held fuel 51 cs = some x) (hl : Lite 51 x.1) :
    ∃ (ek en : Int) (et : ByteArray) (Ab : Option Addr) (nb cb : Nat) (Lb : List Vl) (Aa : Option Addr) (na ca : Nat) (La : List Vl) (ck : Int) (tn : ByteArray) (A : Option Addr) (len cap : Nat) (L : List Cl) (K : Int) (cl : Cl), cs = [.int .i64 ek, .int .i64 en, .string et, .slice Ab nb cb, .slice Aa na ca, .int .i64 ck, .string tn, .slice A len cap, .int .i64 K, .string cl.nm, .int .i64 cl.k, .bool cl.no] ∧ (-9223372036854775808 ≤ ek ∧ ek ≤ 9223372036854775807) ∧ (-9223372036854775808 ≤ en ∧ en ≤ 9223372036854775807) ∧ RowIn w Ab nb cb Lb ∧ RowIn w Aa na ca La ∧ (L.length = len ∧ len ≤ cap ∧ cap ≤ maxLen ∧ CRow w A L ∧ ∀ v ∈ L, v.fit) ∧ (cl.fit ∧ tn.size ≤ 140737488355328) ∧ et.size ≤ 140737488355328 := by
  obtain ⟨xs, n, _, hx, hc, hxl, hf⟩ := DataW.trod_struct Tryd.underlying51 h
  rw [cellsE] at hc
  match cs, hc with
  | [c0, c1, c2, c3, c4, c5, c6, c7, c8, c9, c10, c11], _ =>
    match xs, hxl with
    | [y0, y1, y2, y3, y4, y5], _ =>
      have f0 := hf 0 _ rfl
      have f1 := hf 1 _ rfl
      have f2 := hf 2 _ rfl
      have f3 := hf 3 _ rfl
      have f4 := hf 4 _ rfl
      have f5 := hf 5 _ rfl
      simp [cellsI, cellsS, cellsR, cellsG] at f0 f1 f2 f3 f4 f5
      obtain ⟨ek, e0, _, hek⟩ := DataW.trod_int Tryd.underlying3 f0
      obtain ⟨en, e1, _, hen⟩ := DataW.trod_int Tryd.underlying3 f1
      obtain ⟨et, e2, ey, _⟩ := DataW.trod_string Tryd.underlying9 f2
      have hsz := hl et.data.toList.length (by rw [hx]; simp [DataW.weights, Tryd.underlying51, DataW.weightsEach, ey])
      rw [bytes_size] at hsz
      obtain ⟨Ab, nb, cb, Lb, e3, hB⟩ := rvals_in f3 (fun n hn => hl n (by rw [hx]; simp only [DataW.weights, Tryd.underlying51]; simp [DataW.weightsEach]; exact .inr (.inr (.inr (.inl hn)))))
      obtain ⟨Aa, na, ca, La, e4, hA⟩ := rvals_in f4 (fun n hn => hl n (by rw [hx]; simp only [DataW.weights, Tryd.underlying51]; simp [DataW.weightsEach]; exact .inr (.inr (.inr (.inr (.inl hn))))))
      obtain ⟨ck, tn, A, len, cap, L, K, cl, e5, hL, hcl⟩ := chgS_in f5 (fun n hn => hl n (by rw [hx]; simp only [DataW.weights, Tryd.underlying51]; simp [DataW.weightsEach]; exact .inr (.inr (.inr (.inr (.inr hn))))))
      simp at e0 e1 e2 e3 e4 e5
      obtain ⟨e5, e6, e7, e8, e9, e10, e11⟩ := e5
      subst e0 e1 e2 e3 e4 e5 e6 e7 e8 e9 e10 e11
      exact ⟨ek, en, et, Ab, nb, cb, Lb, Aa, na, ca, La, ck, tn, A, len, cap, L, K, cl, rfl, bounds_int hek, bounds_int hen, hB, hA, hL, hcl, reach_le hsz⟩
/-- An event that came in. -/
theorem event_in {r : Reach} {b0 : Nat} {v : Value} {d : DataW H} {p : List MemPlace} (hv : Value.okWide Tryd.prog w r b0 51 v) (h : DataW.Trod enc Tryd.prog w base spare held 51 v d p) (hl : Lite 51 d) :
    ∃ (ek en : Int) (et : ByteArray) (Ab : Option Addr) (nb cb : Nat) (Lb : List Vl) (Aa : Option Addr) (na ca : Nat) (La : List Vl) (ck : Int) (tn : ByteArray) (A : Option Addr) (len cap : Nat) (L : List Cl) (K : Int) (cl : Cl), v = .agg #[.int .i64 ek, .int .i64 en, .string et, .slice Ab nb cb, .slice Aa na ca, .int .i64 ck, .string tn, .slice A len cap, .int .i64 K, .string cl.nm, .int .i64 cl.k, .bool cl.no] ∧ (-9223372036854775808 ≤ ek ∧ ek ≤ 9223372036854775807) ∧ (-9223372036854775808 ≤ en ∧ en ≤ 9223372036854775807) ∧ RowIn w Ab nb cb Lb ∧ RowIn w Aa na ca La ∧ (L.length = len ∧ len ≤ cap ∧ cap ≤ maxLen ∧ CRow w A L ∧ ∀ v ∈ L, v.fit) ∧ (cl.fit ∧ tn.size ≤ 140737488355328) ∧ et.size ≤ 140737488355328 := by
  obtain ⟨fuel, hf⟩ := h
  obtain ⟨cs, rfl, hsz⟩ := okWide_struct Tryd.underlying51 hv
  obtain ⟨ek, en, et, Ab, nb, cb, Lb, Aa, na, ca, La, ck, tn, A, len, cap, L, K, cl, e, hL⟩ := evt_in hf hl
  rw [cells_agg] at e
  refine ⟨ek, en, et, Ab, nb, cb, Lb, Aa, na, ca, La, ck, tn, A, len, cap, L, K, cl, ?_, hL⟩
  have : cs = #[.int .i64 ek, .int .i64 en, .string et, .slice Ab nb cb, .slice Aa na ca, .int .i64 ck, .string tn, .slice A len cap, .int .i64 K, .string cl.nm, .int .i64 cl.k, .bool cl.no] := by
    apply Array.ext'
    rw [e]
  rw [this]
end
end Go.Proofs.YtcdjeibcnkpadaaDoor
