/-
  Events that come in, read as data.
-/
import Derived.Test.YtcdjeibcnkpadaaDoorArgsK
import Derived.Test.YtcdjeibcnkpadaaDoorArgsS
import Derived.Test.YtcdjeibcnkpadaaDoorWSpoilsW
namespace Go.Proofs.YtcdjeibcnkpadaaDoor.windowSpoils
open Go.ChangeShapes Go.WideShapes Go.RowKit Go.Joins Go.Deep Go.Lib
set_option maxRecDepth 100000
set_option linter.unusedVariables false
set_option linter.unusedSimpArgs false
section
variable {H : Type} {enc : TypeId × Value → H} {w : World} {base : Nat} {spare : Nat → Bool} {held : Bool}
theorem slice_few {t e : TypeId} {z : Nat} {fuel : Nat} {cs : List Value} {x : DataW H × List MemPlace} (ht : Tryd.prog.underlying t = some (.slice e)) (hb : Tryd.prog.bytesOf e = z) (h : DataW.trod enc Tryd.prog w base spare held fuel t cs = some x) (hl : Lite t x.1) {A : Option Addr} {n c : Nat} (hcs : cs = [.slice A n c]) : n * z ≤ 140737488355328 ∧ (A = none → c = 0) := by
  rcases open_slice ht h with ⟨hc, _⟩ | ⟨a, len, cap, m, k, D, Pl, hc, _, hlc, hcm, hm, hx, hel⟩
  · rw [hc] at hcs
    injection hcs with hcs
    injection hcs with e1 e2 e3
    subst e1 e2 e3
    exact ⟨by simp, fun _ => rfl⟩
  · rw [hc] at hcs
    injection hcs with hcs
    injection hcs with e1 e2 e3
    subst e1 e2 e3
    have q := reach_le (hl ((len + (m - len)) * z) (by
      rw [hx]
      simp only [DataW.weights, ht, hb, List.length_map, List.length_range]
      exact List.mem_cons_self))
    refine ⟨Nat.le_trans (Nat.mul_le_mul_right _ (by omega)) q, fun e => by cases e⟩
theorem bytesV : Tryd.prog.bytesOf 68 = 32 := by kernel_rfl
def Ee.arg (w : World) (r : Ee) : Prop := RwAt w r.Ab r.nb r.zb r.B ∧ RwAt w r.Aa r.na r.za r.Af
def EeRow (w : World) (A : Option Addr) (T : List Ee) : Prop := T ≠ [] → ∃ b off, A = some ⟨b, off, none⟩ ∧ ∀ i (h : i < T.length), ∀ j, j < 12 → w.cell? ⟨b, off + i * 12 + j, none⟩ = T[i].row[j]?
theorem row12 (r : Ee) (j : Nat) (hj : j < 12) : ∃ v, r.row[j]? = some v := ⟨r.row[j]'(by simpa [Ee.row] using hj), List.getElem?_eq_getElem _⟩
set_option maxHeartbeats 1000000 in
theorem er_of {fuel : Nat} {cs : List Value} {x : DataW H × List MemPlace} (h : DataW.trod enc Tryd.prog w base spare held fuel 51 cs = some x) (hl : Lite 51 x.1) :
    ∃ r : Ee, cs = r.row ∧ r.arg w := by
  obtain ⟨ek, en, et, Ab, nb, cb, Lb, Aa, na, ca, La, ck, tn, A, len, cap, L, K, cl, e, hek, hen, hB, hA, hL, _⟩ := evt_in h hl
  obtain ⟨xs, k, _, hx, hc, hxl, hf⟩ := DataW.trod_struct Tryd.underlying51 h
  subst e
  match xs, hxl with
  | [y0, y1, y2, y3, y4, y5], _ =>
    have f3 := hf 3 _ rfl
    have f4 := hf 4 _ rfl
    simp [cellsI, cellsS, cellsR, cellsG] at f3 f4
    have q3 := slice_few Tryd.underlying45 bytesV f3 (fun n hn => hl n (by rw [hx]; simp only [DataW.weights, Tryd.underlying51]; simp [DataW.weightsEach]; exact .inr (.inr (.inr (.inl hn))))) rfl
    have q4 := slice_few Tryd.underlying45 bytesV f4 (fun n hn => hl n (by rw [hx]; simp only [DataW.weights, Tryd.underlying51]; simp [DataW.weightsEach]; exact .inr (.inr (.inr (.inr (.inl hn)))))) rfl
    exact ⟨⟨ek, en, et, Ab, nb, cb, Lb, Aa, na, ca, La, ck, tn, A, len, cap, K, cl.nm, cl.k, cl.no⟩, rfl, ⟨hB.1, hB.2.1, hB.2.2.2.1, fun v hv => (hB.2.2.2.2 v hv).1, q3.2⟩, ⟨hA.1, hA.2.1, hA.2.2.2.1, fun v hv => (hA.2.2.2.2 v hv).1, q4.2⟩⟩
theorem cellsEL : Tryd.prog.cellsOf 41 = 1 := by kernel_rfl
theorem evs_of {fuel : Nat} {cs : List Value} {x : DataW H × List MemPlace} (h : DataW.trod enc Tryd.prog w base spare held fuel 41 cs = some x) (hl : Lite 41 x.1) :
    ∃ (A : Option Addr) (len cap : Nat) (L : List Ee), cs = [.slice A len cap] ∧ L.length = len ∧ len ≤ cap ∧ cap ≤ maxLen ∧ EeRow w A L ∧ ∀ r ∈ L, r.arg w := by
  rcases open_slice Tryd.underlying41 h with ⟨hcs, _⟩ | ⟨a, len, cap, m, n, D, Pl, hcs, _, hlc, hcm, hm, hx, hel⟩
  · exact ⟨none, 0, 0, [], hcs, rfl, Nat.le_refl _, Nat.zero_le _, fun h => absurd rfl h, fun _ h => by cases h⟩
  · have hlm : len ≤ m := by rw [hm]; split <;> omega
    have hv : ∀ i, i < len → ∃ v : Ee, v.arg w ∧ ∀ j (hj : j < 12), w.cell? (a.add (i * 12 + j)) = v.row[j]? := by
      intro i hi
      obtain ⟨cs', hc, ht⟩ := hel i (by omega)
      rw [cellsE] at hc
      obtain ⟨_, _, hat⟩ := World.cells?_some hc
      obtain ⟨v, e, hfit⟩ := er_of ht (fun n hn => hl n (by
        rw [hx]
        simp only [DataW.weights, Tryd.underlying41]
        refine List.mem_cons_of_mem _ (List.mem_append_left _ (weights_in (d := D i) ?_ n hn))
        exact List.mem_map.2 ⟨i, List.mem_range.2 hi, rfl⟩))
      refine ⟨v, hfit, fun j hj => ?_⟩
      rw [← Go.Deep.add_add, hat j hj, e]
    have hL : ∃ L : List Ee, L.length = len ∧ (∀ v ∈ L, v.arg w) ∧ ∀ i (hi : i < L.length), ∀ j, j < 12 → w.cell? (a.add (i * 12 + j)) = L[i].row[j]? := by
      clear hx hel hm hlc hlm hcs
      induction len with
      | zero => exact ⟨[], rfl, fun _ h => (by cases h), fun i hi => absurd hi (by simp)⟩
      | succ len ih =>
        obtain ⟨L, h1, h2, h3⟩ := ih (fun i hi => hv i (by omega))
        obtain ⟨v, h4, h5⟩ := hv len (by omega)
        refine ⟨L ++ [v], by simp [h1], fun u hu => ?_, fun i hi j hj => ?_⟩
        · rcases List.mem_append.1 hu with h | h
          · exact h2 u h
          · rw [List.mem_singleton.1 h]; exact h4
        · by_cases hil : i < L.length
          · rw [List.getElem_append_left hil]; exact h3 i hil j hj
          · have e : i = len := by simp at hi; omega
            subst e
            rw [List.getElem_append_right (by omega)]
            simp only [h1, Nat.sub_self, List.getElem_cons_zero]
            exact h5 j hj
    obtain ⟨L, h1, h2, h3⟩ := hL
    refine ⟨some a, len, cap, L, hcs, h1, hlc, hcm, fun hne => ?_, h2⟩
    have h0 : 0 < L.length := List.length_pos_iff.2 hne
    obtain ⟨b, off, ha⟩ : ∃ b off, a = ⟨b, off, none⟩ := by
      have := h3 0 h0 0 (by omega)
      obtain ⟨b, off, spot⟩ := a
      have hspot : spot = none := by
        obtain ⟨v, hv⟩ := row12 L[0] 0 (by omega)
        rw [hv] at this
        simpa [Addr.add] using World.cell?_spot this
      exact ⟨b, off, by rw [hspot]⟩
    subst ha
    refine ⟨b, off, rfl, fun i hi j hj => ?_⟩
    have q := h3 i hi j hj
    rw [Addr.add_lit] at q
    rw [Nat.add_assoc]
    exact q
theorem events_in {r : Reach} {b0 : Nat} {v : Value} {d : DataW H} {p : List MemPlace} (hv : Value.okWide Tryd.prog w r b0 41 v) (h : DataW.Trod enc Tryd.prog w base spare held 41 v d p) (hl : Lite 41 d) :
    ∃ (A : Option Addr) (len cap : Nat) (L : List Ee), v = .slice A len cap ∧ L.length = len ∧ len ≤ cap ∧ cap ≤ maxLen ∧ EeRow w A L ∧ ∀ r ∈ L, r.arg w := by
  obtain ⟨a, l0, c0, rfl⟩ := okWide_slice Tryd.underlying41 hv
  obtain ⟨fuel, hf⟩ := h
  obtain ⟨A, len, cap, L, hcs, rest⟩ := evs_of hf hl
  simp [Value.cells] at hcs
  obtain ⟨rfl, rfl, rfl⟩ := hcs
  exact ⟨_, _, _, L, rfl, rest⟩
theorem events_in2 {r : Reach} {b0 : Nat} {v : Value} {d : DataW H} {p : List MemPlace} (hv : Value.okWide Tryd.prog w r b0 41 v) (h : DataW.Trod enc Tryd.prog w base spare held 41 v d p) (hl : Lite 41 d) :
    ∃ (A : Option Addr) (len cap : Nat) (T : List Ee), v = .slice A len cap ∧ T.length = len ∧ len ≤ cap ∧ EvIn w A T := by
  obtain ⟨A, len, cap, T, e, h1, h2, _, h3, h4⟩ := events_in hv h hl
  exact ⟨A, len, cap, T, e, h1, h2, ⟨h3, h4⟩⟩
end
end Go.Proofs.YtcdjeibcnkpadaaDoor.windowSpoils
