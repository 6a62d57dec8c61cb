/-
  Rows of values of the call's own.
-/
import Derived.Test.YtcdjeibcnkpadaaDoorKeyD
namespace Go.Proofs.YtcdjeibcnkpadaaDoor
open Go.RowKit Dg
/-- Both its numbers are ones of 64 bits. -/
def Vl.fits (x : Vl) : Prop := x.fit ∧ -9223372036854775808 ≤ x.k ∧ x.k ≤ 9223372036854775807
theorem infoV : (Tryd.prog.info? 68).map (fun i => (i.zero, i.size, i.bytes)) = some (some (.agg #[.int .i64 0, .int .i64 0, .string ⟨#[]⟩]), 3, 32) := by kernel_rfl
/-- Values in a row of the call's own. -/
def OwnV (B : Nat) (w : World) (v : Value) (L : List Vl) : Prop := w.ownsRow B 68 3 v L.length (L.flatMap Vl.cells)
theorem ownV_nil (B : Nat) (w : World) : OwnV B w (.slice none 0 0) [] := World.ownsRow_nil _ _ _ _
theorem OwnV.below {B : Nat} {w w' : World} {v : Value} {L : List Vl} (h : OwnV B w v L) (hb : Below w.heap.size w w') : OwnV B w' v L := by
  rcases h.2 with ⟨hv, hn⟩ | ⟨g, cap, cur, hv, hg, hh, hc, hcm, hsz, ht⟩
  · exact ⟨h.1, .inl ⟨hv, hn⟩⟩
  · exact ⟨h.1, .inr ⟨g, cap, cur, hv, hg, Has.below (t := 68) (cs := cur) hh hb (Has.lt (t := 68) (cs := cur) hh), hc, hcm, hsz, ht⟩⟩
theorem flat_len (L : List Vl) : (L.flatMap Vl.cells).length = L.length * 3 := by
  induction L with
  | nil => rfl
  | cons x L ih => rw [List.flatMap_cons, List.length_append, ih]; simp [Vl.cells]; omega
theorem flat_get (L : List Vl) (i j : Nat) (h : i < L.length) (hj : j < 3) : (L.flatMap Vl.cells)[i * 3 + j]? = L[i].cells[j]? := by
  induction L generalizing i with
  | nil => simp at h
  | cons x L ih =>
    rw [List.flatMap_cons]
    rcases i with _ | i
    · rw [List.getElem?_append_left (by simp [Vl.cells]; omega)]
      simp
    · rw [List.getElem?_append_right (by simp [Vl.cells]; omega)]
      have e : (i + 1) * 3 + j - x.cells.length = i * 3 + j := by simp [Vl.cells]; omega
      rw [e, ih i (by simpa using h)]
      simp
theorem ownV_row {B : Nat} {w : World} {v : Value} {L : List Vl} (h : OwnV B w v L) : ∃ A c, v = .slice A L.length c ∧ L.length ≤ c ∧ c ≤ maxLen ∧ VRow w A L ∧ (A = none → c = 0) := by
  rcases h.2 with ⟨hv, hn⟩ | ⟨g, cap, cur, hv, _, hh, hc, hcm, hsz, ht⟩
  · obtain rfl := List.eq_nil_of_length_eq_zero hn
    exact ⟨none, 0, hv, Nat.le_refl _, Nat.zero_le _, fun h => absurd rfl h, fun _ => rfl⟩
  · refine ⟨_, _, hv, hc, hcm, fun _ => ⟨g, 0, rfl, fun i hi => ?_⟩, fun e => by cases e⟩
    have hq : ∀ j, j < 3 → w.cell? ⟨g, 0 + (i * 3 + j), none⟩ = L[i].cells[j]? := fun j hj => by
      rw [Nat.zero_add, Has.cell (t := 68) (cs := cur) hh, ← flat_get L i j hi hj, ← ht, List.getElem?_take, if_pos (by omega)]
      simp
    have q0 := hq 0 (by omega)
    have q1 := hq 1 (by omega)
    have q2 := hq 2 (by omega)
    exact ⟨q0, q1, q2⟩
/-- One value is put behind a row of the call's own. -/
theorem appV (w : World) (g : Nat) (hg0 : g = w.heap.size) (B : Nat) (v : Value) (L : List Vl) (x : Vl) (h : OwnV B w v L) (hB : B ≤ w.heap.size) (hl : L.length ≤ 1000) :
    ∃ R W', (Builtin.append_ #[44, 44] 44 #[v, .slice (some ⟨g, 0, none⟩) 1 1]).run Tryd.prog (w.alloc (.cells #[.int .i64 x.k, .int .i64 x.n, .string x.s] 68)) = .ok R W' ∧ OwnV B W' R (L ++ [x]) ∧ Below B w W' := by
  subst hg0
  obtain ⟨i0, hi, hz0, hz1, hz2⟩ := info_parts infoV
  obtain ⟨R, W', hrun, hown, hg, _⟩ := run_append_own (P := Tryd.prog) (w.alloc (.cells x.cells.toArray 68)) B 44 44 68 i0 _ 3 32 Tryd.underlying44 hi hz0 hz1 hz2 rfl (by decide) v L.length (L.flatMap Vl.cells) (h.alloc _)
    ⟨w.heap.size, 0, none⟩ 1 1 x.cells rfl (fun j u hj => by
      have := (Has.new w 68 x.cells.toArray).cell j
      rw [List.getElem?_toArray] at this
      rw [Addr.add_lit, Nat.zero_add]
      exact this.trans hj) (fun u hu => by simp [Vl.cells] at hu; rcases hu with rfl | rfl | rfl <;> rfl) (by unfold maxLen; omega) (by omega) (by simp; omega)
  refine ⟨R, W', hrun, ?_, ?_⟩
  · unfold OwnV; rw [List.flatMap_append, List.length_append]; simpa using hown
  · exact ((Below.refl B w).alloc hB _).grown hg (by simp; omega) fun k hk => (World.ownsRow.lt h k hk).1
end Go.Proofs.YtcdjeibcnkpadaaDoor
