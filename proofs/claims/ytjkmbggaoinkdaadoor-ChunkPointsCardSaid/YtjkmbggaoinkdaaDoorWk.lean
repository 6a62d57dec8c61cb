/-
  Rows of works: at an address, and of the call's own.
-/
import Derived.Test.YtjkmbggaoinkdaaDoorStr
import Derived.OwnWalk
import Derived.Laws.AppendOwnNone
import Derived.Laws.OwnMore
namespace Go.Proofs.YtjkmbggaoinkdaaDoor
open Go.RowKit Dg
set_option maxRecDepth 100000
/-- A work: its table, is it done, its key. -/
structure Wk where
  t : ByteArray
  d : Bool
  k : ByteArray
/-- The cells at A read as the works T. -/
def WRow (w : World) (A : Option Addr) (T : List Wk) : Prop :=
  T ≠ [] → ∃ b off, A = some ⟨b, off, none⟩ ∧ ∀ i (h : i < T.length), w.cell? ⟨b, off + i * 3, none⟩ = some (.string T[i].t) ∧ w.cell? ⟨b, off + i * 3 + 1, none⟩ = some (.bool T[i].d) ∧ w.cell? ⟨b, off + i * 3 + 2, none⟩ = some (.string T[i].k)
theorem WRow.below {w w' : World} {A : Option Addr} {T : List Wk} (h : WRow w A T) (hb : Below w.heap.size w w') : WRow w' A T := fun hne => by
  obtain ⟨b, off, e, hc⟩ := h hne
  have k := fun (a : Addr) (v : Value) (h : w.cell? a = some v) => (hb.cell (World.block_lt_of_cell? _ _ h)).trans h
  exact ⟨b, off, e, fun i hi => ⟨k _ _ (hc i hi).1, k _ _ (hc i hi).2.1, k _ _ (hc i hi).2.2⟩⟩
theorem WRow.nil (w : World) (A : Option Addr) : WRow w A [] := fun h => absurd rfl h
theorem keepW {W W' : World} {a : Addr} {v : Value} (hb : Below W.heap.size W W') (h : W.cell? a = some v) : W'.cell? a = some v := (hb.cell (World.block_lt_of_cell? _ _ h)).trans h
def Wk.row (x : Wk) : List Value := [.string x.t, .bool x.d, .string x.k]
theorem infoW : (Tryd.prog.info? 75).map (fun i => (i.zero, i.size, i.bytes)) = some (some (.agg #[.string ⟨#[]⟩, .bool false, .string ⟨#[]⟩]), 3, 40) := by kernel_rfl
/-- Columns in a row of the call's own. -/
def OwnW (B : Nat) (w : World) (v : Value) (L : List Wk) : Prop := w.ownsRow B 75 3 v L.length (L.flatMap Wk.row)
theorem ownW_nil (B : Nat) (w : World) : OwnW B w (.slice none 0 0) [] := World.ownsRow_nil _ _ _ _
theorem OwnW.below {B : Nat} {w w' : World} {v : Value} {L : List Wk} (h : OwnW B w v L) (hb : Below w.heap.size w w') : OwnW B w' v L := by
  rcases h.2 with ⟨hv, hn⟩ | ⟨g, cap, cur, hv, hg, hh, hc, hcm, hsz, ht⟩
  · exact ⟨h.1, .inl ⟨hv, hn⟩⟩
  · exact ⟨h.1, .inr ⟨g, cap, cur, hv, hg, Has.below (t := 75) (cs := cur) hh hb (Has.lt (t := 75) (cs := cur) hh), hc, hcm, hsz, ht⟩⟩
theorem wflat_len (L : List Wk) : (L.flatMap Wk.row).length = L.length * 3 := by
  induction L with
  | nil => rfl
  | cons x L ih => rw [List.flatMap_cons, List.length_append, ih]; simp [Wk.row]; omega
theorem wflat_get (L : List Wk) (i j : Nat) (h : i < L.length) (hj : j < 3) : (L.flatMap Wk.row)[i * 3 + j]? = L[i].row[j]? := by
  induction L generalizing i with
  | nil => simp at h
  | cons x L ih =>
    rw [List.flatMap_cons]
    rcases i with _ | i
    · rw [List.getElem?_append_left (by simp [Wk.row]; omega)]
      simp
    · rw [List.getElem?_append_right (by simp [Wk.row]; omega)]
      have e : (i + 1) * 3 + j - x.row.length = i * 3 + j := by simp [Wk.row]; omega
      rw [e, ih i (by simpa using h)]
      simp
theorem ownW_row {B : Nat} {w : World} {v : Value} {L : List Wk} (h : OwnW B w v L) : ∃ A c, v = .slice A L.length c ∧ L.length ≤ c ∧ c ≤ maxLen ∧ WRow w A L ∧ (A = none → c = 0) := by
  rcases h.2 with ⟨hv, hn⟩ | ⟨g, cap, cur, hv, _, hh, hc, hcm, hsz, ht⟩
  · obtain rfl := List.eq_nil_of_length_eq_zero hn
    exact ⟨none, 0, hv, Nat.le_refl _, Nat.zero_le _, fun h => absurd rfl h, fun _ => rfl⟩
  · refine ⟨_, _, hv, hc, hcm, fun _ => ⟨g, 0, rfl, fun i hi => ?_⟩, fun e => by cases e⟩
    have hq : ∀ j, j < 3 → w.cell? ⟨g, 0 + (i * 3 + j), none⟩ = L[i].row[j]? := fun j hj => by
      rw [Nat.zero_add, Has.cell (t := 75) (cs := cur) hh, ← wflat_get L i j hi hj, ← ht, List.getElem?_take, if_pos (by omega)]
      simp
    have q0 := hq 0 (by omega)
    have q1 := hq 1 (by omega)
    have q2 := hq 2 (by omega)
    exact ⟨q0, q1, q2⟩
/-- One column is put behind a row of the call's own. -/
theorem appW (w : World) (g : Nat) (hg0 : g = w.heap.size) (B : Nat) (v : Value) (L : List Wk) (x : Wk) (h : OwnW B w v L) (hB : B ≤ w.heap.size) (hl : L.length ≤ 1000) :
    ∃ R W', (Builtin.append_ #[41, 41] 41 #[v, .slice (some ⟨g, 0, none⟩) 1 1]).run Tryd.prog (w.alloc (.cells #[.string x.t, .bool x.d, .string x.k] 75)) = .ok R W' ∧ OwnW B W' R (L ++ [x]) ∧ Below B w W' := by
  subst hg0
  obtain ⟨i0, hi, hz0, hz1, hz2⟩ := info_parts infoW
  obtain ⟨R, W', hrun, hown, hg, _⟩ := run_append_own (P := Tryd.prog) (w.alloc (.cells x.row.toArray 75)) B 41 41 75 i0 _ 3 40 Tryd.underlying41 hi hz0 hz1 hz2 rfl (by decide) v L.length (L.flatMap Wk.row) (h.alloc _)
    ⟨w.heap.size, 0, none⟩ 1 1 x.row rfl (fun j u hj => by
      have := (Has.new w 75 x.row.toArray).cell j
      rw [List.getElem?_toArray] at this
      rw [Addr.add_lit, Nat.zero_add]
      exact this.trans hj) (fun u hu => by simp [Wk.row] at hu; rcases hu with rfl | rfl | rfl <;> rfl) (by unfold maxLen; omega) (by omega) (by simp; omega)
  refine ⟨R, W', hrun, ?_, ?_⟩
  · unfold OwnW; rw [List.flatMap_append, List.length_append]; simpa using hown
  · exact ((Below.refl B w).alloc hB _).grown hg (by simp; omega) fun k hk => (World.ownsRow.lt h k hk).1
theorem wrow_cell {w : World} {b off : Nat} {M : List Wk} (h : ∀ i (h : i < M.length), w.cell? ⟨b, off + i * 3, none⟩ = some (.string M[i].t) ∧ w.cell? ⟨b, off + i * 3 + 1, none⟩ = some (.bool M[i].d) ∧ w.cell? ⟨b, off + i * 3 + 2, none⟩ = some (.string M[i].k)) (j : Nat) (u : Value) (hj : (M.flatMap Wk.row)[j]? = some u) : w.cell? ⟨b, off + j, none⟩ = some u := by
  have hjl : j < M.length * 3 := by
    have := (List.getElem?_eq_some_iff.1 hj).1
    rwa [wflat_len] at this
  have hi : j / 3 < M.length := by omega
  have e : j = j / 3 * 3 + j % 3 := by omega
  have hr : j % 3 = 0 ∨ j % 3 = 1 ∨ j % 3 = 2 := by omega
  rw [e, wflat_get M (j / 3) (j % 3) hi (by omega)] at hj
  obtain ⟨h0, h1, h2⟩ := h (j / 3) hi
  rw [e]
  rcases hr with hr | hr | hr <;> rw [hr] at hj ⊢
  · rw [← hj]; exact h0
  · rw [← hj]; exact h1
  · rw [← hj]; exact h2
/-- A row of columns is put behind one of the call's own. -/
theorem appWs (w : World) (B : Nat) (v : Value) (L : List Wk) (h : OwnW B w v L) (hB : B ≤ w.heap.size) (A : Option Addr) (M : List Wk) (n c : Nat) (hn : M.length = n) (hA : WRow w A M) (h0 : A = none → c = 0) (hl : L.length + n ≤ 1000) :
    ∃ R W', (Builtin.append_ #[41, 41] 41 #[v, .slice A n c]).run Tryd.prog w = .ok R W' ∧ OwnW B W' R (L ++ M) ∧ Below B w W' := by
  subst hn
  obtain ⟨i0, hi, hz0, hz1, hz2⟩ := info_parts infoW
  by_cases hM : M = []
  · subst hM
    rcases A with _ | a
    · rw [h0 rfl, List.append_nil]
      exact ⟨v, w, run_append_owned_none w B 41 41 75 i0 3 Tryd.underlying41 hi v _ _ h, h, Below.refl _ _⟩
    · obtain ⟨R, W', hrun, hown, hg, _⟩ := run_append_own (P := Tryd.prog) w B 41 41 75 i0 _ 3 40 Tryd.underlying41 hi hz0 hz1 hz2 rfl (by decide) v L.length (L.flatMap Wk.row) h
        a 0 c [] rfl (fun j u hj => by simp at hj) (fun u hu => by cases hu) (by unfold maxLen; omega) (by omega) hB
      refine ⟨R, W', hrun, ?_, (Below.refl B w).grown hg hB fun k hk => (World.ownsRow.lt h k hk).1⟩
      unfold OwnW; simpa using hown
  · obtain ⟨b, off, rfl, hc⟩ := hA hM
    obtain ⟨R, W', hrun, hown, hg, _⟩ := run_append_own (P := Tryd.prog) w B 41 41 75 i0 _ 3 40 Tryd.underlying41 hi hz0 hz1 hz2 rfl (by decide) v L.length (L.flatMap Wk.row) h
      ⟨b, off, none⟩ M.length c (M.flatMap Wk.row) (by rw [wflat_len]) (fun j u hj => by rw [Addr.add_lit]; exact wrow_cell hc j u hj) (fun u hu => by
        obtain ⟨x, _, hx⟩ := List.mem_flatMap.1 hu
        simp [Wk.row] at hx; rcases hx with rfl | rfl | rfl <;> rfl) (by unfold maxLen; omega) (by omega) hB
    refine ⟨R, W', hrun, ?_, (Below.refl B w).grown hg hB fun k hk => (World.ownsRow.lt h k hk).1⟩
    unfold OwnW; rw [List.flatMap_append, List.length_append]; exact hown
/-- A row of the call's own, its length under a letter. -/
theorem ownW_open {B : Nat} {w : World} {v : Value} {L : List Wk} (h : OwnW B w v L) : ∃ A n c, v = .slice A n c ∧ Hid (L.length = n) ∧ n ≤ c ∧ c ≤ maxLen ∧ Hid (WRow w A L) ∧ Hid (A = none → c = 0) := by
  obtain ⟨A, c, e, h1, h2, h3, h4⟩ := ownW_row h
  exact ⟨A, L.length, c, e, rfl, h1, h2, h3, h4⟩
theorem wflat_set (L : List Wk) (i j : Nat) (u : Value) (x : Wk) (hi : i < L.length) (hj : j < 3) (hx : x.row = L[i].row.set j u) : (L.flatMap Wk.row).set (i * 3 + j) u = (L.set i x).flatMap Wk.row := by
  induction L generalizing i with
  | nil => simp at hi
  | cons y L ih =>
    rcases i with _ | i
    · simp only [List.getElem_cons_zero] at hx
      rw [List.flatMap_cons, List.set_cons_zero, List.flatMap_cons, hx, Nat.zero_mul, Nat.zero_add]
      rw [List.set_append_left _ _ (by simp [Wk.row]; omega)]
    · simp only [List.getElem_cons_succ] at hx
      rw [List.flatMap_cons, List.set_cons_succ, List.flatMap_cons, ← ih i (by simpa using hi) hx]
      rw [List.set_append_right _ _ (by simp [Wk.row]; omega)]
      have e : (i + 1) * 3 + j - y.row.length = i * 3 + j := by simp [Wk.row]; omega
      rw [e]
theorem ownW_put {B : Nat} {w : World} {v : Value} {L : List Wk} (h : OwnW B w v L) (i : Nat) (hi : i < L.length) (j : Nat) (hj : j < 3) (u : Value) (x : Wk) (hx : x.row = L[i].row.set j u) :
    ∃ g c, v = .slice (some ⟨g, 0, none⟩) L.length c ∧ B ≤ g ∧ L.length ≤ c ∧ w.frozen? ⟨g, i * 3 + j, none⟩ = false ∧ w.cell? ⟨g, i * 3 + j, none⟩ = L[i].row[j]? ∧ OwnW B (w.setCell ⟨g, i * 3 + j, none⟩ u) v (L.set i x) := by
  rcases h.2 with ⟨hv, hn⟩ | ⟨g, cap, cur, hv, hg, hh, hc, hcm, hsz, ht⟩
  · omega
  · refine ⟨g, cap, hv, hg, hc, Has.free (t := 75) (cs := cur) hh _, ?_, ?_⟩
    · rw [Has.cell (t := 75) (cs := cur) hh, ← wflat_get L i j hi hj, ← ht, List.getElem?_take, if_pos (by omega)]
      simp
    · refine ⟨by rw [wflat_len], .inr ⟨g, cap, cur.setIfInBounds (i * 3 + j) u, by rw [List.length_set]; exact hv, hg, Has.put (t := 75) (cs := cur) hh (i * 3 + j) u, by rw [List.length_set]; exact hc, hcm, by simpa using hsz, ?_⟩⟩
      rw [List.length_set, ← wflat_set L i j u x hi hj hx, ← ht, Array.toList_setIfInBounds, List.take_set]
theorem WRow.drop {w : World} {b off : Nat} {L : List Wk} (h : WRow w (some ⟨b, off, none⟩) L) (k : Nat) : WRow w (some ⟨b, off + k * 3, none⟩) (L.drop k) := fun hl => by
  obtain ⟨b', off', e, hc⟩ := h (by rintro rfl; simp at hl)
  injection e with e
  injection e with e1 e2
  subst e1 e2
  refine ⟨b, off + k * 3, rfl, fun i hi => ?_⟩
  rw [List.length_drop] at hi
  obtain ⟨h0, h1, h2⟩ := hc (k + i) (by omega)
  rw [List.getElem_drop]
  have e : off + (k + i) * 3 = off + k * 3 + i * 3 := by omega
  rw [e] at h0 h1 h2
  exact ⟨h0, h1, h2⟩
theorem WRow.take {w : World} {A : Option Addr} {L : List Wk} (h : WRow w A L) (k : Nat) : WRow w A (L.take k) := fun hl => by
  obtain ⟨b, off, e, hc⟩ := h (by rintro rfl; simp at hl)
  refine ⟨b, off, e, fun i hi => ?_⟩
  rw [List.length_take] at hi
  rw [List.getElem_take]
  exact hc i (by omega)
theorem WRow.one (w : World) (x : Wk) : WRow (w.alloc (.cells #[.string x.t, .bool x.d, .string x.k] 75)) (some ⟨w.heap.size, 0, none⟩) [x] := fun _ => ⟨w.heap.size, 0, rfl, fun i hi => by
  have hh := Has.new w 75 #[.string x.t, .bool x.d, .string x.k]
  obtain rfl : i = 0 := by simpa using hi
  exact ⟨hh.cell 0, hh.cell 1, hh.cell 2⟩⟩
theorem OwnW.drew {B : Nat} {w : World} {v : Value} {L : List Wk} (h : OwnW B w v L) : OwnW B w.drew v L := h.below ((Below.refl _ w).drew)
theorem OwnW.off0 {B : Nat} {w : World} {g off n c : Nat} {L : List Wk} (h : OwnW B w (.slice (some ⟨g, off, none⟩) n c) L) : off = 0 := by
  rcases h.2 with ⟨hv, _⟩ | ⟨g2, cap, cur, hv, _⟩
  · cases hv
  · injection hv with e1 _ _
    injection e1 with e1
    injection e1
theorem ownW_put2 {B : Nat} {w : World} {g n c : Nat} {L : List Wk} (h : OwnW B w (.slice (some ⟨g, 0, none⟩) n c) L) (i : Nat) (hi : i < L.length) (j : Nat) (hj : j < 3) (u : Value) (x : Wk) (hx : x.row = L[i].row.set j u) :
    B ≤ g ∧ w.frozen? ⟨g, i * 3 + j, none⟩ = false ∧ OwnW B (w.setCell ⟨g, i * 3 + j, none⟩ u) (.slice (some ⟨g, 0, none⟩) n c) (L.set i x) := by
  obtain ⟨g2, c2, hv, hB, _, hf, _, ho⟩ := ownW_put h i hi j hj u x hx
  injection hv with e1 e2 e3
  injection e1 with e1
  injection e1 with e1
  subst e1
  exact ⟨hB, hf, ho⟩
theorem OwnW.row {B : Nat} {w : World} {v : Value} {L : List Wk} (h : OwnW B w v L) {A : Option Addr} {n c : Nat} (hv : v = .slice A n c) : WRow w A L := by
  obtain ⟨A2, c2, e, _, _, hr, _⟩ := ownW_row h
  rw [hv] at e
  injection e with e1 _ _
  rw [e1]; exact hr
theorem ownW_down {B B' : Nat} {w : World} {v : Value} {l : List Wk} (h : OwnW B w v l) (hb : B' ≤ B) : OwnW B' w v l := by
  obtain ⟨h1, h2⟩ := h
  refine ⟨h1, ?_⟩
  rcases h2 with h2 | ⟨g, cap, cur, e, hg, r⟩
  · exact .inl h2
  · exact .inr ⟨g, cap, cur, e, Nat.le_trans hb hg, r⟩
theorem OwnW.far {B : Nat} {w : World} {v : Value} {L : List Wk} (h : OwnW B w v L) {p : Addr} (hp : p.block < B) (u : Value) : OwnW B (w.setCell p u) v L := by
  rcases h.2 with ⟨hv, hn⟩ | ⟨g, cap, cur, hv, hg, hh, hc, hcm, hsz, ht⟩
  · exact ⟨h.1, .inl ⟨hv, hn⟩⟩
  · exact ⟨h.1, .inr ⟨g, cap, cur, hv, hg, Has.far (t := 75) (cs := cur) hh (by omega) u, hc, hcm, hsz, ht⟩⟩
end Go.Proofs.YtjkmbggaoinkdaaDoor
