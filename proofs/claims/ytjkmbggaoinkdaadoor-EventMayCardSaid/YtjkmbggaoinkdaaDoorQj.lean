/-
  Put together: OwnT, ConcT.
-/
import Derived.Test.YtjkmbggaoinkdaaDoorQf
import Derived.Test.YtjkmbggaoinkdaaDoorQc
import Derived.Lib.AppendZerosOnto
import Derived.Laws.AppendOwnNone
namespace Go.Proofs.YtjkmbggaoinkdaaDoor
open Go.RowKit Dg
set_option maxRecDepth 100000
def Tb.row (x : Tb) : List Value := [.string x.nm, .slice x.A x.n x.c, .int .i64 x.K]
theorem infoT : (Tryd.prog.info? 57).map (fun i => (i.zero, i.size, i.bytes)) = some (some (.agg #[.string ⟨#[]⟩, .slice none 0 0, .int .i64 0]), 3, 48) := by kernel_rfl
/-- Columns in a row of the call's own. -/
def OwnT (B : Nat) (w : World) (v : Value) (L : List Tb) : Prop := w.ownsRow B 57 3 v L.length (L.flatMap Tb.row)
theorem ownT_nil (B : Nat) (w : World) : OwnT B w (.slice none 0 0) [] := World.ownsRow_nil _ _ _ _
theorem OwnT.below {B : Nat} {w w' : World} {v : Value} {L : List Tb} (h : OwnT B w v L) (hb : Below w.heap.size w w') : OwnT B w' v L := by
  rcases h.2 with ⟨hv, hn⟩ | ⟨g, cap, cur, hv, hg, hh, hc, hcm, hsz, ht⟩
  · exact ⟨h.1, .inl ⟨hv, hn⟩⟩
  · exact ⟨h.1, .inr ⟨g, cap, cur, hv, hg, Has.below (t := 57) (cs := cur) hh hb (Has.lt (t := 57) (cs := cur) hh), hc, hcm, hsz, ht⟩⟩
theorem tflat_len (L : List Tb) : (L.flatMap Tb.row).length = L.length * 3 := by
  induction L with
  | nil => rfl
  | cons x L ih => rw [List.flatMap_cons, List.length_append, ih]; simp [Tb.row]; omega
theorem tflat_get (L : List Tb) (i j : Nat) (h : i < L.length) (hj : j < 3) : (L.flatMap Tb.row)[i * 3 + j]? = L[i].row[j]? := by
  induction L generalizing i with
  | nil => simp at h
  | cons x L ih =>
    rw [List.flatMap_cons]
    rcases i with _ | i
    · rw [List.getElem?_append_left (by simp [Tb.row]; omega)]
      simp
    · rw [List.getElem?_append_right (by simp [Tb.row]; omega)]
      have e : (i + 1) * 3 + j - x.row.length = i * 3 + j := by simp [Tb.row]; omega
      rw [e, ih i (by simpa using h)]
      simp
theorem ownT_row {B : Nat} {w : World} {v : Value} {L : List Tb} (h : OwnT B w v L) : ∃ A c, v = .slice A L.length c ∧ L.length ≤ c ∧ c ≤ maxLen ∧ TRow w A L ∧ (A = none → c = 0) := by
  rcases h.2 with ⟨hv, hn⟩ | ⟨g, cap, cur, hv, _, hh, hc, hcm, hsz, ht⟩
  · obtain rfl := List.eq_nil_of_length_eq_zero hn
    exact ⟨none, 0, hv, Nat.le_refl _, Nat.zero_le _, fun h => absurd rfl h, fun _ => rfl⟩
  · refine ⟨_, _, hv, hc, hcm, fun _ => ⟨g, 0, rfl, fun i hi => ?_⟩, fun e => by cases e⟩
    have hq : ∀ j, j < 3 → w.cell? ⟨g, 0 + (i * 3 + j), none⟩ = L[i].row[j]? := fun j hj => by
      rw [Nat.zero_add, Has.cell (t := 57) (cs := cur) hh, ← tflat_get L i j hi hj, ← ht, List.getElem?_take, if_pos (by omega)]
      simp
    have q0 := hq 0 (by omega)
    have q1 := hq 1 (by omega)
    have q2 := hq 2 (by omega)
    exact ⟨q0, q1, q2⟩
/-- One column is put behind a row of the call's own. -/
theorem appT (w : World) (g : Nat) (hg0 : g = w.heap.size) (B : Nat) (v : Value) (L : List Tb) (x : Tb) (h : OwnT B w v L) (hB : B ≤ w.heap.size) (hl : L.length ≤ 1000) :
    ∃ R W', (Builtin.append_ #[22, 22] 22 #[v, .slice (some ⟨g, 0, none⟩) 1 1]).run Tryd.prog (w.alloc (.cells #[.string x.nm, .slice x.A x.n x.c, .int .i64 x.K] 57)) = .ok R W' ∧ OwnT B W' R (L ++ [x]) ∧ Below B w W' := by
  subst hg0
  obtain ⟨i0, hi, hz0, hz1, hz2⟩ := info_parts infoT
  obtain ⟨R, W', hrun, hown, hg, _⟩ := run_append_own (P := Tryd.prog) (w.alloc (.cells x.row.toArray 57)) B 22 22 57 i0 _ 3 48 Tryd.underlying22 hi hz0 hz1 hz2 rfl (by decide) v L.length (L.flatMap Tb.row) (h.alloc _)
    ⟨w.heap.size, 0, none⟩ 1 1 x.row rfl (fun j u hj => by
      have := (Has.new w 57 x.row.toArray).cell j
      rw [List.getElem?_toArray] at this
      rw [Addr.add_lit, Nat.zero_add]
      exact this.trans hj) (fun u hu => by simp [Tb.row] at hu; rcases hu with rfl | rfl | rfl <;> rfl) (by unfold maxLen; omega) (by omega) (by simp; omega)
  refine ⟨R, W', hrun, ?_, ?_⟩
  · unfold OwnT; rw [List.flatMap_append, List.length_append]; simpa using hown
  · exact ((Below.refl B w).alloc hB _).grown hg (by simp; omega) fun k hk => (World.ownsRow.lt h k hk).1
theorem trow_cell {w : World} {b off : Nat} {M : List Tb} (h : ∀ i (h : i < M.length), w.cell? ⟨b, off + i * 3, none⟩ = some (.string M[i].nm) ∧ w.cell? ⟨b, off + i * 3 + 1, none⟩ = some (.slice M[i].A M[i].n M[i].c) ∧ w.cell? ⟨b, off + i * 3 + 2, none⟩ = some (.int .i64 M[i].K)) (j : Nat) (u : Value) (hj : (M.flatMap Tb.row)[j]? = some u) : w.cell? ⟨b, off + j, none⟩ = some u := by
  have hjl : j < M.length * 3 := by
    have := (List.getElem?_eq_some_iff.1 hj).1
    rwa [tflat_len] at this
  have hi : j / 3 < M.length := by omega
  have e : j = j / 3 * 3 + j % 3 := by omega
  have hr : j % 3 = 0 ∨ j % 3 = 1 ∨ j % 3 = 2 := by omega
  rw [e, tflat_get M (j / 3) (j % 3) hi (by omega)] at hj
  obtain ⟨h0, h1, h2⟩ := h (j / 3) hi
  rw [e]
  rcases hr with hr | hr | hr <;> rw [hr] at hj ⊢
  · rw [← hj]; exact h0
  · rw [← hj]; exact h1
  · rw [← hj]; exact h2
/-- A row of columns is put behind one of the call's own. -/
theorem appTs (w : World) (B : Nat) (v : Value) (L : List Tb) (h : OwnT B w v L) (hB : B ≤ w.heap.size) (A : Option Addr) (M : List Tb) (n c : Nat) (hn : M.length = n) (hA : TRow w A M) (h0 : A = none → c = 0) (hl : L.length + n ≤ 1000) :
    ∃ R W', (Builtin.append_ #[22, 22] 22 #[v, .slice A n c]).run Tryd.prog w = .ok R W' ∧ OwnT B W' R (L ++ M) ∧ Below B w W' := by
  subst hn
  obtain ⟨i0, hi, hz0, hz1, hz2⟩ := info_parts infoT
  by_cases hM : M = []
  · subst hM
    rcases A with _ | a
    · rw [h0 rfl, List.append_nil]
      exact ⟨v, w, run_append_owned_none w B 22 22 57 i0 3 Tryd.underlying22 hi v _ _ h, h, Below.refl _ _⟩
    · obtain ⟨R, W', hrun, hown, hg, _⟩ := run_append_own (P := Tryd.prog) w B 22 22 57 i0 _ 3 48 Tryd.underlying22 hi hz0 hz1 hz2 rfl (by decide) v L.length (L.flatMap Tb.row) h
        a 0 c [] rfl (fun j u hj => by simp at hj) (fun u hu => by cases hu) (by unfold maxLen; omega) (by omega) hB
      refine ⟨R, W', hrun, ?_, (Below.refl B w).grown hg hB fun k hk => (World.ownsRow.lt h k hk).1⟩
      unfold OwnT; simpa using hown
  · obtain ⟨b, off, rfl, hc⟩ := hA hM
    obtain ⟨R, W', hrun, hown, hg, _⟩ := run_append_own (P := Tryd.prog) w B 22 22 57 i0 _ 3 48 Tryd.underlying22 hi hz0 hz1 hz2 rfl (by decide) v L.length (L.flatMap Tb.row) h
      ⟨b, off, none⟩ M.length c (M.flatMap Tb.row) (by rw [tflat_len]) (fun j u hj => by rw [Addr.add_lit]; exact trow_cell hc j u hj) (fun u hu => by
        obtain ⟨x, _, hx⟩ := List.mem_flatMap.1 hu
        simp [Tb.row] at hx; rcases hx with rfl | rfl | rfl <;> rfl) (by unfold maxLen; omega) (by omega) hB
    refine ⟨R, W', hrun, ?_, (Below.refl B w).grown hg hB fun k hk => (World.ownsRow.lt h k hk).1⟩
    unfold OwnT; rw [List.flatMap_append, List.length_append]; exact hown
/-- A row of the call's own, its length under a letter. -/
theorem ownT_open {B : Nat} {w : World} {v : Value} {L : List Tb} (h : OwnT B w v L) : ∃ A n c, v = .slice A n c ∧ Hid (L.length = n) ∧ n ≤ c ∧ c ≤ maxLen ∧ Hid (TRow w A L) ∧ Hid (A = none → c = 0) := by
  obtain ⟨A, c, e, h1, h2, h3, h4⟩ := ownT_row h
  exact ⟨A, L.length, c, e, rfl, h1, h2, h3, h4⟩
theorem tflat_set (L : List Tb) (i j : Nat) (u : Value) (x : Tb) (hi : i < L.length) (hj : j < 3) (hx : x.row = L[i].row.set j u) : (L.flatMap Tb.row).set (i * 3 + j) u = (L.set i x).flatMap Tb.row := by
  induction L generalizing i with
  | nil => simp at hi
  | cons y L ih =>
    rcases i with _ | i
    · simp only [List.getElem_cons_zero] at hx
      rw [List.flatMap_cons, List.set_cons_zero, List.flatMap_cons, hx, Nat.zero_mul, Nat.zero_add]
      rw [List.set_append_left _ _ (by simp [Tb.row]; omega)]
    · simp only [List.getElem_cons_succ] at hx
      rw [List.flatMap_cons, List.set_cons_succ, List.flatMap_cons, ← ih i (by simpa using hi) hx]
      rw [List.set_append_right _ _ (by simp [Tb.row]; omega)]
      have e : (i + 1) * 3 + j - y.row.length = i * 3 + j := by simp [Tb.row]; omega
      rw [e]
theorem ownT_put {B : Nat} {w : World} {v : Value} {L : List Tb} (h : OwnT B w v L) (i : Nat) (hi : i < L.length) (j : Nat) (hj : j < 3) (u : Value) (x : Tb) (hx : x.row = L[i].row.set j u) :
    ∃ g c, v = .slice (some ⟨g, 0, none⟩) L.length c ∧ B ≤ g ∧ L.length ≤ c ∧ w.frozen? ⟨g, i * 3 + j, none⟩ = false ∧ w.cell? ⟨g, i * 3 + j, none⟩ = L[i].row[j]? ∧ OwnT B (w.setCell ⟨g, i * 3 + j, none⟩ u) v (L.set i x) := by
  rcases h.2 with ⟨hv, hn⟩ | ⟨g, cap, cur, hv, hg, hh, hc, hcm, hsz, ht⟩
  · omega
  · refine ⟨g, cap, hv, hg, hc, Has.free (t := 57) (cs := cur) hh _, ?_, ?_⟩
    · rw [Has.cell (t := 57) (cs := cur) hh, ← tflat_get L i j hi hj, ← ht, List.getElem?_take, if_pos (by omega)]
      simp
    · refine ⟨by rw [tflat_len], .inr ⟨g, cap, cur.setIfInBounds (i * 3 + j) u, by rw [List.length_set]; exact hv, hg, Has.put (t := 57) (cs := cur) hh (i * 3 + j) u, by rw [List.length_set]; exact hc, hcm, by simpa using hsz, ?_⟩⟩
      rw [List.length_set, ← tflat_set L i j u x hi hj hx, ← ht, Array.toList_setIfInBounds, List.take_set]
theorem TRow.drop {w : World} {b off : Nat} {L : List Tb} (h : TRow w (some ⟨b, off, none⟩) L) (k : Nat) : TRow w (some ⟨b, off + k * 3, none⟩) (L.drop k) := fun hl => by
  obtain ⟨b', off', e, hc⟩ := h (by rintro rfl; simp at hl)
  injection e with e
  injection e with e1 e2
  subst e1 e2
  refine ⟨b, off + k * 3, rfl, fun i hi => ?_⟩
  rw [List.length_drop] at hi
  obtain ⟨h0, h1, h2⟩ := hc (k + i) (by omega)
  rw [List.getElem_drop]
  have e : off + (k + i) * 3 = off + k * 3 + i * 3 := by omega
  rw [e] at h0 h1 h2
  exact ⟨h0, h1, h2⟩
theorem TRow.take {w : World} {A : Option Addr} {L : List Tb} (h : TRow w A L) (k : Nat) : TRow w A (L.take k) := fun hl => by
  obtain ⟨b, off, e, hc⟩ := h (by rintro rfl; simp at hl)
  refine ⟨b, off, e, fun i hi => ?_⟩
  rw [List.length_take] at hi
  rw [List.getElem_take]
  exact hc i (by omega)
theorem TRow.one (w : World) (x : Tb) : TRow (w.alloc (.cells #[.string x.nm, .slice x.A x.n x.c, .int .i64 x.K] 57)) (some ⟨w.heap.size, 0, none⟩) [x] := fun _ => ⟨w.heap.size, 0, rfl, fun i hi => by
  have hh := Has.new w 57 #[.string x.nm, .slice x.A x.n x.c, .int .i64 x.K]
  obtain rfl : i = 0 := by simpa using hi
  exact ⟨hh.cell 0, hh.cell 1, hh.cell 2⟩⟩
theorem OwnT.drew {B : Nat} {w : World} {v : Value} {L : List Tb} (h : OwnT B w v L) : OwnT B w.drew v L := h.below ((Below.refl _ w).drew)
theorem OwnT.off0 {B : Nat} {w : World} {g off n c : Nat} {L : List Tb} (h : OwnT B w (.slice (some ⟨g, off, none⟩) n c) L) : off = 0 := by
  rcases h.2 with ⟨hv, _⟩ | ⟨g2, cap, cur, hv, _⟩
  · cases hv
  · injection hv with e1 _ _
    injection e1 with e1
    injection e1
theorem ownT_put2 {B : Nat} {w : World} {g n c : Nat} {L : List Tb} (h : OwnT B w (.slice (some ⟨g, 0, none⟩) n c) L) (i : Nat) (hi : i < L.length) (j : Nat) (hj : j < 3) (u : Value) (x : Tb) (hx : x.row = L[i].row.set j u) :
    B ≤ g ∧ w.frozen? ⟨g, i * 3 + j, none⟩ = false ∧ OwnT B (w.setCell ⟨g, i * 3 + j, none⟩ u) (.slice (some ⟨g, 0, none⟩) n c) (L.set i x) := by
  obtain ⟨g2, c2, hv, hB, _, hf, _, ho⟩ := ownT_put h i hi j hj u x hx
  injection hv with e1 e2 e3
  injection e1 with e1
  injection e1 with e1
  subst e1
  exact ⟨hB, hf, ho⟩
theorem OwnT.row {B : Nat} {w : World} {v : Value} {L : List Tb} (h : OwnT B w v L) {A : Option Addr} {n c : Nat} (hv : v = .slice A n c) : TRow w A L := by
  obtain ⟨A2, c2, e, _, _, hr, _⟩ := ownT_row h
  rw [hv] at e
  injection e with e1 _ _
  rw [e1]; exact hr
theorem ownT_down {B B' : Nat} {w : World} {v : Value} {l : List Tb} (h : OwnT B w v l) (hb : B' ≤ B) : OwnT B' w v l := by
  obtain ⟨h1, h2⟩ := h
  refine ⟨h1, ?_⟩
  rcases h2 with h2 | ⟨g, cap, cur, e, hg, r⟩
  · exact .inl h2
  · exact .inr ⟨g, cap, cur, e, Nat.le_trans hb hg, r⟩
theorem OwnT.far {B : Nat} {w : World} {v : Value} {L : List Tb} (h : OwnT B w v L) {p : Addr} (hp : p.block < B) (u : Value) : OwnT B (w.setCell p u) v L := by
  rcases h.2 with ⟨hv, hn⟩ | ⟨g, cap, cur, hv, hg, hh, hc, hcm, hsz, ht⟩
  · exact ⟨h.1, .inl ⟨hv, hn⟩⟩
  · exact ⟨h.1, .inr ⟨g, cap, cur, hv, hg, Has.far (t := 57) (cs := cur) hh (by omega) u, hc, hcm, hsz, ht⟩⟩
end Go.Proofs.YtjkmbggaoinkdaaDoor
namespace Go.Proofs.YtjkmbggaoinkdaaDoor
open Go.RowKit Dg
set_option maxRecDepth 100000
theorem zerosT (w : World) (n G : Nat) (hG : n ≤ G) (hm : G ≤ maxLen) :
    OwnT w.heap.size (w.drew.alloc (.cells (([] : List Value).toArray ++ Builtin.zeroCells (Value.agg #[.string ⟨#[]⟩, .slice none 0 0, .int .i64 0]).cells n ++ Builtin.zeroCells (Value.agg #[.string ⟨#[]⟩, .slice none 0 0, .int .i64 0]).cells (G - n)) 57)) (.slice (some ⟨w.heap.size, 0, none⟩) 0 G) [] :=
  World.ownsRow_made (base := w.heap.size) w.drew _ G (Nat.le_refl _) hm (by simp [size_zeroCells, Value.cells]; omega)
/-- A row of slices of bytes, as it is handed to a function that takes any number of them. -/
def PartsT (w : World) (g : Nat) (L : List (Option Addr × List Tb × Nat)) : Prop := ∀ i (h : i < L.length), w.cell? ⟨g, i, none⟩ = some (.slice L[i].1 L[i].2.1.length L[i].2.2) ∧ TRow w L[i].1 L[i].2.1 ∧ (L[i].1 = none → L[i].2.2 = 0)
def catT (L : List (Option Addr × List Tb × Nat)) (k : Nat) : List Tb := (L.take k).flatMap (fun x => x.2.1)
theorem catT_zero (L : List (Option Addr × List Tb × Nat)) : catT L 0 = [] := rfl
theorem catT_succ (L : List (Option Addr × List Tb × Nat)) (k : Nat) (h : k < L.length) : catT L (k + 1) = catT L k ++ L[k].2.1 := by
  unfold catT
  rw [List.take_succ_eq_append_getElem h, List.flatMap_append]
  simp
theorem catT_le (L : List (Option Addr × List Tb × Nat)) (k : Nat) : (catT L k).length ≤ (catT L L.length).length := by
  have h : catT L L.length = catT L k ++ (L.drop k).flatMap (fun x => x.2.1) := by
    unfold catT
    rw [← List.flatMap_append, List.take_append_drop, List.take_length]
  rw [h, List.length_append]
  omega
theorem catT_len_succ (L : List (Option Addr × List Tb × Nat)) (k : Nat) (h : k < L.length) : (catT L (k + 1)).length = (catT L k).length + L[k].2.1.length := by
  rw [catT_succ L k h, List.length_append]
end Go.Proofs.YtjkmbggaoinkdaaDoor
