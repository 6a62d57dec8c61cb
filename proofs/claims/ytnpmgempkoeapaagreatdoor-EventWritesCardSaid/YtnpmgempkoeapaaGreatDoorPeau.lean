/-
  Put together, as far as it is used: Qj, Ql.
-/
import Derived.Test.YtnpmgempkoeapaaGreatDoorPear
import Derived.Test.YtnpmgempkoeapaaGreatDoorPeah
import Derived.Lib.AppendZerosOnto
import Derived.Laws.AppendOwnNone
import Derived.Test.YtnpmgempkoeapaaGreatDoorPeat
import Derived.Test.YtnpmgempkoeapaaGreatDoorPeag
import Derived.Test.YtnpmgempkoeapaaGreatDoorPeas
import Derived.Lib.LazyBuf
import Derived.Test.YtnpmgempkoeapaaGreatDoorPeaf
import Derived.Deep.RegionHeld3
import Derived.IntWalk
set_option linter.unusedVariables false
set_option linter.unusedSimpArgs false
set_option linter.defProp false
namespace Go.Proofs.YtnpmgempkoeapaaGreatDoor
open Go.RowKit Dg
set_option maxRecDepth 100000
def Tb.row (x : Tb) : List Value := [.string x.nm, .slice x.A x.n x.c, .int .i64 x.K]
theorem infoT : (Tryz.prog.info? 52).map (fun i => (i.zero, i.size, i.bytes)) = some (some (.agg #[.string ⟨#[]⟩, .slice none 0 0, .int .i64 0]), 3, 48) := by kernel_rfl
def OwnT (B : Nat) (w : World) (v : Value) (L : List Tb) : Prop := w.ownsRow B 52 3 v L.length (L.flatMap Tb.row)
theorem ownT_nil (B : Nat) (w : World) : OwnT B w (.slice none 0 0) [] := World.ownsRow_nil _ _ _ _
theorem OwnT.below {B : Nat} {w w' : World} {v : Value} {L : List Tb} (h : OwnT B w v L) (hb : Below w.heap.size w w') : OwnT B w' v L := by
 rcases h.2 with ⟨hv, hn⟩ | ⟨g, cap, cur, hv, hg, hh, hc, hcm, hsz, ht⟩
 ·exact ⟨h.1, .inl ⟨hv, hn⟩⟩
 ·exact ⟨h.1, .inr ⟨g, cap, cur, hv, hg, Has.below (t := 52) (cs := cur) hh hb (Has.lt (t := 52) (cs := cur) hh), hc, hcm, hsz, ht⟩⟩
theorem tflat_len (L : List Tb) : (L.flatMap Tb.row).length = L.length * 3 := by
 induction L with
 | nil => rfl
 | cons x L ih => rw [List.flatMap_cons, List.length_append, ih]; simp [Tb.row]; omega
theorem tflat_get (L : List Tb) (i j : Nat) (h : i < L.length) (hj : j < 3) : (L.flatMap Tb.row)[i * 3 + j]? = L[i].row[j]? := by
 induction L generalizing i with
 | nil => simp at h
 | cons x L ih =>
   rw [List.flatMap_cons]
   rcases i with _ | i
   ·rw [List.getElem?_append_left (by simp [Tb.row]; omega)]
    simp
   ·rw [List.getElem?_append_right (by simp [Tb.row]; omega)]
    have e : (i + 1) * 3 + j - x.row.length = i * 3 + j := by simp [Tb.row]; omega
    rw [e, ih i (by simpa using h)]
    simp
theorem ownT_row {B : Nat} {w : World} {v : Value} {L : List Tb} (h : OwnT B w v L) : ∃ A c, v = .slice A L.length c ∧ L.length ≤ c ∧ c ≤ maxLen ∧ TRow w A L ∧ (A = none → c = 0) := by
 rcases h.2 with ⟨hv, hn⟩ | ⟨g, cap, cur, hv, _, hh, hc, hcm, hsz, ht⟩
 ·obtain rfl := List.eq_nil_of_length_eq_zero hn
  exact ⟨none, 0, hv, Nat.le_refl _, Nat.zero_le _, fun h => absurd rfl h, fun _ => rfl⟩
 ·refine ⟨_, _, hv, hc, hcm, fun _ => ⟨g, 0, rfl, fun i hi => ?_⟩, fun e => by cases e⟩
  have hq : ∀ j, j < 3 → w.cell? ⟨g, 0 + (i * 3 + j), none⟩ = L[i].row[j]? := fun j hj => by
   rw [Nat.zero_add, Has.cell (t := 52) (cs := cur) hh, ← tflat_get L i j hi hj, ← ht, List.getElem?_take, if_pos (by omega)]
   simp
  have q0 := hq 0 (by omega)
  have q1 := hq 1 (by omega)
  have q2 := hq 2 (by omega)
  exact ⟨q0, q1, q2⟩
theorem appT (w : World) (g : Nat) (hg0 : g = w.heap.size) (B : Nat) (v : Value) (L : List Tb) (x : Tb) (h : OwnT B w v L) (hB : B ≤ w.heap.size) (hl : L.length ≤ 1000) :
 ∃ R W', (Builtin.append_ #[22, 22] 22 #[v, .slice (some ⟨g, 0, none⟩) 1 1]).run Tryz.prog (w.alloc (.cells #[.string x.nm, .slice x.A x.n x.c, .int .i64 x.K] 52)) = .ok R W' ∧ OwnT B W' R (L ++ [x]) ∧ Below B w W' := by
 subst hg0
 obtain ⟨i0, hi, hz0, hz1, hz2⟩ := info_parts infoT
 obtain ⟨R, W', hrun, hown, hg, _⟩ := run_append_own (P := Tryz.prog) (w.alloc (.cells x.row.toArray 52)) B 22 22 52 i0 _ 3 48 Tryz.underlying22 hi hz0 hz1 hz2 rfl (by decide) v L.length (L.flatMap Tb.row) (h.alloc _)
  ⟨w.heap.size, 0, none⟩ 1 1 x.row rfl (fun j u hj => by
    have := (Has.new w 52 x.row.toArray).cell j
    rw [List.getElem?_toArray] at this
    rw [Addr.add_lit, Nat.zero_add]
    exact this.trans hj) (fun u hu => by simp [Tb.row] at hu; rcases hu with rfl | rfl | rfl <;> rfl) (by unfold maxLen; omega) (by omega) (by simp; omega)
 refine ⟨R, W', hrun, ?_, ?_⟩
 ·unfold OwnT; rw [List.flatMap_append, List.length_append]; simpa using hown
 ·exact ((Below.refl B w).alloc hB _).grown hg (by simp; omega) fun k hk => (World.ownsRow.lt h k hk).1
theorem trow_cell {w : World} {b off : Nat} {M : List Tb} (h : ∀ i (h : i < M.length), w.cell? ⟨b, off + i * 3, none⟩ = some (.string M[i].nm) ∧ w.cell? ⟨b, off + i * 3 + 1, none⟩ = some (.slice M[i].A M[i].n M[i].c) ∧ w.cell? ⟨b, off + i * 3 + 2, none⟩ = some (.int .i64 M[i].K)) (j : Nat) (u : Value) (hj : (M.flatMap Tb.row)[j]? = some u) : w.cell? ⟨b, off + j, none⟩ = some u := by
 have hjl : j < M.length * 3 := by
  have := (List.getElem?_eq_some_iff.1 hj).1
  rwa [tflat_len] at this
 have hi : j / 3 < M.length := by omega
 have e : j = j / 3 * 3 + j % 3 := by omega
 have hr : j % 3 = 0 ∨ j % 3 = 1 ∨ j % 3 = 2 := by omega
 rw [e, tflat_get M (j / 3) (j % 3) hi (by omega)] at hj
 obtain ⟨h0, h1, h2⟩ := h (j / 3) hi
 rw [e]
 rcases hr with hr | hr | hr <;> rw [hr] at hj ⊢
 ·rw [← hj]; exact h0
 ·rw [← hj]; exact h1
 ·rw [← hj]; exact h2
theorem appTs (w : World) (B : Nat) (v : Value) (L : List Tb) (h : OwnT B w v L) (hB : B ≤ w.heap.size) (A : Option Addr) (M : List Tb) (n c : Nat) (hn : M.length = n) (hA : TRow w A M) (h0 : A = none → c = 0) (hl : L.length + n ≤ 1000) :
 ∃ R W', (Builtin.append_ #[22, 22] 22 #[v, .slice A n c]).run Tryz.prog w = .ok R W' ∧ OwnT B W' R (L ++ M) ∧ Below B w W' := by
 subst hn
 obtain ⟨i0, hi, hz0, hz1, hz2⟩ := info_parts infoT
 by_cases hM : M = []
 ·subst hM
  rcases A with _ | a
  ·rw [h0 rfl, List.append_nil]
   exact ⟨v, w, run_append_owned_none w B 22 22 52 i0 3 Tryz.underlying22 hi v _ _ h, h, Below.refl _ _⟩
  ·obtain ⟨R, W', hrun, hown, hg, _⟩ := run_append_own (P := Tryz.prog) w B 22 22 52 i0 _ 3 48 Tryz.underlying22 hi hz0 hz1 hz2 rfl (by decide) v L.length (L.flatMap Tb.row) h
    a 0 c [] rfl (fun j u hj => by simp at hj) (fun u hu => by cases hu) (by unfold maxLen; omega) (by omega) hB
   refine ⟨R, W', hrun, ?_, (Below.refl B w).grown hg hB fun k hk => (World.ownsRow.lt h k hk).1⟩
   unfold OwnT; simpa using hown
 ·obtain ⟨b, off, rfl, hc⟩ := hA hM
  obtain ⟨R, W', hrun, hown, hg, _⟩ := run_append_own (P := Tryz.prog) w B 22 22 52 i0 _ 3 48 Tryz.underlying22 hi hz0 hz1 hz2 rfl (by decide) v L.length (L.flatMap Tb.row) h
   ⟨b, off, none⟩ M.length c (M.flatMap Tb.row) (by rw [tflat_len]) (fun j u hj => by rw [Addr.add_lit]; exact trow_cell hc j u hj) (fun u hu => by
     obtain ⟨x, _, hx⟩ := List.mem_flatMap.1 hu
     simp [Tb.row] at hx; rcases hx with rfl | rfl | rfl <;> rfl) (by unfold maxLen; omega) (by omega) hB
  refine ⟨R, W', hrun, ?_, (Below.refl B w).grown hg hB fun k hk => (World.ownsRow.lt h k hk).1⟩
  unfold OwnT; rw [List.flatMap_append, List.length_append]; exact hown
theorem ownT_open {B : Nat} {w : World} {v : Value} {L : List Tb} (h : OwnT B w v L) : ∃ A n c, v = .slice A n c ∧ Hid (L.length = n) ∧ n ≤ c ∧ c ≤ maxLen ∧ Hid (TRow w A L) ∧ Hid (A = none → c = 0) := by
 obtain ⟨A, c, e, h1, h2, h3, h4⟩ := ownT_row h
 exact ⟨A, L.length, c, e, rfl, h1, h2, h3, h4⟩
theorem tflat_set (L : List Tb) (i j : Nat) (u : Value) (x : Tb) (hi : i < L.length) (hj : j < 3) (hx : x.row = L[i].row.set j u) : (L.flatMap Tb.row).set (i * 3 + j) u = (L.set i x).flatMap Tb.row := by
 induction L generalizing i with
 | nil => simp at hi
 | cons y L ih =>
   rcases i with _ | i
   ·simp only [zC] at hx
    rw [List.flatMap_cons, List.set_cons_zero, List.flatMap_cons, hx, Nat.zero_mul, Nat.zero_add]
    rw [List.set_append_left _ _ (by simp [Tb.row]; omega)]
   ·simp only [zB] at hx
    rw [List.flatMap_cons, List.set_cons_succ, List.flatMap_cons, ← ih i (by simpa using hi) hx]
    rw [List.set_append_right _ _ (by simp [Tb.row]; omega)]
    have e : (i + 1) * 3 + j - y.row.length = i * 3 + j := by simp [Tb.row]; omega
    rw [e]
theorem ownT_put {B : Nat} {w : World} {v : Value} {L : List Tb} (h : OwnT B w v L) (i : Nat) (hi : i < L.length) (j : Nat) (hj : j < 3) (u : Value) (x : Tb) (hx : x.row = L[i].row.set j u) :
 ∃ g c, v = .slice (some ⟨g, 0, none⟩) L.length c ∧ B ≤ g ∧ L.length ≤ c ∧ w.frozen? ⟨g, i * 3 + j, none⟩ = false ∧ w.cell? ⟨g, i * 3 + j, none⟩ = L[i].row[j]? ∧ OwnT B (w.setCell ⟨g, i * 3 + j, none⟩ u) v (L.set i x) := by
 rcases h.2 with ⟨hv, hn⟩ | ⟨g, cap, cur, hv, hg, hh, hc, hcm, hsz, ht⟩
 ·omega
 ·refine ⟨g, cap, hv, hg, hc, Has.free (t := 52) (cs := cur) hh _, ?_, ?_⟩
  ·rw [Has.cell (t := 52) (cs := cur) hh, ← tflat_get L i j hi hj, ← ht, List.getElem?_take, if_pos (by omega)]
   simp
  ·refine ⟨by rw [tflat_len], .inr ⟨g, cap, cur.setIfInBounds (i * 3 + j) u, by rw [List.length_set]; exact hv, hg, Has.put (t := 52) (cs := cur) hh (i * 3 + j) u, by rw [List.length_set]; exact hc, hcm, by simpa using hsz, ?_⟩⟩
   rw [List.length_set, ← tflat_set L i j u x hi hj hx, ← ht, Array.toList_setIfInBounds, List.take_set]
theorem TRow.drop {w : World} {b off : Nat} {L : List Tb} (h : TRow w (some ⟨b, off, none⟩) L) (k : Nat) : TRow w (some ⟨b, off + k * 3, none⟩) (L.drop k) := fun hl => by
 obtain ⟨b', off', e, hc⟩ := h (by rintro rfl; simp at hl)
 injection e with e
 injection e with e1 e2
 subst e1 e2
 refine ⟨b, off + k * 3, rfl, fun i hi => ?_⟩
 rw [List.length_drop] at hi
 obtain ⟨h0, h1, h2⟩ := hc (k + i) (by omega)
 rw [List.getElem_drop]
 have e : off + (k + i) * 3 = off + k * 3 + i * 3 := by omega
 rw [e] at h0 h1 h2
 exact ⟨h0, h1, h2⟩
theorem TRow.take {w : World} {A : Option Addr} {L : List Tb} (h : TRow w A L) (k : Nat) : TRow w A (L.take k) := fun hl => by
 obtain ⟨b, off, e, hc⟩ := h (by rintro rfl; simp at hl)
 refine ⟨b, off, e, fun i hi => ?_⟩
 rw [List.length_take] at hi
 rw [List.getElem_take]
 exact hc i (by omega)
theorem TRow.one (w : World) (x : Tb) : TRow (w.alloc (.cells #[.string x.nm, .slice x.A x.n x.c, .int .i64 x.K] 52)) (some ⟨w.heap.size, 0, none⟩) [x] := fun _ => ⟨w.heap.size, 0, rfl, fun i hi => by
 have hh := Has.new w 52 #[.string x.nm, .slice x.A x.n x.c, .int .i64 x.K]
 obtain rfl : i = 0 := by simpa using hi
 exact ⟨hh.cell 0, hh.cell 1, hh.cell 2⟩⟩
theorem OwnT.drew {B : Nat} {w : World} {v : Value} {L : List Tb} (h : OwnT B w v L) : OwnT B w.drew v L := h.below ((Below.refl _ w).drew)
theorem ownT_put2 {B : Nat} {w : World} {g n c : Nat} {L : List Tb} (h : OwnT B w (.slice (some ⟨g, 0, none⟩) n c) L) (i : Nat) (hi : i < L.length) (j : Nat) (hj : j < 3) (u : Value) (x : Tb) (hx : x.row = L[i].row.set j u) :
 B ≤ g ∧ w.frozen? ⟨g, i * 3 + j, none⟩ = false ∧ OwnT B (w.setCell ⟨g, i * 3 + j, none⟩ u) (.slice (some ⟨g, 0, none⟩) n c) (L.set i x) := by
 obtain ⟨g2, c2, hv, hB, _, hf, _, ho⟩ := ownT_put h i hi j hj u x hx
 injection hv with e1 e2 e3
 injection e1 with e1
 injection e1 with e1
 subst e1
 exact ⟨hB, hf, ho⟩
theorem OwnT.row {B : Nat} {w : World} {v : Value} {L : List Tb} (h : OwnT B w v L) {A : Option Addr} {n c : Nat} (hv : v = .slice A n c) : TRow w A L := by
 obtain ⟨A2, c2, e, _, _, hr, _⟩ := ownT_row h
 rw [hv] at e
 injection e with e1 _ _
 rw [e1]; exact hr
theorem ownT_down {B B' : Nat} {w : World} {v : Value} {l : List Tb} (h : OwnT B w v l) (hb : B' ≤ B) : OwnT B' w v l := by
 obtain ⟨h1, h2⟩ := h
 refine ⟨h1, ?_⟩
 rcases h2 with h2 | ⟨g, cap, cur, e, hg, r⟩
 ·exact .inl h2
 ·exact .inr ⟨g, cap, cur, e, Nat.le_trans hb hg, r⟩
theorem OwnT.far {B : Nat} {w : World} {v : Value} {L : List Tb} (h : OwnT B w v L) {p : Addr} (hp : p.block < B) (u : Value) : OwnT B (w.setCell p u) v L := by
 rcases h.2 with ⟨hv, hn⟩ | ⟨g, cap, cur, hv, hg, hh, hc, hcm, hsz, ht⟩
 ·exact ⟨h.1, .inl ⟨hv, hn⟩⟩
 ·exact ⟨h.1, .inr ⟨g, cap, cur, hv, hg, Has.far (t := 52) (cs := cur) hh (by omega) u, hc, hcm, hsz, ht⟩⟩
def cutC (x : Cl) : Cl := ⟨forty x.nm, x.k, x.no⟩
def cutTo (L : List Cl) (k : Nat) : List Cl := (L.take k).map cutC
def cutL (L : List Cl) : List Cl := cutTo L 20
theorem cutTo_succ (L : List Cl) (k : Nat) (h : k < L.length) : cutTo L (k + 1) = cutTo L k ++ [cutC L[k]] := by
 unfold cutTo; rw [List.take_succ_eq_append_getElem h, List.map_append]; rfl
theorem cutTo_len (L : List Cl) (k : Nat) : (cutTo L k).length ≤ k := by unfold cutTo; rw [List.length_map, List.length_take]; omega
theorem cutTo_end (L : List Cl) (k : Nat) (h : k = L.length ∨ k = 20) (hk : k ≤ 20) : cutTo L k = cutL L := by
 unfold cutL
 rcases h with h | h
 ·unfold cutTo; rw [List.take_of_length_le (by omega), List.take_of_length_le (by omega)]
 ·rw [h]
theorem cutL_fit (L : List Cl) (h : ∀ x ∈ L, x.fit) : ∀ x ∈ cutL L, x.fit := fun x hx => by
 unfold cutL cutTo at hx
 obtain ⟨y, hy, rfl⟩ := List.mem_map.1 hx
 obtain ⟨h1, h2, h3⟩ := h y (List.mem_of_mem_take hy)
 exact ⟨by show (forty y.nm).size ≤ _; have := forty_size y.nm; omega, h2, h3⟩
structure CSt (w : World) (A : Option Addr) (n c : Nat) (K : Int) (wr : World) (v : Value) (M : List Cl) : Prop where
 own : OwnC (w.heap.size + 3) wr v M
 bel : Below w.heap.size w wr
 prm : Has wr w.heap.size 27 #[.slice A n c, .int .i64 K]
 res : Has wr (w.heap.size + 1) 27 #[.slice none 0 0, .int .i64 0]
 out : Has wr (w.heap.size + 2) 27 #[v, .int .i64 K]
 big : w.heap.size + 3 ≤ wr.heap.size
section
variable {w wr w' : World} {A : Option Addr} {n c : Nat} {K : Int} {v : Value} {M : List Cl}
theorem CSt.below (h : CSt w A n c K wr v M) (hb : Below wr.heap.size wr w') : CSt w A n c K w' v M :=
 ⟨h.own.below hb, h.bel.trans (hb.mono h.bel.size), h.prm.below hb h.prm.lt, h.res.below hb h.res.lt, h.out.below hb h.out.lt, Nat.le_trans h.big hb.size⟩
theorem CSt.stored (h : CSt w A n c K wr v M) {R : Value} {M' : List Cl} (ho : OwnC (w.heap.size + 3) w' R M') (hb : Below (w.heap.size + 3) wr w') : CSt w A n c K (w'.setCell ⟨w.heap.size + 2, 0, none⟩ R) R M' := by
 refine ⟨ho.far (by show w.heap.size + 2 < _; omega) R, (h.bel.trans (hb.mono (by omega))).setCell (by show w.heap.size ≤ w.heap.size + 2; omega) _, ?_, ?_, ?_, ?_⟩
 ·exact (h.prm.below hb (by omega)).far (by show w.heap.size ≠ w.heap.size + 2; omega) _
 ·exact (h.res.below hb (by omega)).far (by show w.heap.size + 1 ≠ w.heap.size + 2; omega) _
 ·exact (h.out.below hb (by omega)).put 0 R
 ·rw [size_set]; exact Nat.le_trans h.big hb.size
end
end Go.Proofs.YtnpmgempkoeapaaGreatDoor
namespace Go.Proofs.YtnpmgempkoeapaaGreatDoor
open Go.RowKit Dg
theorem OwnC.drew {B : Nat} {w : World} {v : Value} {L : List Cl} (h : OwnC B w v L) : OwnC B w.drew v L := h.below ((Below.refl _ w).drew)
theorem OwnC.row {B : Nat} {w : World} {v : Value} {L : List Cl} (h : OwnC B w v L) {A : Option Addr} {n c : Nat} (hv : v = .slice A n c) : CRow w A L := by
 obtain ⟨A2, c2, e, _, _, hr, _⟩ := ownC_row h
 rw [hv] at e
 injection e with e1 _ _
 rw [e1]; exact hr
set_option maxRecDepth 100000
structure TOk (w : World) (x : Tb) : Prop where
 len : x.L.length = x.n
 cap : x.n ≤ x.c
 max : x.c ≤ maxLen
 row : CRow w x.A x.L
 nil : x.A = none → x.c = 0
 few : x.n ≤ 900
theorem TOk.below {w w' : World} {x : Tb} (h : TOk w x) (hb : Below w.heap.size w w') : TOk w' x := ⟨h.len, h.cap, h.max, h.row.below hb, h.nil, h.few⟩
def TOks (w : World) (T : List Tb) : Prop := ∀ x ∈ T, TOk w x
theorem TOks.below {w w' : World} {T : List Tb} (h : TOks w T) (hb : Below w.heap.size w w') : TOks w' T := fun x hx => (h x hx).below hb
structure Cln (B : Nat) (w : World) (x y : Tb) : Prop where
 td : y.td = x.td
 own : OwnC B w (.slice y.A y.n y.c) y.L
theorem Cln.ok {B : Nat} {w : World} {x y : Tb} (h : Cln B w x y) (hx : x.L.length ≤ 900) : TOk w y := by
 obtain ⟨A, c, e, h1, h2, h3, h4⟩ := ownC_row h.own
 injection e with e1 e2 e3
 have hL : y.L = x.L := congrArg Td.L h.td
 subst e1 e3
 exact ⟨e2.symm, by omega, h2, h3, h4, by rw [e2, hL]; exact hx⟩
def Clns (B : Nat) (w : World) (T T' : List Tb) : Prop := T'.length = T.length ∧ ∀ i (h : i < T.length) (h' : i < T'.length), Cln B w T[i] T'[i]
theorem Clns.td {B : Nat} {w : World} {T T' : List Tb} (h : Clns B w T T') : tds T' = tds T := by
 apply List.ext_getElem
 ·rw [tds_len, tds_len]; exact h.1
 ·intro i h1 h2
  rw [tds_len] at h1 h2
  rw [tds_get T' i h1, tds_get T i h2]
  exact (h.2 i h2 h1).td
theorem Clns.ok {B : Nat} {w : World} {T T' : List Tb} (h : Clns B w T T') (hx : ∀ x ∈ T, x.L.length ≤ 900) : TOks w T' := fun y hy => by
 obtain ⟨i, hi, rfl⟩ := List.getElem_of_mem hy
 have hi' : i < T.length := by rw [← h.1]; exact hi
 exact (h.2 i hi' hi).ok (hx _ (List.getElem_mem hi'))
theorem Cln.below {B : Nat} {w w' : World} {x y : Tb} (h : Cln B w x y) (hb : Below w.heap.size w w') : Cln B w' x y := ⟨h.td, h.own.below hb⟩
theorem Clns.below {B : Nat} {w w' : World} {T T' : List Tb} (h : Clns B w T T') (hb : Below w.heap.size w w') : Clns B w' T T' := ⟨h.1, fun i h1 h2 => (h.2 i h1 h2).below hb⟩
structure PSt (w : World) (D : Nat) (A9 : Option Addr) (n9 c9 : Nat) (T0 : List Tb) (k : Nat) (wr : World) (T1 : List Tb) : Prop where
 own : OwnT w.heap.size wr (.slice A9 n9 c9) T1
 dom : ∀ g, A9 = some ⟨g, 0, none⟩ → g < D
 len : T1.length = T0.length
 lo : ∀ i (h : i < T0.length) (h' : i < T1.length), i < k → Cln D wr T0[i] T1[i]
 hi : ∀ i (h : i < T0.length) (h' : i < T1.length), k ≤ i → T1[i] = T0[i]
 bel : Below w.heap.size w wr
 big : D ≤ wr.heap.size
theorem PSt.cells {w : World} {D g n9 c9 : Nat} {T0 : List Tb} {k : Nat} {wr : World} {T1 : List Tb} (h : PSt w D (some ⟨g, 0, none⟩) n9 c9 T0 k wr T1) (hk : k < T0.length) :
 wr.cell? ⟨g, k * 3 + 1, none⟩ = some (.slice T0[k].A T0[k].n T0[k].c) ∧ wr.cell? ⟨g, k * 3 + 2, none⟩ = some (.int .i64 T0[k].K) ∧ k < n9 ∧ w.heap.size ≤ g := by
 have hk1 : k < T1.length := by rw [h.len]; exact hk
 obtain ⟨g2, c2, hv, hg, hc, hf, hcell, _⟩ := ownT_put h.own k hk1 1 (by omega) (.slice T1[k].A T1[k].n T1[k].c) T1[k] rfl
 obtain ⟨_, _, hv', _, _, _, hcell2, _⟩ := ownT_put h.own k hk1 2 (by omega) (.int .i64 T1[k].K) T1[k] rfl
 injection hv with e1 e2 _
 injection e1 with e1
 injection e1 with e1
 injection hv' with e1' _ _
 injection e1' with e1'
 injection e1' with e1'
 subst e1 e1'
 rw [h.hi k hk hk1 (Nat.le_refl _)] at hcell hcell2
 exact ⟨hcell, hcell2, by omega, hg⟩
theorem PSt.step {w : World} {D g n9 c9 : Nat} {T0 : List Tb} {k : Nat} {wr : World} {T1 : List Tb} (h : PSt w D (some ⟨g, 0, none⟩) n9 c9 T0 k wr T1) (hk : k < T0.length) {w2 : World} {A8 : Option Addr} {n8 c8 : Nat} (ho : OwnC wr.heap.size w2 (.slice A8 n8 c8) T0[k].L) (hb : Below wr.heap.size wr w2) :
 w2.frozen? ⟨g, k * 3 + 1, none⟩ = false ∧ (w2.setCell ⟨g, k * 3 + 1, none⟩ (.slice A8 n8 c8)).frozen? ⟨g, k * 3 + 2, none⟩ = false ∧
 PSt w D (some ⟨g, 0, none⟩) n9 c9 T0 (k + 1) ((w2.setCell ⟨g, k * 3 + 1, none⟩ (.slice A8 n8 c8)).setCell ⟨g, k * 3 + 2, none⟩ (.int .i64 T0[k].K)) (T1.set k ⟨T0[k].nm, A8, n8, c8, T0[k].L, T0[k].K⟩) := by
 have hg : g < D := h.dom g rfl
 have hk1 : k < T1.length := by rw [h.len]; exact hk
 have hT := h.hi k hk hk1 (Nat.le_refl _)
 obtain ⟨hgB, hf1, ho1⟩ := ownT_put2 (h.own.below hb) k hk1 1 (by omega) (.slice A8 n8 c8) ⟨T0[k].nm, A8, n8, c8, T0[k].L, T0[k].K⟩ (by rw [hT]; rfl)
 have hk2 : k < (T1.set k ⟨T0[k].nm, A8, n8, c8, T0[k].L, T0[k].K⟩).length := by rw [List.length_set]; exact hk1
 obtain ⟨_, hf2, ho2⟩ := ownT_put2 ho1 k hk2 2 (by omega) (.int .i64 T0[k].K) ⟨T0[k].nm, A8, n8, c8, T0[k].L, T0[k].K⟩ (by rw [List.getElem_set_self]; rfl)
 rw [List.set_set] at ho2
 refine ⟨hf1, hf2, ho2, h.dom, by rw [List.length_set]; exact h.len, fun i h1 h2 hik => ?_, fun i h1 h2 hik => ?_, ?_, ?_⟩
 ·rw [List.length_set] at h2
  by_cases e : k = i
  ·subst e
   rw [List.getElem_set_self]
   exact ⟨rfl, ((ownC_down ho h.big).far (p := ⟨g, k * 3 + 1, none⟩) hg _).far (p := ⟨g, k * 3 + 2, none⟩) hg _⟩
  ·rw [List.getElem_set_ne e]
   have hc := h.lo i h1 h2 (by omega)
   exact ⟨hc.td, ((hc.own.below hb).far (p := ⟨g, k * 3 + 1, none⟩) hg _).far (p := ⟨g, k * 3 + 2, none⟩) hg _⟩
 ·rw [List.length_set] at h2
  rw [List.getElem_set_ne (by omega)]
  exact h.hi i h1 h2 (by omega)
 ·exact ((h.bel.trans (hb.mono h.bel.size)).setCell hgB _).setCell hgB _
 ·have h1 := h.big
  have h2 := hb.size
  simp
  omega
end Go.Proofs.YtnpmgempkoeapaaGreatDoor
