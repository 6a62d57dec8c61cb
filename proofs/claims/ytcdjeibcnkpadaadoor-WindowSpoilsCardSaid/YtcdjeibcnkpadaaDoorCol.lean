/-
  Columns, and rows of them.
-/
import Derived.Test.YtcdjeibcnkpadaaDoorOwnV
namespace Go.Proofs.YtcdjeibcnkpadaaDoor
open Go.RowKit Dg
/-- A column: its name, its kind, whether Null may stand there. -/
structure Cl where
  nm : ByteArray
  k : Int
  no : Bool
def Cl.val (x : Cl) : Value := .agg #[.string x.nm, .int .i64 x.k, .bool x.no]
def Cl.cells (x : Cl) : List Value := [.string x.nm, .int .i64 x.k, .bool x.no]
/-- Its name can be a string, its kind a number of 64 bits. -/
def Cl.fit (x : Cl) : Prop := x.nm.size ≤ 140737488355328 ∧ -9223372036854775808 ≤ x.k ∧ x.k ≤ 9223372036854775807
/-- The cells at A read as the columns L. -/
def CRow (w : World) (A : Option Addr) (L : List Cl) : Prop :=
  L ≠ [] → ∃ b off, A = some ⟨b, off, none⟩ ∧ ∀ i (h : i < L.length), w.cell? ⟨b, off + i * 3, none⟩ = some (.string L[i].nm) ∧ w.cell? ⟨b, off + i * 3 + 1, none⟩ = some (.int .i64 L[i].k) ∧ w.cell? ⟨b, off + i * 3 + 2, none⟩ = some (.bool L[i].no)
theorem CRow.below {w w' : World} {A : Option Addr} {L : List Cl} (h : CRow w A L) (hb : Below w.heap.size w w') : CRow w' A L := fun hl => by
  obtain ⟨b, off, e, hc⟩ := h hl
  refine ⟨b, off, e, fun i hi => ?_⟩
  obtain ⟨h0, h1, h2⟩ := hc i hi
  exact ⟨(hb.cell (World.block_lt_of_cell? w _ h0)).trans h0, (hb.cell (World.block_lt_of_cell? w _ h1)).trans h1, (hb.cell (World.block_lt_of_cell? w _ h2)).trans h2⟩
theorem infoC : (Tryd.prog.info? 47).map (fun i => (i.zero, i.size, i.bytes)) = some (some (.agg #[.string ⟨#[]⟩, .int .i64 0, .bool false]), 3, 32) := by kernel_rfl
/-- Columns in a row of the call's own. -/
def OwnC (B : Nat) (w : World) (v : Value) (L : List Cl) : Prop := w.ownsRow B 47 3 v L.length (L.flatMap Cl.cells)
theorem ownC_nil (B : Nat) (w : World) : OwnC B w (.slice none 0 0) [] := World.ownsRow_nil _ _ _ _
theorem OwnC.below {B : Nat} {w w' : World} {v : Value} {L : List Cl} (h : OwnC B w v L) (hb : Below w.heap.size w w') : OwnC B w' v L := by
  rcases h.2 with ⟨hv, hn⟩ | ⟨g, cap, cur, hv, hg, hh, hc, hcm, hsz, ht⟩
  · exact ⟨h.1, .inl ⟨hv, hn⟩⟩
  · exact ⟨h.1, .inr ⟨g, cap, cur, hv, hg, Has.below (t := 47) (cs := cur) hh hb (Has.lt (t := 47) (cs := cur) hh), hc, hcm, hsz, ht⟩⟩
theorem cflat_len (L : List Cl) : (L.flatMap Cl.cells).length = L.length * 3 := by
  induction L with
  | nil => rfl
  | cons x L ih => rw [List.flatMap_cons, List.length_append, ih]; simp [Cl.cells]; omega
theorem cflat_get (L : List Cl) (i j : Nat) (h : i < L.length) (hj : j < 3) : (L.flatMap Cl.cells)[i * 3 + j]? = L[i].cells[j]? := by
  induction L generalizing i with
  | nil => simp at h
  | cons x L ih =>
    rw [List.flatMap_cons]
    rcases i with _ | i
    · rw [List.getElem?_append_left (by simp [Cl.cells]; omega)]
      simp
    · rw [List.getElem?_append_right (by simp [Cl.cells]; omega)]
      have e : (i + 1) * 3 + j - x.cells.length = i * 3 + j := by simp [Cl.cells]; omega
      rw [e, ih i (by simpa using h)]
      simp
theorem ownC_row {B : Nat} {w : World} {v : Value} {L : List Cl} (h : OwnC B w v L) : ∃ A c, v = .slice A L.length c ∧ L.length ≤ c ∧ c ≤ maxLen ∧ CRow w A L ∧ (A = none → c = 0) := by
  rcases h.2 with ⟨hv, hn⟩ | ⟨g, cap, cur, hv, _, hh, hc, hcm, hsz, ht⟩
  · obtain rfl := List.eq_nil_of_length_eq_zero hn
    exact ⟨none, 0, hv, Nat.le_refl _, Nat.zero_le _, fun h => absurd rfl h, fun _ => rfl⟩
  · refine ⟨_, _, hv, hc, hcm, fun _ => ⟨g, 0, rfl, fun i hi => ?_⟩, fun e => by cases e⟩
    have hq : ∀ j, j < 3 → w.cell? ⟨g, 0 + (i * 3 + j), none⟩ = L[i].cells[j]? := fun j hj => by
      rw [Nat.zero_add, Has.cell (t := 47) (cs := cur) hh, ← cflat_get L i j hi hj, ← ht, List.getElem?_take, if_pos (by omega)]
      simp
    have q0 := hq 0 (by omega)
    have q1 := hq 1 (by omega)
    have q2 := hq 2 (by omega)
    exact ⟨q0, q1, q2⟩
/-- One column is put behind a row of the call's own. -/
theorem appC (w : World) (g : Nat) (hg0 : g = w.heap.size) (B : Nat) (v : Value) (L : List Cl) (x : Cl) (h : OwnC B w v L) (hB : B ≤ w.heap.size) (hl : L.length ≤ 1000) :
    ∃ R W', (Builtin.append_ #[22, 22] 22 #[v, .slice (some ⟨g, 0, none⟩) 1 1]).run Tryd.prog (w.alloc (.cells #[.string x.nm, .int .i64 x.k, .bool x.no] 47)) = .ok R W' ∧ OwnC B W' R (L ++ [x]) ∧ Below B w W' := by
  subst hg0
  obtain ⟨i0, hi, hz0, hz1, hz2⟩ := info_parts infoC
  obtain ⟨R, W', hrun, hown, hg, _⟩ := run_append_own (P := Tryd.prog) (w.alloc (.cells x.cells.toArray 47)) B 22 22 47 i0 _ 3 32 Tryd.underlying22 hi hz0 hz1 hz2 rfl (by decide) v L.length (L.flatMap Cl.cells) (h.alloc _)
    ⟨w.heap.size, 0, none⟩ 1 1 x.cells rfl (fun j u hj => by
      have := (Has.new w 47 x.cells.toArray).cell j
      rw [List.getElem?_toArray] at this
      rw [Addr.add_lit, Nat.zero_add]
      exact this.trans hj) (fun u hu => by simp [Cl.cells] at hu; rcases hu with rfl | rfl | rfl <;> rfl) (by unfold maxLen; omega) (by omega) (by simp; omega)
  refine ⟨R, W', hrun, ?_, ?_⟩
  · unfold OwnC; rw [List.flatMap_append, List.length_append]; simpa using hown
  · exact ((Below.refl B w).alloc hB _).grown hg (by simp; omega) fun k hk => (World.ownsRow.lt h k hk).1
theorem crow_cell {w : World} {b off : Nat} {M : List Cl} (h : ∀ i (h : i < M.length), w.cell? ⟨b, off + i * 3, none⟩ = some (.string M[i].nm) ∧ w.cell? ⟨b, off + i * 3 + 1, none⟩ = some (.int .i64 M[i].k) ∧ w.cell? ⟨b, off + i * 3 + 2, none⟩ = some (.bool M[i].no)) (j : Nat) (u : Value) (hj : (M.flatMap Cl.cells)[j]? = some u) : w.cell? ⟨b, off + j, none⟩ = some u := by
  have hjl : j < M.length * 3 := by
    have := (List.getElem?_eq_some_iff.1 hj).1
    rwa [cflat_len] at this
  have hi : j / 3 < M.length := by omega
  have e : j = j / 3 * 3 + j % 3 := by omega
  have hr : j % 3 = 0 ∨ j % 3 = 1 ∨ j % 3 = 2 := by omega
  rw [e, cflat_get M (j / 3) (j % 3) hi (by omega)] at hj
  obtain ⟨h0, h1, h2⟩ := h (j / 3) hi
  rw [e]
  rcases hr with hr | hr | hr <;> rw [hr] at hj ⊢
  · rw [← hj]; exact h0
  · rw [← hj]; exact h1
  · rw [← hj]; exact h2
/-- A row of columns is put behind one of the call's own. -/
theorem appCs (w : World) (B : Nat) (v : Value) (L : List Cl) (h : OwnC B w v L) (hB : B ≤ w.heap.size) (A : Option Addr) (M : List Cl) (n c : Nat) (hn : M.length = n) (hA : CRow w A M) (h0 : A = none → c = 0) (hl : L.length + n ≤ 1000) :
    ∃ R W', (Builtin.append_ #[22, 22] 22 #[v, .slice A n c]).run Tryd.prog w = .ok R W' ∧ OwnC B W' R (L ++ M) ∧ Below B w W' := by
  subst hn
  obtain ⟨i0, hi, hz0, hz1, hz2⟩ := info_parts infoC
  by_cases hM : M = []
  · subst hM
    rcases A with _ | a
    · rw [h0 rfl, List.append_nil]
      exact ⟨v, w, run_append_owned_none w B 22 22 47 i0 3 Tryd.underlying22 hi v _ _ h, h, Below.refl _ _⟩
    · obtain ⟨R, W', hrun, hown, hg, _⟩ := run_append_own (P := Tryd.prog) w B 22 22 47 i0 _ 3 32 Tryd.underlying22 hi hz0 hz1 hz2 rfl (by decide) v L.length (L.flatMap Cl.cells) h
        a 0 c [] rfl (fun j u hj => by simp at hj) (fun u hu => by cases hu) (by unfold maxLen; omega) (by omega) hB
      refine ⟨R, W', hrun, ?_, (Below.refl B w).grown hg hB fun k hk => (World.ownsRow.lt h k hk).1⟩
      unfold OwnC; simpa using hown
  · obtain ⟨b, off, rfl, hc⟩ := hA hM
    obtain ⟨R, W', hrun, hown, hg, _⟩ := run_append_own (P := Tryd.prog) w B 22 22 47 i0 _ 3 32 Tryd.underlying22 hi hz0 hz1 hz2 rfl (by decide) v L.length (L.flatMap Cl.cells) h
      ⟨b, off, none⟩ M.length c (M.flatMap Cl.cells) (by rw [cflat_len]) (fun j u hj => by rw [Addr.add_lit]; exact crow_cell hc j u hj) (fun u hu => by
        obtain ⟨x, _, hx⟩ := List.mem_flatMap.1 hu
        simp [Cl.cells] at hx; rcases hx with rfl | rfl | rfl <;> rfl) (by unfold maxLen; omega) (by omega) hB
    refine ⟨R, W', hrun, ?_, (Below.refl B w).grown hg hB fun k hk => (World.ownsRow.lt h k hk).1⟩
    unfold OwnC; rw [List.flatMap_append, List.length_append]; exact hown
/-- A row of the call's own, its length under a letter. -/
theorem ownC_open {B : Nat} {w : World} {v : Value} {L : List Cl} (h : OwnC B w v L) : ∃ A n c, v = .slice A n c ∧ Hid (L.length = n) ∧ n ≤ c ∧ c ≤ maxLen ∧ Hid (CRow w A L) ∧ Hid (A = none → c = 0) := by
  obtain ⟨A, c, e, h1, h2, h3, h4⟩ := ownC_row h
  exact ⟨A, L.length, c, e, rfl, h1, h2, h3, h4⟩
end Go.Proofs.YtcdjeibcnkpadaaDoor
