/-
  does: a deed, of the program's tree and of the document's.
-/
import Derived.Test.YtmapclocbhkpbaaRTe
namespace Go.Proofs.Ytmapclocbhkpbaa
open Go.RowKit Go.Maps Dg
set_option linter.unusedVariables false
/-- A tree stays where other trees' heads, and blocks of other types, turn. -/
theorem TrAt.turY {tb : Nat} {w w' : World} {T : Tr} {Y : List Nat} (h : TrAt tb w T) (ht : Tur Y w w') (hY : ∀ b ∈ Y, b ≠ tb ∧ ∃ t cs, Has w b t cs ∧ t ≠ 57) : TrAt tb w' T := by
  refine ⟨h.top.tur ht (fun hx => (hY tb hx).1 rfl), ?_, h.bal, h.ris⟩
  have key : ∀ {S : Tr}, IsTr w.heap.size w S → IsTr w.heap.size w' S := by
    intro S
    induction S with
    | nil => intro _; trivial
    | node b l k v lo le r ihl ihr =>
      rintro ⟨h1, h2, h3, h4⟩
      refine ⟨h1, h2.tur ht (fun hx => ?_), ihl h3, ihr h4⟩
      obtain ⟨-, t, cs, hc, hn⟩ := hY b hx
      exact hc.ne h2 hn rfl
  exact (key h.tr).mono ht.size
/-- The program's tree and the document's, of the same keys and things. -/
structure Duo (B tb rb : Nat) (X : List Nat) (w : World) (T : Tr) : Prop where
  t : TrAt tb w T
  r : RfAt B rb X w T.con
  le : B ≤ tb
theorem Duo.far {B tb rb : Nat} {X : List Nat} {w : World} {T : Tr} (h : Duo B tb rb X w T) : ∀ b ∈ tb :: X, B ≤ b ∧ b < w.heap.size ∧ ∃ t cs, Has w b t cs ∧ t ≠ 57 := by
  intro b hb
  rcases List.mem_cons.1 hb with e | hb
  · rw [e]; exact ⟨h.le, h.t.top.lt, _, _, h.t.top, by decide⟩
  · obtain ⟨g1, g2, t, cs, hc, hy⟩ := h.r.far b hb
    exact ⟨g1, g2, t, cs, hc, by rcases hy with e | e | e <;> rw [e] <;> decide⟩
theorem Duo.below {B tb rb : Nat} {X : List Nat} {w w' : World} {T : Tr} (h : Duo B tb rb X w T) (hb : Below w.heap.size w w') : Duo B tb rb X w' T := ⟨h.t.below hb, h.r.below hb, h.le⟩
/-- What is done leaves another pair. -/
theorem Duo.tur {B tb rb : Nat} {X Y : List Nat} {w w' : World} {T : Tr} (h : Duo B tb rb X w T) (ht : Tur Y w w') (hd : ∀ b ∈ tb :: X, b ∉ Y) (hY : ∀ b ∈ Y, ∃ t cs, Has w b t cs ∧ t ≠ 57) : Duo B tb rb X w' T :=
  ⟨h.t.turY ht fun b hb => ⟨fun e => hd tb List.mem_cons_self (by rw [← e]; exact hb), hY b hb⟩, h.r.tur ht fun b hb => hd b (List.mem_cons_of_mem _ hb), h.le⟩
/-- A tree does something, its twin the same. -/
theorem Duo.one {B tb rb : Nat} {X : List Nat} {w w1 w2 : World} {T T' : Tr} {X' : List Nat} (h : Duo B tb rb X w T) (t1 : Tur [tb] w w1) (hT : TrAt tb w1 T') (hR : RfAt B rb X' w2 T'.con) (t2 : Tur X w1 w2) (f2 : Fre X X' w1) : Duo B tb rb X' w2 T' ∧ Tur (tb :: X) w w2 ∧ Fre (tb :: X) (tb :: X') w := by
  have hr1 := h.r.tr h.t t1
  refine ⟨⟨hT.rf hr1 t2, hR, h.le⟩, ?_, ?_⟩
  · refine (t1.sub (Y := tb :: X) (fun b hb => ?_)).trans (t2.sub (Y := tb :: X) fun b hb => List.mem_cons_of_mem _ hb) (Fre.refl _ _)
    have e : b = tb := by simpa using hb
    rw [e]; exact List.mem_cons_self
  · intro b hb
    rcases List.mem_cons.1 hb with e | hb
    · exact .inl (by rw [e]; exact List.mem_cons_self)
    · rcases f2 b hb with q | q
      · exact .inl (List.mem_cons_of_mem _ q)
      · exact .inr (by have := t1.size; omega)
/-- The same, the twin first. -/
theorem Duo.two {B tb rb : Nat} {X : List Nat} {w w1 w2 : World} {T T' : Tr} {X' : List Nat} (h : Duo B tb rb X w T) (hR : RfAt B rb X' w1 T'.con) (t1 : Tur X w w1) (f1 : Fre X X' w) (hT : TrAt tb w2 T') (t2 : Tur [tb] w1 w2) (ht1 : TrAt tb w1 T) : Duo B tb rb X' w2 T' ∧ Tur (tb :: X) w w2 ∧ Fre (tb :: X) (tb :: X') w := by
  refine ⟨⟨hT, hR.tr ht1 t2, h.le⟩, ?_, ?_⟩
  · refine (t1.sub (Y := tb :: X) fun b hb => List.mem_cons_of_mem _ hb).trans (t2.sub (Y := tb :: X) (fun b hb => ?_)) (Fre.refl _ _)
    have e : b = tb := by simpa using hb
    rw [e]; exact List.mem_cons_self
  · intro b hb
    rcases List.mem_cons.1 hb with e | hb
    · exact .inl (by rw [e]; exact List.mem_cons_self)
    · rcases f1 b hb with q | q
      · exact .inl (List.mem_cons_of_mem _ q)
      · exact .inr q
/-- What a deed leaves. -/
def Did (B tb rb : Nat) (X : List Nat) (w w' : World) (T : Tr) : Prop := ∃ T' X', Duo B tb rb X' w' T' ∧ Tur (tb :: X) w w' ∧ Fre (tb :: X) (tb :: X') w ∧ T'.con.length ≤ T.con.length + 1
theorem cutL_few (key : ByteArray) (C : List (ByteArray × Int)) : (cutL key C).length ≤ C.length + 1 := Nat.le_trans (List.length_filter_le _ _) (Nat.le_succ _)
theorem keysL_len (C : List (ByteArray × Int)) (a : ByteArray) (m : Int) : (keysL C a m).length ≤ C.length := by
  unfold keysL
  split
  · simp
  · rw [List.length_take, List.length_map]
    exact Nat.le_trans (Nat.min_le_right _ _) (Nat.le_trans (List.length_filter_le _ _) (List.length_filter_le _ _))
/-- From a world with a block more. -/
theorem Did.from {B tb rb : Nat} {X : List Nat} {w w1 w' : World} {T : Tr} (h : Did B tb rb X w1 w' T) (hb : Below w.heap.size w w1) : Did B tb rb X w w' T := by
  obtain ⟨T', X', h1, h2, h3, h4⟩ := h
  refine ⟨T', X', h1, (Tur.of_below (X := tb :: X) hb).trans h2 (Fre.refl _ _), fun b hx => (h3 b hx).imp id fun q => ?_, h4⟩
  have := hb.size
  omega
set_option maxHeartbeats 8000000 in
set_option maxRecDepth 100000 in
theorem does_put {B tb rb : Nat} {X : List Nat} {w : World} {T : Tr} (h : Duo B tb rb X w T) (hz : T.con.length ≤ 80000) (n : Int) (s : ByteArray) :
    Calls Try.prog 8 #[.pointer (some ⟨tb, 0, none⟩), .pointer (some ⟨rb, 0, none⟩), .agg #[.int .i64 0, .int .i64 n, .string s]] w fun e w' => e = .returned (.bool true) ∧ Did B tb rb X w w' T := by
  obtain ⟨w1, HW1⟩ : ∃ w1, Hid (w1 = w.alloc (.cells #[.int .i64 0, .int .i64 n, .string s] 32)) := ⟨_, rfl⟩
  have b1 : Below w.heap.size w w1 := by rw [HW1.out]; exact (Below.refl _ w).alloc (Nat.le_refl _) _
  have hd := Has.new w 32 #[.int .i64 0, .int .i64 n, .string s]
  rw [← HW1.out] at hd
  have c0 : w1.cell? ⟨w.heap.size, 0, none⟩ = some (.int .i64 0) := hd.cell 0
  have c1 : w1.cell? ⟨w.heap.size, 1, none⟩ = some (.int .i64 n) := hd.cell 1
  have c2 : w1.cell? ⟨w.heap.size, 2, none⟩ = some (.string s) := hd.cell 2
  have HDD := Lib.hid (h.below b1)
  have HB := Lib.hid b1
  have hfar : ∀ b ∈ tb :: X, b ≠ w.heap.size := fun b hb e => by
    have := (h.far b hb).2.1
    omega
  have HF := Lib.hid hfar
  have HH := Lib.hid hd
  have hk9 : (fewS s).size ≤ 140737488355328 := by have := fewS_size s; omega
  clear h b1 hfar hd
  go_enter Try.func8, Try.ntmps8
  go_wp2_with fail
  refine (few_any _ s).mono ?_
  rintro e w2 ⟨rfl, rfl⟩
  rw [← HW1.out]
  go_wp2_with fail
  have HD1 := Lib.hid (HDD.out.below (Below.refl _ w1).drew)
  have c1d : w1.drew.cell? ⟨w.heap.size, 1, none⟩ = some (.int .i64 n) := c1
  have hw1 : w.heap.size < w1.drew.heap.size := HH.out.lt
  refine wp_region_held_drew (S := fun X => X.cell? ⟨w.heap.size, 1, none⟩ = some (.int .i64 n)) (by kernel_rfl) (by exact c1d) (fun _ => ?_)
  (refine wpAnyH_take (i := 0) (v := ?_) rfl (by kernel_rfl) (by kernel_rfl) (by kernel_rfl) (fun _ _ _ h => h) (Or.inl ⟨by rfl, ?_⟩) (by assumption) ?_; rotate_left; (intro w hSw; (try dsimp only at hSw); go_simp; try with_reducible rfl); ((try simp only [List.getElem_toArray]); (try simp only [List.getElem_cons_succ]); (try simp only [List.getElem_cons_zero]); (try simp only [Act.put]); (try simp only [List.setIfInBounds_toArray]); (try simp only [List.set_cons_succ]); (try simp only [List.set_cons_zero])))
  (refine wpAnyH_take (i := 1) (v := ?_) rfl (by kernel_rfl) (by kernel_rfl) (by kernel_rfl) (fun _ _ _ h => h) (Or.inl ⟨by rfl, ?_⟩) (by assumption) ?_; rotate_left; (intro w hSw; (try dsimp only at hSw); go_simp; try with_reducible rfl); ((try simp only [List.getElem_toArray]); (try simp only [List.getElem_cons_succ]); (try simp only [List.getElem_cons_zero]); (try simp only [Act.put]); (try simp only [List.setIfInBounds_toArray]); (try simp only [List.set_cons_succ]); (try simp only [List.set_cons_zero])))
  (refine wpAnyH_take (i := 2) (v := ?_) rfl (by kernel_rfl) (by kernel_rfl) (by kernel_rfl) (fun _ _ _ h => h) (Or.inl ⟨by rfl, ?_⟩) (by assumption) ?_; rotate_left; (intro w hSw; (try dsimp only at hSw); go_simp; try with_reducible rfl); ((try simp only [List.getElem_toArray]); (try simp only [List.getElem_cons_succ]); (try simp only [List.getElem_cons_zero]); (try simp only [Act.put]); (try simp only [List.setIfInBounds_toArray]); (try simp only [List.set_cons_succ]); (try simp only [List.set_cons_zero])))
  (refine wpAnyH_take (i := 3) (v := ?_) rfl (by kernel_rfl) (by kernel_rfl) (by kernel_rfl) (fun _ _ _ h => h) (Or.inl ⟨by rfl, ?_⟩) (by assumption) ?_; rotate_left; (intro w hSw; (try dsimp only at hSw); go_simp; try with_reducible rfl); ((try simp only [List.getElem_toArray]); (try simp only [List.getElem_cons_succ]); (try simp only [List.getElem_cons_zero]); (try simp only [Act.put]); (try simp only [List.setIfInBounds_toArray]); (try simp only [List.set_cons_succ]); (try simp only [List.set_cons_zero])))
  (refine wpAnyH_take (i := 5) (v := ?_) rfl (by kernel_rfl) (by kernel_rfl) (by kernel_rfl) (fun _ _ _ h => h) (Or.inl ⟨by rfl, ?_⟩) (by assumption) ?_; rotate_left; (intro w hSw; (try dsimp only at hSw); go_simp; try with_reducible rfl); ((try simp only [List.getElem_toArray]); (try simp only [List.getElem_cons_succ]); (try simp only [List.getElem_cons_zero]); (try simp only [Act.put]); (try simp only [List.setIfInBounds_toArray]); (try simp only [List.set_cons_succ]); (try simp only [List.set_cons_zero])))
  (refine wpAnyH_take (i := 6) (v := ?_) rfl (by kernel_rfl) (by kernel_rfl) (by kernel_rfl) (fun _ _ _ h => h) (Or.inl ⟨by rfl, ?_⟩) (by assumption) ?_; rotate_left; (intro w hSw; (try dsimp only at hSw); go_simp; try with_reducible rfl); ((try simp only [List.getElem_toArray]); (try simp only [List.getElem_cons_succ]); (try simp only [List.getElem_cons_zero]); (try simp only [Act.put]); (try simp only [List.setIfInBounds_toArray]); (try simp only [List.set_cons_succ]); (try simp only [List.set_cons_zero])))
  (refine wpAnyH_take (i := 7) (v := ?_) rfl (by kernel_rfl) (by kernel_rfl) (by kernel_rfl) (fun _ _ _ h => h) (Or.inl ⟨by rfl, ?_⟩) (by assumption) ?_; rotate_left; (intro w hSw; (try dsimp only at hSw); go_simp; try with_reducible rfl); ((try simp only [List.getElem_toArray]); (try simp only [List.getElem_cons_succ]); (try simp only [List.getElem_cons_zero]); (try simp only [Act.put]); (try simp only [List.setIfInBounds_toArray]); (try simp only [List.set_cons_succ]); (try simp only [List.set_cons_zero])))
  (refine wpAnyH_take (i := 8) (v := ?_) rfl (by kernel_rfl) (by kernel_rfl) (by kernel_rfl) (fun _ _ _ h => h) (Or.inl ⟨by rfl, ?_⟩) (by assumption) ?_; rotate_left; (intro w hSw; (try dsimp only at hSw); go_simp; try with_reducible rfl); ((try simp only [List.getElem_toArray]); (try simp only [List.getElem_cons_succ]); (try simp only [List.getElem_cons_zero]); (try simp only [Act.put]); (try simp only [List.setIfInBounds_toArray]); (try simp only [List.set_cons_succ]); (try simp only [List.set_cons_zero])))
  refine wpAnyH_ready (rs := [4]) (by kernel_rfl) (by simp) ?_
  refine AllReadyH.cons rfl (fun K2 hK2 => ?_) AllReadyH.nil
  go_simp
  refine (tput_any (tb := tb) (w := w1.drew) (T := T) HD1.out.t (by omega) (fewS s) hk9 n).mono ?_
  rintro e w3 ⟨rfl, T', h3, cc3, t3⟩
  have hr3 := HD1.out.r.tr HD1.out.t t3
  have c3 : w3.cell? ⟨w.heap.size, 1, none⟩ = some (.int .i64 n) := (cell_same (t3.block w.heap.size hw1 (fun hx => HF.out tb List.mem_cons_self (by simpa using (Eq.symm (List.mem_singleton.1 hx)))))).trans c1d
  have HR3 := Lib.hid hr3
  have HE : Hid (∀ w4 X', RfAt B rb X' w4 (putL (fewS s) n T.con) → Tur X w3 w4 → Fre X X' w3 → Did B tb rb X w w4 T) := fun w4 X' h4 t4 f4 => by
    obtain ⟨g1, g2, g3⟩ := HD1.out.one t3 h3 (by rw [cc3]; exact h4) t4 f4
    refine Did.from (w1 := w1.drew) ⟨T', X', g1, g2, g3, ?_⟩ (HB.out.trans ((Below.refl _ w1).drew.mono HB.out.size))
    rw [cc3]
    exact putL_len T.con
  have hw3 : w.heap.size < w3.heap.size := Nat.lt_of_lt_of_le hw1 t3.size
  clear hr3 h3 cc3 t3
  go_wp2_with fail
  refine hK2.out _ _ (by exact c3) (fun hq => ?_)
  clear hK2 K2
  ((try simp only [List.getElem_toArray]); (try simp only [List.getElem_cons_succ]); (try simp only [List.getElem_cons_zero]); (try simp only [Act.put]); (try simp only [List.setIfInBounds_toArray]); (try simp only [List.set_cons_succ]); (try simp only [List.set_cons_zero]))
  refine wpAnyH_ready (rs := [9]) (by kernel_rfl) (by simp) ?_
  refine AllReadyH.cons rfl (fun K2 hK2 => ?_) AllReadyH.nil
  go_simp
  refine (rput_any HR3.out (by omega) (fewS s) n).mono ?_
  rintro e w4 ⟨rfl, X', h4, t4, f4⟩
  have HFIN := Lib.hid (HE.out w4 X' h4 t4 f4)
  have c4 : w4.cell? ⟨w.heap.size, 1, none⟩ = some (.int .i64 n) := (cell_same (t4.block w.heap.size hw3 (fun hx => HF.out _ (List.mem_cons_of_mem _ hx) rfl))).trans c3
  clear h4 t4 f4 HE HR3
  go_wp2_with fail
  refine hK2.out _ _ (by exact c4) (fun hq => ?_)
  clear hK2 K2
  ((try simp only [List.getElem_toArray]); (try simp only [List.getElem_cons_succ]); (try simp only [List.getElem_cons_zero]); (try simp only [Act.put]); (try simp only [List.setIfInBounds_toArray]); (try simp only [List.set_cons_succ]); (try simp only [List.set_cons_zero]))
  (refine wpAnyH_take (i := 10) (v := ?_) rfl (by kernel_rfl) (by kernel_rfl) (by kernel_rfl) (fun _ _ _ h => h) (Or.inl ⟨by rfl, ?_⟩) (by assumption) ?_; rotate_left; (intro w hSw; (try dsimp only at hSw); go_simp; try with_reducible rfl); ((try simp only [List.getElem_toArray]); (try simp only [List.getElem_cons_succ]); (try simp only [List.getElem_cons_zero]); (try simp only [Act.put]); (try simp only [List.setIfInBounds_toArray]); (try simp only [List.set_cons_succ]); (try simp only [List.set_cons_zero])))
  (refine wpAnyH_take (i := 11) (v := ?_) rfl (by kernel_rfl) (by kernel_rfl) (by kernel_rfl) (fun _ _ _ h => h) (Or.inl ⟨by rfl, ?_⟩) (by assumption) ?_; rotate_left; (intro w hSw; (try dsimp only at hSw); go_simp; try with_reducible rfl); ((try simp only [List.getElem_toArray]); (try simp only [List.getElem_cons_succ]); (try simp only [List.getElem_cons_zero]); (try simp only [Act.put]); (try simp only [List.setIfInBounds_toArray]); (try simp only [List.set_cons_succ]); (try simp only [List.set_cons_zero])))
  refine wpAnyH_done (by kernel_rfl) ?_ _
  go_wp2_with fail
  go_ret
  exact ⟨rfl, HFIN.out⟩
set_option maxHeartbeats 8000000 in
set_option maxRecDepth 100000 in
theorem does_cut {B tb rb : Nat} {X : List Nat} {w : World} {T : Tr} (h : Duo B tb rb X w T) (hz : T.con.length ≤ 80000) (n : Int) (s : ByteArray) :
    Calls Try.prog 8 #[.pointer (some ⟨tb, 0, none⟩), .pointer (some ⟨rb, 0, none⟩), .agg #[.int .i64 1, .int .i64 n, .string s]] w fun e w' => e = .returned (.bool true) ∧ Did B tb rb X w w' T := by
  obtain ⟨w1, HW1⟩ : ∃ w1, Hid (w1 = w.alloc (.cells #[.int .i64 1, .int .i64 n, .string s] 32)) := ⟨_, rfl⟩
  have b1 : Below w.heap.size w w1 := by rw [HW1.out]; exact (Below.refl _ w).alloc (Nat.le_refl _) _
  have hd := Has.new w 32 #[.int .i64 1, .int .i64 n, .string s]
  rw [← HW1.out] at hd
  have c0 : w1.cell? ⟨w.heap.size, 0, none⟩ = some (.int .i64 1) := hd.cell 0
  have c1 : w1.cell? ⟨w.heap.size, 1, none⟩ = some (.int .i64 n) := hd.cell 1
  have c2 : w1.cell? ⟨w.heap.size, 2, none⟩ = some (.string s) := hd.cell 2
  have HDD := Lib.hid (h.below b1)
  have HB := Lib.hid b1
  have hfar : ∀ b ∈ tb :: X, b ≠ w.heap.size := fun b hb e => by
    have := (h.far b hb).2.1
    omega
  have HF := Lib.hid hfar
  have HH := Lib.hid hd
  have hk9 : (fewS s).size ≤ 140737488355328 := by have := fewS_size s; omega
  clear h b1 hfar hd
  go_enter Try.func8, Try.ntmps8
  go_wp2_with fail
  refine (few_any _ s).mono ?_
  rintro e w2 ⟨rfl, rfl⟩
  rw [← HW1.out]
  have HD1 := HDD
  go_wp2_with fail
  refine (tcut_any HD1.out.t (by omega) (fewS s)).mono ?_
  rintro e w3 ⟨rfl, T', h3, cc3, t3⟩
  have HR3 := Lib.hid (HD1.out.r.tr HD1.out.t t3)
  have HE : Hid (∀ w4 X', RfAt B rb X' w4 (cutL (fewS s) T.con) → Tur X w3 w4 → Fre X X' w3 → Did B tb rb X w w4 T) := fun w4 X' h4 t4 f4 => by
    obtain ⟨g1, g2, g3⟩ := HD1.out.one t3 h3 (by rw [cc3]; exact h4) t4 f4
    refine Did.from (w1 := w1) ⟨T', X', g1, g2, g3, ?_⟩ HB.out
    rw [cc3]
    exact cutL_few _ T.con
  clear h3 cc3 t3
  go_wp2_with fail
  refine (rcut_any HR3.out (by omega) (fewS s)).mono ?_
  rintro e w4 ⟨rfl, X', h4, t4, f4⟩
  have HFIN := Lib.hid (HE.out w4 X' h4 t4 f4)
  clear h4 t4 f4 HE HR3
  go_wp2_with fail
  go_ret
  exact ⟨rfl, HFIN.out⟩
set_option maxHeartbeats 8000000 in
set_option maxRecDepth 100000 in
theorem does_get {B tb rb : Nat} {X : List Nat} {w : World} {T : Tr} (h : Duo B tb rb X w T) (hz : T.con.length ≤ 80000) (kd n : Int) (s : ByteArray) (hk0 : kd ≠ 0) (hk1 : kd ≠ 1) (hn : -9223372036854775808 ≤ n ∧ n ≤ 9223372036854775807) :
    Calls Try.prog 8 #[.pointer (some ⟨tb, 0, none⟩), .pointer (some ⟨rb, 0, none⟩), .agg #[.int .i64 kd, .int .i64 n, .string s]] w fun e w' => e = .returned (.bool true) ∧ Did B tb rb X w w' T := by
  obtain ⟨w1, HW1⟩ : ∃ w1, Hid (w1 = w.alloc (.cells #[.int .i64 kd, .int .i64 n, .string s] 32)) := ⟨_, rfl⟩
  have b1 : Below w.heap.size w w1 := by rw [HW1.out]; exact (Below.refl _ w).alloc (Nat.le_refl _) _
  have hd := Has.new w 32 #[.int .i64 kd, .int .i64 n, .string s]
  rw [← HW1.out] at hd
  have c0 : w1.cell? ⟨w.heap.size, 0, none⟩ = some (.int .i64 kd) := hd.cell 0
  have c1 : w1.cell? ⟨w.heap.size, 1, none⟩ = some (.int .i64 n) := hd.cell 1
  have c2 : w1.cell? ⟨w.heap.size, 2, none⟩ = some (.string s) := hd.cell 2
  have HDD := Lib.hid (h.below b1)
  have HB := Lib.hid b1
  have hfar : ∀ b ∈ tb :: X, b ≠ w.heap.size := fun b hb e => by
    have := (h.far b hb).2.1
    omega
  have HF := Lib.hid hfar
  have HH := Lib.hid hd
  have hk9 : (fewS s).size ≤ 140737488355328 := by have := fewS_size s; omega
  clear h b1 hfar hd
  go_enter Try.func8, Try.ntmps8
  go_wp2_with fail
  refine (few_any _ s).mono ?_
  rintro e w2 ⟨rfl, rfl⟩
  rw [← HW1.out]
  have HD1 := HDD
  have HG1 := Lib.hid (get_any HD1.out.t (fewS s))
  have HG2 := Lib.hid (rget_any HD1.out.r (fewS s))
  generalize (getL (fewS s) T.con).getD 0 = gv at HG1 HG2
  generalize (getL (fewS s) T.con).isSome = gs at HG1 HG2
  go_wp2_with fail
  refine HG1.out.mono ?_
  rintro e w2 ⟨rfl, rfl⟩
  go_wp2_with fail
  refine HG2.out.mono ?_
  rintro e w3 ⟨rfl, rfl⟩
  have HD2 := Lib.hid (HD1.out.below (Below.refl _ w2).drew.drew)
  have HB2 := Lib.hid (HB.out.trans ((Below.refl _ w2).drew.drew.mono HB.out.size))
  have c1d : w2.drew.drew.cell? ⟨w.heap.size, 1, none⟩ = some (.int .i64 n) := c1
  have h1d : Has w2.drew.drew w.heap.size 32 #[.int .i64 kd, .int .i64 n, .string s] := HH.out
  have HHD := Lib.hid h1d
  have hgv : (gv == gv) = true := beq_self_eq_true _
  have hgs : (gs == gs) = true := by cases gs <;> rfl
  clear h1d HG1 HG2 HD1
  go_wp2_with fail
  refine wp_region_held_drew (S := fun X => X.cell? ⟨w.heap.size, 1, none⟩ = some (.int .i64 n)) (by kernel_rfl) (by exact c1d) (fun _ => ?_)
  (refine wpAnyH_take (i := 0) (v := ?_) rfl (by kernel_rfl) (by kernel_rfl) (by kernel_rfl) (fun _ _ _ h => h) (Or.inl ⟨by rfl, ?_⟩) (by assumption) ?_; rotate_left; (intro w hSw; (try dsimp only at hSw); go_simp; try with_reducible rfl); ((try simp only [List.getElem_toArray]); (try simp only [List.getElem_cons_succ]); (try simp only [List.getElem_cons_zero]); (try simp only [Act.put]); (try simp only [List.setIfInBounds_toArray]); (try simp only [List.set_cons_succ]); (try simp only [List.set_cons_zero])))
  (refine wpAnyH_take (i := 1) (v := ?_) rfl (by kernel_rfl) (by kernel_rfl) (by kernel_rfl) (fun _ _ _ h => h) (Or.inl ⟨by rfl, ?_⟩) (by assumption) ?_; rotate_left; (intro w hSw; (try dsimp only at hSw); go_simp; try with_reducible rfl); ((try simp only [List.getElem_toArray]); (try simp only [List.getElem_cons_succ]); (try simp only [List.getElem_cons_zero]); (try simp only [Act.put]); (try simp only [List.setIfInBounds_toArray]); (try simp only [List.set_cons_succ]); (try simp only [List.set_cons_zero])))
  (refine wpAnyH_take (i := 2) (v := ?_) rfl (by kernel_rfl) (by kernel_rfl) (by kernel_rfl) (fun _ _ _ h => h) (Or.inl ⟨by rfl, ?_⟩) (by assumption) ?_; rotate_left; (intro w hSw; (try dsimp only at hSw); go_simp; try with_reducible rfl); ((try simp only [List.getElem_toArray]); (try simp only [List.getElem_cons_succ]); (try simp only [List.getElem_cons_zero]); (try simp only [Act.put]); (try simp only [List.setIfInBounds_toArray]); (try simp only [List.set_cons_succ]); (try simp only [List.set_cons_zero])))
  (refine wpAnyH_take (i := 3) (v := ?_) rfl (by kernel_rfl) (by kernel_rfl) (by kernel_rfl) (fun _ _ _ h => h) (Or.inl ⟨by rfl, ?_⟩) (by assumption) ?_; rotate_left; (intro w hSw; (try dsimp only at hSw); go_simp; try with_reducible rfl); ((try simp only [List.getElem_toArray]); (try simp only [List.getElem_cons_succ]); (try simp only [List.getElem_cons_zero]); (try simp only [Act.put]); (try simp only [List.setIfInBounds_toArray]); (try simp only [List.set_cons_succ]); (try simp only [List.set_cons_zero])))
  (refine wpAnyH_take (i := 4) (v := ?_) rfl (by kernel_rfl) (by kernel_rfl) (by kernel_rfl) (fun _ _ _ h => h) (Or.inl ⟨by rfl, ?_⟩) (by assumption) ?_; rotate_left; (intro w hSw; (try dsimp only at hSw); go_simp; try with_reducible rfl); ((try simp only [List.getElem_toArray]); (try simp only [List.getElem_cons_succ]); (try simp only [List.getElem_cons_zero]); (try simp only [Act.put]); (try simp only [List.setIfInBounds_toArray]); (try simp only [List.set_cons_succ]); (try simp only [List.set_cons_zero])))
  (refine wpAnyH_take (i := 5) (v := ?_) rfl (by kernel_rfl) (by kernel_rfl) (by kernel_rfl) (fun _ _ _ h => h) (Or.inl ⟨by rfl, ?_⟩) (by assumption) ?_; rotate_left; (intro w hSw; (try dsimp only at hSw); go_simp; try with_reducible rfl); ((try simp only [List.getElem_toArray]); (try simp only [List.getElem_cons_succ]); (try simp only [List.getElem_cons_zero]); (try simp only [Act.put]); (try simp only [List.setIfInBounds_toArray]); (try simp only [List.set_cons_succ]); (try simp only [List.set_cons_zero])))
  (refine wpAnyH_take (i := 6) (v := ?_) rfl (by kernel_rfl) (by kernel_rfl) (by kernel_rfl) (fun _ _ _ h => h) (Or.inl ⟨by rfl, ?_⟩) (by assumption) ?_; rotate_left; (intro w hSw; (try dsimp only at hSw); go_simp; try with_reducible rfl); ((try simp only [List.getElem_toArray]); (try simp only [List.getElem_cons_succ]); (try simp only [List.getElem_cons_zero]); (try simp only [Act.put]); (try simp only [List.setIfInBounds_toArray]); (try simp only [List.set_cons_succ]); (try simp only [List.set_cons_zero])))
  (refine wpAnyH_take (i := 7) (v := ?_) rfl (by kernel_rfl) (by kernel_rfl) (by kernel_rfl) (fun _ _ _ h => h) (Or.inl ⟨by rfl, ?_⟩) (by assumption) ?_; rotate_left; (intro w hSw; (try dsimp only at hSw); go_simp; try with_reducible rfl); ((try simp only [List.getElem_toArray]); (try simp only [List.getElem_cons_succ]); (try simp only [List.getElem_cons_zero]); (try simp only [Act.put]); (try simp only [List.setIfInBounds_toArray]); (try simp only [List.set_cons_succ]); (try simp only [List.set_cons_zero])))
  (refine wpAnyH_take (i := 8) (v := ?_) rfl (by kernel_rfl) (by kernel_rfl) (by kernel_rfl) (fun _ _ _ h => h) (Or.inl ⟨by rfl, ?_⟩) (by assumption) ?_; rotate_left; (intro w hSw; (try dsimp only at hSw); go_simp; try with_reducible rfl); ((try simp only [List.getElem_toArray]); (try simp only [List.getElem_cons_succ]); (try simp only [List.getElem_cons_zero]); (try simp only [Act.put]); (try simp only [List.setIfInBounds_toArray]); (try simp only [List.set_cons_succ]); (try simp only [List.set_cons_zero])))
  (refine wpAnyH_take (i := 9) (v := ?_) rfl (by kernel_rfl) (by kernel_rfl) (by kernel_rfl) (fun _ _ _ h => h) (Or.inl ⟨by rfl, ?_⟩) (by assumption) ?_; rotate_left; (intro w hSw; (try dsimp only at hSw); go_simp; try with_reducible rfl); ((try simp only [List.getElem_toArray]); (try simp only [List.getElem_cons_succ]); (try simp only [List.getElem_cons_zero]); (try simp only [Act.put]); (try simp only [List.setIfInBounds_toArray]); (try simp only [List.set_cons_succ]); (try simp only [List.set_cons_zero])))
  (refine wpAnyH_take (i := 10) (v := ?_) rfl (by kernel_rfl) (by kernel_rfl) (by kernel_rfl) (fun _ _ _ h => h) (Or.inl ⟨by rfl, ?_⟩) (by assumption) ?_; rotate_left; (intro w hSw; (try dsimp only at hSw); go_simp; try with_reducible rfl); ((try simp only [List.getElem_toArray]); (try simp only [List.getElem_cons_succ]); (try simp only [List.getElem_cons_zero]); (try simp only [Act.put]); (try simp only [List.setIfInBounds_toArray]); (try simp only [List.set_cons_succ]); (try simp only [List.set_cons_zero])))
  (refine wpAnyH_take (i := 11) (v := ?_) rfl (by kernel_rfl) (by kernel_rfl) (by kernel_rfl) (fun _ _ _ h => h) (Or.inl ⟨by rfl, ?_⟩) (by assumption) ?_; rotate_left; (intro w hSw; (try dsimp only at hSw); go_simp; try with_reducible rfl); ((try simp only [List.getElem_toArray]); (try simp only [List.getElem_cons_succ]); (try simp only [List.getElem_cons_zero]); (try simp only [Act.put]); (try simp only [List.setIfInBounds_toArray]); (try simp only [List.set_cons_succ]); (try simp only [List.set_cons_zero])))
  (refine wpAnyH_take (i := 12) (v := ?_) rfl (by kernel_rfl) (by kernel_rfl) (by kernel_rfl) (fun _ _ _ h => h) (Or.inl ⟨by rfl, ?_⟩) (by assumption) ?_; rotate_left; (intro w hSw; (try dsimp only at hSw); go_simp; try with_reducible rfl); ((try simp only [List.getElem_toArray]); (try simp only [List.getElem_cons_succ]); (try simp only [List.getElem_cons_zero]); (try simp only [Act.put]); (try simp only [List.setIfInBounds_toArray]); (try simp only [List.set_cons_succ]); (try simp only [List.set_cons_zero])))
  (refine wpAnyH_take (i := 13) (v := ?_) rfl (by kernel_rfl) (by kernel_rfl) (by kernel_rfl) (fun _ _ _ h => h) (Or.inl ⟨by rfl, ?_⟩) (by assumption) ?_; rotate_left; (intro w hSw; (try dsimp only at hSw); go_simp; try with_reducible rfl); ((try simp only [List.getElem_toArray]); (try simp only [List.getElem_cons_succ]); (try simp only [List.getElem_cons_zero]); (try simp only [Act.put]); (try simp only [List.setIfInBounds_toArray]); (try simp only [List.set_cons_succ]); (try simp only [List.set_cons_zero])))
  (refine wpAnyH_take (i := 15) (v := ?_) rfl (by kernel_rfl) (by kernel_rfl) (by kernel_rfl) (fun _ _ _ h => h) (Or.inl ⟨by rfl, ?_⟩) (by assumption) ?_; rotate_left; (intro w hSw; (try dsimp only at hSw); go_simp; try with_reducible rfl); ((try simp only [List.getElem_toArray]); (try simp only [List.getElem_cons_succ]); (try simp only [List.getElem_cons_zero]); (try simp only [Act.put]); (try simp only [List.setIfInBounds_toArray]); (try simp only [List.set_cons_succ]); (try simp only [List.set_cons_zero])))
  (refine wpAnyH_take (i := 16) (v := ?_) rfl (by kernel_rfl) (by kernel_rfl) (by kernel_rfl) (fun _ _ _ h => h) (Or.inl ⟨by rfl, ?_⟩) (by assumption) ?_; rotate_left; (intro w hSw; (try dsimp only at hSw); go_simp; try with_reducible rfl); ((try simp only [List.getElem_toArray]); (try simp only [List.getElem_cons_succ]); (try simp only [List.getElem_cons_zero]); (try simp only [Act.put]); (try simp only [List.setIfInBounds_toArray]); (try simp only [List.set_cons_succ]); (try simp only [List.set_cons_zero])))
  (refine wpAnyH_take (i := 17) (v := ?_) rfl (by kernel_rfl) (by kernel_rfl) (by kernel_rfl) (fun _ _ _ h => h) (Or.inl ⟨by rfl, ?_⟩) (by assumption) ?_; rotate_left; (intro w hSw; (try dsimp only at hSw); go_simp; try with_reducible rfl); ((try simp only [List.getElem_toArray]); (try simp only [List.getElem_cons_succ]); (try simp only [List.getElem_cons_zero]); (try simp only [Act.put]); (try simp only [List.setIfInBounds_toArray]); (try simp only [List.set_cons_succ]); (try simp only [List.set_cons_zero])))
  (refine wpAnyH_take (i := 18) (v := ?_) rfl (by kernel_rfl) (by kernel_rfl) (by kernel_rfl) (fun _ _ _ h => h) (Or.inl ⟨by rfl, ?_⟩) (by assumption) ?_; rotate_left; (intro w hSw; (try dsimp only at hSw); go_simp; try with_reducible rfl); ((try simp only [List.getElem_toArray]); (try simp only [List.getElem_cons_succ]); (try simp only [List.getElem_cons_zero]); (try simp only [Act.put]); (try simp only [List.setIfInBounds_toArray]); (try simp only [List.set_cons_succ]); (try simp only [List.set_cons_zero])))
  (refine wpAnyH_take (i := 19) (v := ?_) rfl (by kernel_rfl) (by kernel_rfl) (by kernel_rfl) (fun _ _ _ h => h) (Or.inl ⟨by rfl, ?_⟩) (by assumption) ?_; rotate_left; (intro w hSw; (try dsimp only at hSw); go_simp; try with_reducible rfl); ((try simp only [List.getElem_toArray]); (try simp only [List.getElem_cons_succ]); (try simp only [List.getElem_cons_zero]); (try simp only [Act.put]); (try simp only [List.setIfInBounds_toArray]); (try simp only [List.set_cons_succ]); (try simp only [List.set_cons_zero])))
  refine wpAnyH_ready (rs := [14]) (by kernel_rfl) (by simp) ?_
  refine AllReadyH.cons rfl (fun K2 hK2 => ?_) AllReadyH.nil
  go_simp
  refine (keys_any w2.drew.drew tb T HD2.out.t.tr HD2.out.t.top (by rw [← con_len]; omega) (fewS s) (n.tmod 10)).mono ?_
  rintro e w3 ⟨v3, rfl, ho3, b3⟩
  rw [keysF_con HD2.out.t.ris] at ho3
  have hlen := keysL_len T.con (fewS s) (n.tmod 10)
  obtain ⟨L3, HL3⟩ : ∃ L3, Hid (L3 = keysL T.con (fewS s) (n.tmod 10)) := ⟨_, Lib.hid rfl⟩
  rw [← HL3.out] at ho3 hlen
  obtain ⟨A3, n3, q3, rfl, hn3, -, -, hcs3, -⟩ := ownS_row ho3
  have c3 : w3.cell? ⟨w.heap.size, 1, none⟩ = some (.int .i64 n) := (b3.cell (p := ⟨w.heap.size, 1, none⟩) (World.block_lt_of_cell? _ _ c1d)).trans c1d
  have HD3 := Lib.hid (HD2.out.below b3)
  have HB3 := Lib.hid (HB2.out.trans (b3.mono HB2.out.size))
  have HR3 : Hid (RdS w3 A3 L3) := hcs3
  have hn38 : n3 ≤ 80000 := by omega
  have HN3 := Lib.hid hn3
  clear ho3 hcs3 b3 hlen hn3
  go_wp2_with fail
  refine hK2.out _ _ (by exact c3) (fun hq => ?_)
  clear hK2 K2
  ((try simp only [List.getElem_toArray]); (try simp only [List.getElem_cons_succ]); (try simp only [List.getElem_cons_zero]); (try simp only [Act.put]); (try simp only [List.setIfInBounds_toArray]); (try simp only [List.set_cons_succ]); (try simp only [List.set_cons_zero]))
  refine wpAnyH_ready (rs := [20]) (by kernel_rfl) (by simp) ?_
  refine AllReadyH.cons rfl (fun K2 hK2 => ?_) AllReadyH.nil
  go_simp
  refine (beh_any HD3.out.r (by omega) (fewS s) (n.tmod 10)).mono ?_
  rintro e w4 ⟨v4, rfl, ho4, b4⟩
  rw [← HL3.out] at ho4
  obtain ⟨A4, n4, q4, rfl, hn4, -, -, hcs4, -⟩ := ownS_row ho4
  obtain rfl : n3 = n4 := by have := HN3.out; omega
  have c4 : w4.cell? ⟨w.heap.size, 1, none⟩ = some (.int .i64 n) := (b4.cell (p := ⟨w.heap.size, 1, none⟩) (World.block_lt_of_cell? _ _ c3)).trans c3
  have HD4 := Lib.hid (HD3.out.below b4)
  have HB4 := Lib.hid (HB3.out.trans (b4.mono HB3.out.size))
  have HSM := Lib.hid (same_any L3 w4 A3 A4 n3 q3 q4 HN3.out (HR3.out.below b4) (show RdS w4 A4 L3 from hcs4) (by omega))
  clear ho4 hcs4 b4 hn4 HR3
  go_wp2_with fail
  refine hK2.out _ _ (by exact c4) (fun hq => ?_)
  clear hK2 K2
  ((try simp only [List.getElem_toArray]); (try simp only [List.getElem_cons_succ]); (try simp only [List.getElem_cons_zero]); (try simp only [Act.put]); (try simp only [List.setIfInBounds_toArray]); (try simp only [List.set_cons_succ]); (try simp only [List.set_cons_zero]))
  refine wpAnyH_ready (rs := [21]) (by kernel_rfl) (by simp) ?_
  refine AllReadyH.cons rfl (fun K2 hK2 => ?_) AllReadyH.nil
  go_simp
  refine HSM.out.mono ?_
  rintro e w5 ⟨rfl, k5, rfl⟩
  have c5 : (w4.drewN k5).cell? ⟨w.heap.size, 1, none⟩ = some (.int .i64 n) := c4
  have HFIN : Hid (Did B tb rb X w (w4.drewN k5) T) :=
    ⟨T, X, HD4.out.below (Below.drewN (Below.refl _ w4) k5), Tur.of_below (Below.drewN HB4.out k5), Fre.refl _ _, Nat.le_succ _⟩
  go_wp2_with fail
  refine hK2.out _ _ (by exact c5) (fun hq => ?_)
  clear hK2 K2
  ((try simp only [List.getElem_toArray]); (try simp only [List.getElem_cons_succ]); (try simp only [List.getElem_cons_zero]); (try simp only [Act.put]); (try simp only [List.setIfInBounds_toArray]); (try simp only [List.set_cons_succ]); (try simp only [List.set_cons_zero]))
  (refine wpAnyH_take (i := 22) (v := ?_) rfl (by kernel_rfl) (by kernel_rfl) (by kernel_rfl) (fun _ _ _ h => h) (Or.inl ⟨by rfl, ?_⟩) (by assumption) ?_; rotate_left; (intro w hSw; (try dsimp only at hSw); go_simp; try with_reducible rfl); ((try simp only [List.getElem_toArray]); (try simp only [List.getElem_cons_succ]); (try simp only [List.getElem_cons_zero]); (try simp only [Act.put]); (try simp only [List.setIfInBounds_toArray]); (try simp only [List.set_cons_succ]); (try simp only [List.set_cons_zero])))
  (refine wpAnyH_take (i := 23) (v := ?_) rfl (by kernel_rfl) (by kernel_rfl) (by kernel_rfl) (fun _ _ _ h => h) (Or.inl ⟨by rfl, ?_⟩) (by assumption) ?_; rotate_left; (intro w hSw; (try dsimp only at hSw); go_simp; try with_reducible rfl); ((try simp only [List.getElem_toArray]); (try simp only [List.getElem_cons_succ]); (try simp only [List.getElem_cons_zero]); (try simp only [Act.put]); (try simp only [List.setIfInBounds_toArray]); (try simp only [List.set_cons_succ]); (try simp only [List.set_cons_zero])))
  refine wpAnyH_done (by kernel_rfl) ?_ _
  go_wp2_with fail
  go_ret
  exact ⟨rfl, HFIN.out⟩
end Go.Proofs.Ytmapclocbhkpbaa
