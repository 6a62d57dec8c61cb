/-
  The document's tree: Get, Put.
-/
import Derived.Test.YtmapclocbhkpbaaRTa
namespace Go.Proofs.Ytmapclocbhkpbaa
open Go.RowKit Go.Maps Dg
set_option linter.unusedVariables false
theorem Has.ne {w : World} {b b' : Nat} {t t' : TypeId} {cs cs' : Array Value} (h : Has w b t cs) (h' : Has w b' t' cs') (ht : t ≠ t') : b ≠ b' := by
  rintro rfl
  unfold Has at h h'
  rw [h] at h'
  injection h' with h'
  injection h' with h1 h2
  exact ht h2
theorem OwnI.row {B : Nat} {w : World} {A : Option Addr} {n c : Nat} {L : List Int} (h : OwnI B w (.slice A n c) L) (hn : 0 < n) : ∃ g, A = some ⟨g, 0, none⟩ := by
  rcases h.2 with ⟨h2, _⟩ | ⟨g, cap, cur, e, _⟩
  · injection h2 with e1 e2 e3; omega
  · injection e with e1 e2 e3; exact ⟨g, e1⟩
theorem OwnI.set {B : Nat} {w : World} {g n c : Nat} {L : List Int} (h : OwnI B w (.slice (some ⟨g, 0, none⟩) n c) L) (i : Nat) (y : Int) : OwnI B (w.setCell ⟨g, i, none⟩ (.int .i64 y)) (.slice (some ⟨g, 0, none⟩) n c) (L.set i y) := by
  obtain ⟨h1, h2⟩ := h
  rcases h2 with ⟨h2, _⟩ | ⟨g', cap, cur, e, hg, hh, hc, hm, hs, ht⟩
  · cases h2
  · injection e with e1 e2 e3
    injection e1 with e1
    injection e1 with e1
    subst e1; subst e2; subst e3
    refine ⟨by rw [List.length_set, ← h1]; simp, .inr ⟨g, c, cur.setIfInBounds i (.int .i64 y), by rw [List.length_set], hg, heap_setCell_same w g i cur 3 _ hh, by rw [List.length_set]; exact hc, hm, by simpa using hs, ?_⟩⟩
    rw [List.length_set, List.map_set, ← ht, Array.toList_setIfInBounds, List.take_set]
theorem OwnI.free {B : Nat} {w : World} {g n c : Nat} {L : List Int} (h : OwnI B w (.slice (some ⟨g, 0, none⟩) n c) L) (i : Nat) : w.frozen? ⟨g, i, none⟩ = false := by
  obtain ⟨cs, hc⟩ := h.has (g := g) rfl
  exact hc.free i
theorem had_true {key : ByteArray} {C : List (ByteArray × Int)} (hR : Rises C) (h : hadL key C = true) : ∃ (a : List (ByteArray × Int)) (v : Int) (r : List (ByteArray × Int)), C = a ++ (key, v) :: r ∧ a.length = posL key C ∧ (∀ x ∈ a, kl x.1 key = true) ∧ (∀ x ∈ r, kl key x.1 = true) ∧ getL key C = some v := by
  rcases posL_part key C hR with ⟨_, e⟩ | ⟨a, y, r, e, hl, ha, hy, hr⟩
  · rw [had_end e] at h; cases h
  · obtain ⟨k, v⟩ := y
    by_cases hk : k = key
    · subst hk
      exact ⟨a, v, r, e, hl, ha, hr, by rw [e]; exact get_mid ha⟩
    · exfalso
      have hy2 : kl key k = true := by
        rcases kl_total hk with q | q
        · rw [hy] at q; cases q
        · exact q
      rw [e, had_no ha hy2 hr] at h
      cases h
theorem putL_end {key : ByteArray} {v : Int} : ∀ {C : List (ByteArray × Int)}, (∀ x ∈ C, kl x.1 key = true) → putL key v C = C ++ [(key, v)]
  | [], _ => rfl
  | x :: r, h => by
    have h1 := h x List.mem_cons_self
    unfold putL
    rw [if_neg (by rw [kl_asymm h1]; simp), if_pos h1, putL_end fun y hy => h y (List.mem_cons_of_mem _ hy)]
    rfl
theorem put_new {key : ByteArray} {v : Int} {C : List (ByteArray × Int)} (hR : Rises C) (h : hadL key C = false) : putL key v C = C.take (posL key C) ++ (key, v) :: C.drop (posL key C) := by
  rcases posL_part key C hR with ⟨hp, e⟩ | ⟨a, y, r, e, hl, ha, hy, hr⟩
  · rw [putL_end e, hp, List.take_length, List.drop_length]
  · have hk : y.1 ≠ key := by
      intro hk
      obtain ⟨k, u⟩ := y
      cases hk
      unfold hadL at h
      rw [e, get_mid ha] at h
      cases h
    have hy2 : kl key y.1 = true := by
      rcases kl_total hk with q | q
      · rw [hy] at q; cases q
      · exact q
    rw [← hl, e, putL_lt hy2, putL_end ha, List.take_left, List.drop_left]
    simp
theorem put_old {key : ByteArray} {v u : Int} {a r : List (ByteArray × Int)} (ha : ∀ x ∈ a, kl x.1 key = true) : putL key v (a ++ (key, u) :: r) = a ++ (key, v) :: r := putL_eq a ha
theorem cut_old {key : ByteArray} {u : Int} {a r : List (ByteArray × Int)} (ha : ∀ x ∈ a, kl x.1 key = true) (hr : ∀ x ∈ r, kl key x.1 = true) : cutL key (a ++ (key, u) :: r) = a ++ r := by
  unfold cutL
  have no : ∀ x : ByteArray × Int, x.1 ≠ key → (!(x.1.toList == key.toList)) = true := fun x hx => by
    cases q : (x.1.toList == key.toList) with
    | false => rfl
    | true => exact absurd (eq_iff.1 q) hx
  have h1 : a.filter (fun x => !(x.1.toList == key.toList)) = a := List.filter_eq_self.2 fun x hx => no x (ne_of_kl (ha x hx))
  have h2 : r.filter (fun x => !(x.1.toList == key.toList)) = r := List.filter_eq_self.2 fun x hx => no x (Ne.symm (ne_of_kl (hr x hx)))
  rw [List.filter_append, h1, List.filter_cons_of_neg (by simp), h2]
theorem get_no {key : ByteArray} {C : List (ByteArray × Int)} (h : hadL key C = false) : getL key C = none := by
  unfold hadL at h
  cases q : getL key C with
  | none => rfl
  | some v => rw [q] at h; cases h
set_option maxHeartbeats 4000000 in
set_option maxRecDepth 100000 in
theorem rget_any {B rb : Nat} {X : List Nat} {w : World} {C : List (ByteArray × Int)} (h : RfAt B rb X w C) (key : ByteArray) :
    Calls Try.prog 22 #[.pointer (some ⟨rb, 0, none⟩), .string key] w fun e w' => e = .returned (.tuple #[.int .i64 ((getL key C).getD 0), .bool (getL key C).isSome]) ∧ w' = w.drew := by
  have HAT := Lib.hid (at_any h key)
  cases hh : hadL key C with
  | false =>
    rw [hh] at HAT
    rw [get_no hh]
    clear hh h
    go_enter Try.func22, Try.ntmps22
    go_wp2_with fail
    refine HAT.out.mono ?_
    rintro e w1 ⟨rfl, rfl⟩
    go_wp2_with fail
    go_ret2
    exact ⟨rfl, rfl⟩
  | true =>
    rw [hh] at HAT
    obtain ⟨a, v, r, hC, hl, ha, hr, hg⟩ := had_true h.ris hh
    obtain ⟨A, n, c, A2, c2, h1, hn, hnc, hcm, hnc2, hcm2, -, hr2, -, -, -, -, -⟩ := h.rows
    rw [hg]
    rw [← hl] at HAT
    have hp : a.length < n := by rw [← hn, hC, List.length_append, List.length_cons]; omega
    obtain ⟨b, off, rfl, c0⟩ := hr2 a.length (by rw [List.length_map, hn]; exact hp)
    have hv : (C.map (fun x : ByteArray × Int => x.2))[a.length]'(by rw [List.length_map, hn]; exact hp) = v := by
      rw [List.getElem_map]
      simp only [hC]
      rw [List.getElem_append_right (Nat.le_refl _)]
      simp
    rw [hv] at c0
    have c1 : w.drew.cell? ⟨b, off + a.length, none⟩ = some (.int .i64 v) := c0
    have d0 : w.drew.cell? ⟨rb, 1, none⟩ = some (.slice (some ⟨b, off, none⟩) n c2) := h1.cell 1
    generalize a.length = p at *
    have hpI : (p : Int) < (n : Int) := by omega
    have hnI : (n : Int) ≤ 9223372036854775807 := by unfold maxLen at hcm; omega
    clear hh h hC ha hr hg h1 hn hr2 hv c0 hl
    go_enter Try.func22, Try.ntmps22
    go_wp2_with fail
    refine HAT.out.mono ?_
    rintro e w1 ⟨rfl, rfl⟩
    go_wp2_with fail
    go_ret2
    exact ⟨rfl, rfl⟩
set_option maxHeartbeats 8000000 in
set_option maxRecDepth 100000 in
theorem rput_old {B rb : Nat} {X : List Nat} {w : World} {C : List (ByteArray × Int)} (h : RfAt B rb X w C) (key : ByteArray) (v : Int) (hh : hadL key C = true) :
    Calls Try.prog 18 #[.pointer (some ⟨rb, 0, none⟩), .string key, .int .i64 v] w fun e w' => e = .returned (.bool true) ∧ ∃ X', RfAt B rb X' w' (putL key v C) ∧ Tur X w w' ∧ Fre X X' w := by
  have HAT := Lib.hid (at_any h key)
  rw [hh] at HAT
  obtain ⟨a, u, r, hC, hl, ha, hr, -⟩ := had_true h.ris hh
  obtain ⟨A, n, c, A2, c2, h1, hn, hnc, hcm, hnc2, hcm2, -, hr2, -, -, hk, hv, hX⟩ := h.rows
  rw [← hl] at HAT
  have hp : a.length < n := by rw [← hn, hC, List.length_append, List.length_cons]; omega
  obtain ⟨g, rfl⟩ := hv.row (by omega)
  obtain ⟨b, off, e, c0⟩ := hr2 a.length (by rw [List.length_map, hn]; exact hp)
  cases e
  rw [Nat.zero_add] at c0
  obtain ⟨u0, c1⟩ : ∃ u0, w.drew.cell? ⟨g, a.length, none⟩ = some (.int .i64 u0) := ⟨_, c0⟩
  have d0 : w.drew.cell? ⟨rb, 1, none⟩ = some (.slice (some ⟨g, 0, none⟩) n c2) := h1.cell 1
  have f0 : w.drew.frozen? ⟨g, a.length, none⟩ = false := hv.free _
  have HFIN : Hid (∃ X', RfAt B rb X' (w.drew.setCell ⟨g, a.length, none⟩ (.int .i64 v)) (putL key v C) ∧ Tur X w (w.drew.setCell ⟨g, a.length, none⟩ (.int .i64 v)) ∧ Fre X X' w) := by
    have hgX : g ∈ X := by rw [hX]; simp [Value.ownBlock]
    obtain ⟨cg, hcg⟩ := hv.has (g := g) rfl
    have t1 : Tur [g] w (w.drew.setCell ⟨g, a.length, none⟩ (.int .i64 v)) := (Tur.drew [g] w).trans (Tur.setCell w.drew (p := ⟨g, a.length, none⟩) (by simp) _) (Fre.refl _ _)
    refine ⟨X, ⟨h.le, ⟨_, _, h1.tur t1 (by simpa using h1.ne hcg (by decide)), ?_, ?_, hX⟩, ?_⟩, t1.sub (by simpa using hgX), Fre.refl _ _⟩
    · have e1 : (putL key v C).map (fun x : ByteArray × Int => x.1) = C.map (fun x : ByteArray × Int => x.1) := by
        rw [hC, put_old ha]
        simp
      rw [e1]
      exact hk.tur t1 fun g2 hg2 => by
        obtain ⟨cs2, hc2⟩ := hk.has hg2
        simpa using hc2.ne hcg (by decide)
    · have e2 : (putL key v C).map (fun x : ByteArray × Int => x.2) = (C.map (fun x : ByteArray × Int => x.2)).set a.length v := by
        rw [hC, put_old ha]
        simp
      rw [e2]
      have hv2 : OwnI B w.drew (.slice (some ⟨g, 0, none⟩) n c2) (C.map (fun x : ByteArray × Int => x.2)) := hv
      exact hv2.set a.length v
    · exact putL_rises h.ris
  generalize a.length = p at *
  have hpI : (p : Int) < (n : Int) := by omega
  have hnI : (n : Int) ≤ 9223372036854775807 := by unfold maxLen at hcm; omega
  clear hh h hC ha hr h1 hn hr2 hv c0 hl hk hX
  go_enter Try.func18, Try.ntmps18
  go_wp2_with fail
  refine HAT.out.mono ?_
  rintro e w1 ⟨rfl, rfl⟩
  go_wp2_with fail
  go_ret
  exact ⟨rfl, HFIN.out⟩
end Go.Proofs.Ytmapclocbhkpbaa
