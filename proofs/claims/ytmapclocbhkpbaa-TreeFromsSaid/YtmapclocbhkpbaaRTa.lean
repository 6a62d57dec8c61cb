/-
  The document's tree: keys and numbers in two rows; where a key stands.
-/
import Derived.Test.YtmapclocbhkpbaaRTi
import Derived.Deep.RegionHeld3
namespace Go.Proofs.Ytmapclocbhkpbaa
open Go.RowKit Go.Maps Dg
set_option linter.unusedVariables false
/-- Where a key stands, or would. -/
def posL (key : ByteArray) : List (ByteArray × Int) → Nat
  | [] => 0
  | x :: r => if kl x.1 key = true then posL key r + 1 else 0
theorem posL_le (key : ByteArray) : ∀ C, posL key C ≤ C.length
  | [] => Nat.le_refl _
  | x :: r => by
    unfold posL
    have := posL_le key r
    split <;> simp <;> omega
theorem posL_step {key : ByteArray} : ∀ {C : List (ByteArray × Int)} {k : Nat} (hk : k < C.length), k ≤ posL key C → kl C[k].1 key = true → k + 1 ≤ posL key C
  | x :: r, 0, hk, h, hl => by
    unfold posL
    rw [if_pos (by simpa using hl)]
    omega
  | x :: r, k + 1, hk, h, hl => by
    unfold posL at h ⊢
    split at h
    · rename_i hx
      rw [if_pos hx]
      have := posL_step (key := key) (C := r) (k := k) (by simpa using hk) (by omega) (by simpa using hl)
      omega
    · omega
theorem posL_stop {key : ByteArray} : ∀ {C : List (ByteArray × Int)} {k : Nat} (hk : k < C.length), k ≤ posL key C → kl C[k].1 key = false → posL key C = k
  | x :: r, 0, hk, h, hl => by
    unfold posL
    rw [if_neg (by simpa using hl)]
  | x :: r, k + 1, hk, h, hl => by
    unfold posL at h ⊢
    split at h
    · rename_i hx
      rw [if_pos hx]
      have := posL_stop (key := key) (C := r) (k := k) (by simpa using hk) (by omega) (by simpa using hl)
      omega
    · omega
theorem posL_all {key : ByteArray} : ∀ (C : List (ByteArray × Int)), ∀ x ∈ C.take (posL key C), kl x.1 key = true
  | [], x, hx => by simp at hx
  | y :: r, x, hx => by
    unfold posL at hx
    split at hx
    · rename_i hy
      rw [List.take_succ_cons] at hx
      rcases List.mem_cons.1 hx with e | hx
      · rw [e]; exact hy
      · exact posL_all r x hx
    · simp at hx
theorem posL_at {key : ByteArray} : ∀ {C : List (ByteArray × Int)} (h : posL key C < C.length), kl C[posL key C].1 key = false := by
  intro C h
  cases hl : kl C[posL key C].1 key with
  | false => rfl
  | true => exact absurd (posL_step h (Nat.le_refl _) hl) (by omega)
/-- A list parts where a key stands, or would. -/
theorem posL_part (key : ByteArray) (C : List (ByteArray × Int)) (hR : Rises C) :
    (posL key C = C.length ∧ ∀ x ∈ C, kl x.1 key = true) ∨ ∃ (a : List (ByteArray × Int)) (y : ByteArray × Int) (r : List (ByteArray × Int)), C = a ++ y :: r ∧ a.length = posL key C ∧ (∀ x ∈ a, kl x.1 key = true) ∧ kl y.1 key = false ∧ ∀ x ∈ r, kl y.1 x.1 = true := by
  rcases Nat.lt_or_ge (posL key C) C.length with h | h
  · right
    refine ⟨C.take (posL key C), C[posL key C], C.drop (posL key C + 1), ?_, ?_, posL_all C, posL_at h, ?_⟩
    · rw [← List.drop_eq_getElem_cons h, List.take_append_drop]
    · rw [List.length_take]; omega
    · have hC : C = C.take (posL key C) ++ C[posL key C] :: C.drop (posL key C + 1) := by
        rw [← List.drop_eq_getElem_cons h, List.take_append_drop]
      have hr := hR
      rw [hC] at hr
      obtain ⟨-, ⟨hr3, -⟩, -⟩ := Rises.app.1 hr
      exact hr3
  · left
    have := posL_le key C
    refine ⟨by omega, ?_⟩
    have h2 := posL_all (key := key) C
    rw [List.take_of_length_le h] at h2
    exact h2
theorem had_none {key : ByteArray} {C : List (ByteArray × Int)} (h : ∀ x ∈ C, x.1 ≠ key) : hadL key C = false := by
  unfold hadL
  rw [getL_none h]
  rfl
theorem had_end {key : ByteArray} {C : List (ByteArray × Int)} (h : ∀ x ∈ C, kl x.1 key = true) : hadL key C = false := had_none fun x hx => ne_of_kl (h x hx)
theorem get_mid {key : ByteArray} {a r : List (ByteArray × Int)} {v : Int} (ha : ∀ x ∈ a, kl x.1 key = true) : getL key (a ++ (key, v) :: r) = some v := by
  rw [getL_app, getL_none fun x hx => ne_of_kl (ha x hx), getL_cons_eq]
  rfl
theorem had_no {key : ByteArray} {a r : List (ByteArray × Int)} {y : ByteArray × Int} (ha : ∀ x ∈ a, kl x.1 key = true) (hy : kl key y.1 = true) (hr : ∀ x ∈ r, kl y.1 x.1 = true) : hadL key (a ++ y :: r) = false := by
  refine had_none fun x hx => ?_
  rcases List.mem_append.1 hx with hx | hx
  · exact ne_of_kl (ha x hx)
  · rcases List.mem_cons.1 hx with e | hx
    · rw [e]; exact Ne.symm (ne_of_kl hy)
    · exact Ne.symm (ne_of_kl (kl_trans hy (hr x hx)))
/-- Does a key stand there? -/
theorem had_at {key : ByteArray} {C : List (ByteArray × Int)} (hR : Rises C) (h : posL key C < C.length) : hadL key C = (C[posL key C].1.toList == key.toList) := by
  rcases posL_part key C hR with ⟨e, _⟩ | ⟨a, y, r, e, hl, ha, hy, hr⟩
  · omega
  · have hx : C[posL key C] = y := by
      have h2 : (a ++ y :: r)[posL key C]? = some y := by
        rw [List.getElem?_append_right (by rw [hl]; exact Nat.le_refl _), hl, Nat.sub_self]
        rfl
      have h3 : C[posL key C]? = some y := by
        refine Eq.trans ?_ h2
        exact congrArg (fun (l : List (ByteArray × Int)) => l[posL key C]?) e
      rw [List.getElem?_eq_getElem h] at h3
      injection h3
    rw [hx]
    by_cases hk : y.1 = key
    · rw [eq_iff.2 hk]
      obtain ⟨y1, y2⟩ := y
      cases hk
      unfold hadL
      rw [e, get_mid ha]
      rfl
    · have h1 : (y.1.toList == key.toList) = false := by
        cases q : (y.1.toList == key.toList) with
        | false => rfl
        | true => exact absurd (eq_iff.1 q) hk
      rw [h1]
      have hy2 : kl key y.1 = true := by
        rcases kl_total hk with q | q
        · rw [hy] at q; cases q
        · exact q
      rw [e]
      exact had_no ha hy2 hr
theorem had_past {key : ByteArray} {C : List (ByteArray × Int)} (hR : Rises C) (h : ¬ posL key C < C.length) : hadL key C = false := by
  rcases posL_part key C hR with ⟨_, e⟩ | ⟨a, y, r, e, hl, _⟩
  · exact had_end e
  · exfalso
    have := congrArg List.length e
    rw [List.length_append, hl, List.length_cons] at this
    omega
/-- The document's tree: its two rows, and the blocks that they are. -/
structure RfAt (B rb : Nat) (X : List Nat) (w : World) (C : List (ByteArray × Int)) : Prop where
  le : B ≤ rb
  ex : ∃ ks vs, Has w rb 29 #[ks, vs] ∧ OwnS B w ks (C.map (·.1)) ∧ OwnI B w vs (C.map (·.2)) ∧ X = rb :: (ks.ownBlock.toList ++ vs.ownBlock.toList)
  ris : Rises C
theorem RfAt.far {B rb : Nat} {X : List Nat} {w : World} {C : List (ByteArray × Int)} (h : RfAt B rb X w C) : ∀ b ∈ X, B ≤ b ∧ b < w.heap.size ∧ ∃ t cs, Has w b t cs ∧ (t = 29 ∨ t = 9 ∨ t = 3) := by
  obtain ⟨ks, vs, h1, h2, h3, rfl⟩ := h.ex
  intro b hb
  rcases List.mem_cons.1 hb with e | hb
  · rw [e]; exact ⟨h.le, h1.lt, _, _, h1, .inl rfl⟩
  · rcases List.mem_append.1 hb with hb | hb
    · obtain ⟨cs, hc⟩ := h2.has (g := b) (by simpa using hb)
      obtain ⟨g1, g2⟩ := h2.lt (g := b) (by simpa using hb)
      exact ⟨g1, g2, _, _, hc, .inr (.inl rfl)⟩
    · obtain ⟨cs, hc⟩ := h3.has (g := b) (by simpa using hb)
      obtain ⟨g1, g2⟩ := h3.lt (g := b) (by simpa using hb)
      exact ⟨g1, g2, _, _, hc, .inr (.inr rfl)⟩
theorem RfAt.tur {B rb : Nat} {X Y : List Nat} {w w' : World} {C : List (ByteArray × Int)} (h : RfAt B rb X w C) (ht : Tur Y w w') (hd : ∀ b ∈ X, b ∉ Y) : RfAt B rb X w' C := by
  obtain ⟨ks, vs, h1, h2, h3, e⟩ := h.ex
  exact ⟨h.le, ⟨ks, vs, h1.tur ht (hd rb (by rw [e]; simp)), h2.tur ht (fun g hg => hd g (by rw [e]; simp [hg])), h3.tur ht (fun g hg => hd g (by rw [e]; simp [hg])), e⟩, h.ris⟩
theorem RfAt.below {B rb : Nat} {X : List Nat} {w w' : World} {C : List (ByteArray × Int)} (h : RfAt B rb X w C) (hb : Below w.heap.size w w') : RfAt B rb X w' C := h.tur (Y := []) (Tur.of_below hb) fun _ _ hx => by cases hx
/-- What the document's tree does leaves a tree. -/
theorem TrAt.rf {tb B rb : Nat} {X : List Nat} {w w' : World} {T : Tr} {C : List (ByteArray × Int)} (h : TrAt tb w T) (hr : RfAt B rb X w C) (ht : Tur X w w') : TrAt tb w' T :=
  h.turX ht fun b hb => by
    obtain ⟨-, -, t, cs, hc, ht⟩ := hr.far b hb
    refine ⟨t, cs, hc, ?_, ?_⟩ <;> rcases ht with e | e | e <;> rw [e] <;> decide
/-- What a tree does leaves the document's. -/
theorem RfAt.tr {tb B rb : Nat} {X : List Nat} {w w' : World} {T : Tr} {C : List (ByteArray × Int)} (h : RfAt B rb X w C) (hr : TrAt tb w T) (ht : Tur [tb] w w') : RfAt B rb X w' C :=
  h.tur ht fun b hb hx => by
    have e : b = tb := by simpa using hx
    subst e
    obtain ⟨-, -, t, cs, hc, hty⟩ := h.far b hb
    have h5 := hr.top
    unfold Has at hc h5
    rw [hc] at h5
    injection h5 with h5
    injection h5 with h5 h6
    subst h6
    rcases hty with e | e | e <;> exact absurd e (by decide)
theorem RfAt.rows {B rb : Nat} {X : List Nat} {w : World} {C : List (ByteArray × Int)} (h : RfAt B rb X w C) : ∃ A n c A2 c2, Has w rb 29 #[.slice A n c, .slice A2 n c2] ∧ C.length = n ∧ n ≤ c ∧ c ≤ maxLen ∧ n ≤ c2 ∧ c2 ≤ maxLen ∧ RdS w A (C.map (·.1)) ∧ RdI w A2 (C.map (·.2)) ∧ (A = none → c = 0) ∧ (A2 = none → c2 = 0) ∧ OwnS B w (.slice A n c) (C.map (·.1)) ∧ OwnI B w (.slice A2 n c2) (C.map (·.2)) ∧ X = rb :: ((Value.slice A n c).ownBlock.toList ++ (Value.slice A2 n c2).ownBlock.toList) := by
  obtain ⟨ks, vs, h1, h2, h3, e⟩ := h.ex
  obtain ⟨A, n, c, rfl, hl, hnc, hcm, hr, hz⟩ := ownS_row h2
  obtain ⟨A2, n2, c2, rfl, hl2, hnc2, hcm2, hr2, hz2⟩ := ownI_row h3
  rw [List.length_map] at hl hl2
  obtain rfl : n = n2 := by omega
  exact ⟨A, n, c, A2, c2, h1, hl, hnc, hcm, hnc2, hcm2, hr, hr2, hz, hz2, h2, h3, e⟩
set_option maxHeartbeats 4000000 in
set_option maxRecDepth 100000 in
theorem at_any {B rb : Nat} {X : List Nat} {w : World} {C : List (ByteArray × Int)} (h : RfAt B rb X w C) (key : ByteArray) :
    Calls Try.prog 31 #[.pointer (some ⟨rb, 0, none⟩), .string key] w fun e w' => e = .returned (.tuple #[.int .i64 (posL key C : Int), .bool (hadL key C)]) ∧ w' = w.drew := by
  obtain ⟨A, n, c, A2, c2, h1, hl, hnc, hcm, -, -, hr, -, -, -, -, -, -⟩ := h.rows
  have HR := Lib.hid h.ris
  have HL := Lib.hid hl
  have HD := Lib.hid hr
  have d0 : w.cell? ⟨rb, 0, none⟩ = some (.slice A n c) := h1.cell 0
  have hnI : (n : Int) ≤ 9223372036854775807 := by unfold maxLen at hcm; omega
  clear h h1 hr hl hcm
  go_enter Try.func31, Try.ntmps31
  go_wp2_with fail
  go_loopw [6] (fun u wr => ∃ k : Nat, k ≤ n ∧ Hid (k ≤ posL key C) ∧ u = .int .i64 k ∧ Hid (wr = w)) (fun u _ => n - (intOf u).toNat)
  case atStart => exact ⟨0, by omega, Nat.zero_le _, rfl, Lib.hid rfl⟩
  case round =>
    obtain ⟨k, hk, HK, rfl, HW⟩ := hrel
    obtain rfl : wr = w := HW.out
    clear HW
    by_cases hlt : k < n
    · have hkC : k < C.length := by rw [HL.out]; exact hlt
      have hkI : (k : Int) < (n : Int) := by omega
      obtain ⟨b, off, rfl, c0⟩ := HD.out k (by rw [List.length_map]; exact hkC)
      rw [List.getElem_map] at c0
      cases hkl : kl C[k].1 key with
      | true =>
        have HK2 : Hid (k + 1 ≤ posL key C) := posL_step hkC HK.out hkl
        have hls : Op.bytesLess C[k].1.toList key.toList = true := hkl
        generalize C[k].1 = s at *
        clear hkl HK
        go_wp2_with fail
        go_roundw
        case rel => exact ⟨k + 1, by omega, HK2, by go_num, by first | exact Lib.hid rfl | trivial⟩
        case measure => simp [intOf]; omega
      | false =>
        have hpe : posL key C = k := posL_stop hkC HK.out hkl
        have hh : hadL key C = (C[k].1.toList == key.toList) := by
          have := had_at (key := key) HR.out (by rw [hpe]; exact hkC)
          rw [this]
          congr 3
          simp only [hpe]
        have hls : Op.bytesLess C[k].1.toList key.toList = false := hkl
        have hdk : decide ((k : Int) < (n : Int)) = true := decide_eq_true hkI
        have HP := Lib.hid hpe
        have HH := Lib.hid hh
        generalize C[k].1 = s at *
        clear hkl HK hpe hh
        go_wp2_with fail
        refine wp_region_held_drew (S := fun X => X.cell? ⟨rb, 0, none⟩ = some (.slice (some ⟨b, off, none⟩) n c) ∧ X.cell? ⟨b, off + k, none⟩ = some (.string s)) (by kernel_rfl) (by exact ⟨d0, c0⟩) (fun _ => ?_)
        (refine wpAnyH_take (i := 0) (v := ?_) rfl (by kernel_rfl) (by kernel_rfl) (by kernel_rfl) (fun _ _ _ h => h) (Or.inl ⟨by rfl, ?_⟩) (by assumption) ?_; rotate_left; (intro w hSw; (try dsimp only at hSw); go_simp; try with_reducible rfl); ((try simp only [List.getElem_toArray]); (try simp only [List.getElem_cons_succ]); (try simp only [List.getElem_cons_zero]); (try simp only [Act.put]); (try simp only [List.setIfInBounds_toArray]); (try simp only [List.set_cons_succ]); (try simp only [List.set_cons_zero])))
        (refine wpAnyH_take (i := 1) (v := ?_) rfl (by kernel_rfl) (by kernel_rfl) (by kernel_rfl) (fun _ _ _ h => h) (Or.inl ⟨by rfl, ?_⟩) (by assumption) ?_; rotate_left; (intro w hSw; (try dsimp only at hSw); go_simp; try with_reducible rfl); ((try simp only [List.getElem_toArray]); (try simp only [List.getElem_cons_succ]); (try simp only [List.getElem_cons_zero]); (try simp only [Act.put]); (try simp only [List.setIfInBounds_toArray]); (try simp only [List.set_cons_succ]); (try simp only [List.set_cons_zero])))
        (refine wpAnyH_take (i := 2) (v := ?_) rfl (by kernel_rfl) (by kernel_rfl) (by kernel_rfl) (fun _ _ _ h => h) (Or.inl ⟨by rfl, ?_⟩) (by assumption) ?_; rotate_left; (intro w hSw; (try dsimp only at hSw); go_simp; try with_reducible rfl); ((try simp only [List.getElem_toArray]); (try simp only [List.getElem_cons_succ]); (try simp only [List.getElem_cons_zero]); (try simp only [Act.put]); (try simp only [List.setIfInBounds_toArray]); (try simp only [List.set_cons_succ]); (try simp only [List.set_cons_zero])))
        (refine wpAnyH_take (i := 3) (v := ?_) rfl (by kernel_rfl) (by kernel_rfl) (by kernel_rfl) (fun _ _ _ h => h) (Or.inl ⟨by rfl, ?_⟩) (by assumption) ?_; rotate_left; (intro w hSw; (try dsimp only at hSw); go_simp; try with_reducible rfl); ((try simp only [List.getElem_toArray]); (try simp only [List.getElem_cons_succ]); (try simp only [List.getElem_cons_zero]); (try simp only [Act.put]); (try simp only [List.setIfInBounds_toArray]); (try simp only [List.set_cons_succ]); (try simp only [List.set_cons_zero])))
        (refine wpAnyH_take (i := 4) (v := ?_) rfl (by kernel_rfl) (by kernel_rfl) (by kernel_rfl) (fun _ _ _ h => h) (Or.inl ⟨by rfl, ?_⟩) (by assumption) ?_; rotate_left; (intro w hSw; (try dsimp only at hSw); go_simp; try with_reducible rfl); ((try simp only [List.getElem_toArray]); (try simp only [List.getElem_cons_succ]); (try simp only [List.getElem_cons_zero]); (try simp only [Act.put]); (try simp only [List.setIfInBounds_toArray]); (try simp only [List.set_cons_succ]); (try simp only [List.set_cons_zero])))
        (refine wpAnyH_take (i := 5) (v := ?_) rfl (by kernel_rfl) (by kernel_rfl) (by kernel_rfl) (fun _ _ _ h => h) (Or.inl ⟨by rfl, ?_⟩) (by assumption) ?_; rotate_left; (intro w hSw; (try dsimp only at hSw); go_simp; try with_reducible rfl); ((try simp only [List.getElem_toArray]); (try simp only [List.getElem_cons_succ]); (try simp only [List.getElem_cons_zero]); (try simp only [Act.put]); (try simp only [List.setIfInBounds_toArray]); (try simp only [List.set_cons_succ]); (try simp only [List.set_cons_zero])))
        (refine wpAnyH_take (i := 6) (v := ?_) rfl (by kernel_rfl) (by kernel_rfl) (by kernel_rfl) (fun _ _ _ h => h) (Or.inl ⟨by rfl, ?_⟩) (by assumption) ?_; rotate_left; (intro w hSw; (try dsimp only at hSw); go_simp; try with_reducible rfl); ((try simp only [List.getElem_toArray]); (try simp only [List.getElem_cons_succ]); (try simp only [List.getElem_cons_zero]); (try simp only [Act.put]); (try simp only [List.setIfInBounds_toArray]); (try simp only [List.set_cons_succ]); (try simp only [List.set_cons_zero])))
        (refine wpAnyH_take (i := 7) (v := ?_) rfl (by kernel_rfl) (by kernel_rfl) (by kernel_rfl) (fun _ _ _ h => h) (Or.inl ⟨by rfl, ?_⟩) (by assumption) ?_; rotate_left; (intro w hSw; (try dsimp only at hSw); go_simp; try with_reducible rfl); ((try simp only [List.getElem_toArray]); (try simp only [List.getElem_cons_succ]); (try simp only [List.getElem_cons_zero]); (try simp only [Act.put]); (try simp only [List.setIfInBounds_toArray]); (try simp only [List.set_cons_succ]); (try simp only [List.set_cons_zero])))
        (refine wpAnyH_take (i := 8) (v := ?_) rfl (by kernel_rfl) (by kernel_rfl) (by kernel_rfl) (fun _ _ _ h => h) (Or.inl ⟨by rfl, ?_⟩) (by assumption) ?_; rotate_left; (intro w hSw; (try dsimp only at hSw); go_simp; try with_reducible rfl); ((try simp only [List.getElem_toArray]); (try simp only [List.getElem_cons_succ]); (try simp only [List.getElem_cons_zero]); (try simp only [Act.put]); (try simp only [List.setIfInBounds_toArray]); (try simp only [List.set_cons_succ]); (try simp only [List.set_cons_zero])))
        (refine wpAnyH_take (i := 9) (v := ?_) rfl (by kernel_rfl) (by kernel_rfl) (by kernel_rfl) (fun _ _ _ h => h) (Or.inl ⟨by rfl, ?_⟩) (by assumption) ?_; rotate_left; (intro w hSw; (try dsimp only at hSw); go_simp; try with_reducible rfl); ((try simp only [List.getElem_toArray]); (try simp only [List.getElem_cons_succ]); (try simp only [List.getElem_cons_zero]); (try simp only [Act.put]); (try simp only [List.setIfInBounds_toArray]); (try simp only [List.set_cons_succ]); (try simp only [List.set_cons_zero])))
        (refine wpAnyH_take (i := 10) (v := ?_) rfl (by kernel_rfl) (by kernel_rfl) (by kernel_rfl) (fun _ _ _ h => h) (Or.inl ⟨by rfl, ?_⟩) (by assumption) ?_; rotate_left; (intro w hSw; (try dsimp only at hSw); go_simp; try with_reducible rfl); ((try simp only [List.getElem_toArray]); (try simp only [List.getElem_cons_succ]); (try simp only [List.getElem_cons_zero]); (try simp only [Act.put]); (try simp only [List.setIfInBounds_toArray]); (try simp only [List.set_cons_succ]); (try simp only [List.set_cons_zero])))
        (refine wpAnyH_take (i := 11) (v := ?_) rfl (by kernel_rfl) (by kernel_rfl) (by kernel_rfl) (fun _ _ _ h => h) (Or.inl ⟨by rfl, ?_⟩) (by assumption) ?_; rotate_left; (intro w hSw; (try dsimp only at hSw); go_simp; try with_reducible rfl); ((try simp only [List.getElem_toArray]); (try simp only [List.getElem_cons_succ]); (try simp only [List.getElem_cons_zero]); (try simp only [Act.put]); (try simp only [List.setIfInBounds_toArray]); (try simp only [List.set_cons_succ]); (try simp only [List.set_cons_zero])))
        (refine wpAnyH_take (i := 12) (v := ?_) rfl (by kernel_rfl) (by kernel_rfl) (by kernel_rfl) (fun _ _ _ h => h) (Or.inl ⟨by rfl, ?_⟩) (by assumption) ?_; rotate_left; (intro w hSw; (try dsimp only at hSw); go_simp; try with_reducible rfl); ((try simp only [List.getElem_toArray]); (try simp only [List.getElem_cons_succ]); (try simp only [List.getElem_cons_zero]); (try simp only [Act.put]); (try simp only [List.setIfInBounds_toArray]); (try simp only [List.set_cons_succ]); (try simp only [List.set_cons_zero])))
        (refine wpAnyH_take (i := 13) (v := ?_) rfl (by kernel_rfl) (by kernel_rfl) (by kernel_rfl) (fun _ _ _ h => h) (Or.inl ⟨by rfl, ?_⟩) (by assumption) ?_; rotate_left; (intro w hSw; (try dsimp only at hSw); go_simp; try with_reducible rfl); ((try simp only [List.getElem_toArray]); (try simp only [List.getElem_cons_succ]); (try simp only [List.getElem_cons_zero]); (try simp only [Act.put]); (try simp only [List.setIfInBounds_toArray]); (try simp only [List.set_cons_succ]); (try simp only [List.set_cons_zero])))
        (refine wpAnyH_take (i := 14) (v := ?_) rfl (by kernel_rfl) (by kernel_rfl) (by kernel_rfl) (fun _ _ _ h => h) (Or.inl ⟨by rfl, ?_⟩) (by assumption) ?_; rotate_left; (intro w hSw; (try dsimp only at hSw); go_simp; try with_reducible rfl); ((try simp only [List.getElem_toArray]); (try simp only [List.getElem_cons_succ]); (try simp only [List.getElem_cons_zero]); (try simp only [Act.put]); (try simp only [List.setIfInBounds_toArray]); (try simp only [List.set_cons_succ]); (try simp only [List.set_cons_zero])))
        (refine wpAnyH_take (i := 15) (v := ?_) rfl (by kernel_rfl) (by kernel_rfl) (by kernel_rfl) (fun _ _ _ h => h) (Or.inl ⟨by rfl, ?_⟩) (by assumption) ?_; rotate_left; (intro w hSw; (try dsimp only at hSw); go_simp; try with_reducible rfl); ((try simp only [List.getElem_toArray]); (try simp only [List.getElem_cons_succ]); (try simp only [List.getElem_cons_zero]); (try simp only [Act.put]); (try simp only [List.setIfInBounds_toArray]); (try simp only [List.set_cons_succ]); (try simp only [List.set_cons_zero])))
        (refine wpAnyH_take (i := 16) (v := ?_) rfl (by kernel_rfl) (by kernel_rfl) (by kernel_rfl) (fun _ _ _ h => h) (Or.inl ⟨by rfl, ?_⟩) (by assumption) ?_; rotate_left; (intro w hSw; (try dsimp only at hSw); go_simp; try with_reducible rfl); ((try simp only [List.getElem_toArray]); (try simp only [List.getElem_cons_succ]); (try simp only [List.getElem_cons_zero]); (try simp only [Act.put]); (try simp only [List.setIfInBounds_toArray]); (try simp only [List.set_cons_succ]); (try simp only [List.set_cons_zero])))
        (refine wpAnyH_take (i := 17) (v := ?_) rfl (by kernel_rfl) (by kernel_rfl) (by kernel_rfl) (fun _ _ _ h => h) (Or.inl ⟨by rfl, ?_⟩) (by assumption) ?_; rotate_left; (intro w hSw; (try dsimp only at hSw); go_simp; try with_reducible rfl); ((try simp only [List.getElem_toArray]); (try simp only [List.getElem_cons_succ]); (try simp only [List.getElem_cons_zero]); (try simp only [Act.put]); (try simp only [List.setIfInBounds_toArray]); (try simp only [List.set_cons_succ]); (try simp only [List.set_cons_zero])))
        (refine wpAnyH_take (i := 18) (v := ?_) rfl (by kernel_rfl) (by kernel_rfl) (by kernel_rfl) (fun _ _ _ h => h) (Or.inl ⟨by rfl, ?_⟩) (by assumption) ?_; rotate_left; (intro w hSw; (try dsimp only at hSw); go_simp; try with_reducible rfl); ((try simp only [List.getElem_toArray]); (try simp only [List.getElem_cons_succ]); (try simp only [List.getElem_cons_zero]); (try simp only [Act.put]); (try simp only [List.setIfInBounds_toArray]); (try simp only [List.set_cons_succ]); (try simp only [List.set_cons_zero])))
        (refine wpAnyH_take (i := 19) (v := ?_) rfl (by kernel_rfl) (by kernel_rfl) (by kernel_rfl) (fun _ _ _ h => h) (Or.inl ⟨by rfl, ?_⟩) (by assumption) ?_; rotate_left; (intro w hSw; (try dsimp only at hSw); go_simp; try with_reducible rfl); ((try simp only [List.getElem_toArray]); (try simp only [List.getElem_cons_succ]); (try simp only [List.getElem_cons_zero]); (try simp only [Act.put]); (try simp only [List.setIfInBounds_toArray]); (try simp only [List.set_cons_succ]); (try simp only [List.set_cons_zero])))
        (refine wpAnyH_take (i := 20) (v := ?_) rfl (by kernel_rfl) (by kernel_rfl) (by kernel_rfl) (fun _ _ _ h => h) (Or.inl ⟨by rfl, ?_⟩) (by assumption) ?_; rotate_left; (intro w hSw; (try dsimp only at hSw); go_simp; try with_reducible rfl); ((try simp only [List.getElem_toArray]); (try simp only [List.getElem_cons_succ]); (try simp only [List.getElem_cons_zero]); (try simp only [Act.put]); (try simp only [List.setIfInBounds_toArray]); (try simp only [List.set_cons_succ]); (try simp only [List.set_cons_zero])))
        refine wpAnyH_done (by kernel_rfl) ?_ _
        go_wp2_with fail
        go_ret2
        exact ⟨by rw [HP.out, HH.out]; rfl, rfl⟩
    · have hkI : ¬ (k : Int) < (n : Int) := by omega
      have hdk : decide ((k : Int) < (n : Int)) = false := decide_eq_false hkI
      have hpe : posL key C = k := by
        have h1 := posL_le key C
        have h2 := HK.out
        have h3 := HL.out
        omega
      have hh : hadL key C = false := had_past HR.out (by rw [hpe, HL.out]; exact hlt)
      have HP := Lib.hid hpe
      have HH := Lib.hid hh
      clear HK hpe hh
      go_wp2_with fail
      refine wp_region_held_drew (S := fun X => X.cell? ⟨rb, 0, none⟩ = some (.slice A n c)) (by kernel_rfl) (by exact d0) (fun _ => ?_)
      (refine wpAnyH_take (i := 0) (v := ?_) rfl (by kernel_rfl) (by kernel_rfl) (by kernel_rfl) (fun _ _ _ h => h) (Or.inl ⟨by rfl, ?_⟩) (by assumption) ?_; rotate_left; (intro w hSw; (try dsimp only at hSw); go_simp; try with_reducible rfl); ((try simp only [List.getElem_toArray]); (try simp only [List.getElem_cons_succ]); (try simp only [List.getElem_cons_zero]); (try simp only [Act.put]); (try simp only [List.setIfInBounds_toArray]); (try simp only [List.set_cons_succ]); (try simp only [List.set_cons_zero])))
      (refine wpAnyH_take (i := 1) (v := ?_) rfl (by kernel_rfl) (by kernel_rfl) (by kernel_rfl) (fun _ _ _ h => h) (Or.inl ⟨by rfl, ?_⟩) (by assumption) ?_; rotate_left; (intro w hSw; (try dsimp only at hSw); go_simp; try with_reducible rfl); ((try simp only [List.getElem_toArray]); (try simp only [List.getElem_cons_succ]); (try simp only [List.getElem_cons_zero]); (try simp only [Act.put]); (try simp only [List.setIfInBounds_toArray]); (try simp only [List.set_cons_succ]); (try simp only [List.set_cons_zero])))
      (refine wpAnyH_take (i := 2) (v := ?_) rfl (by kernel_rfl) (by kernel_rfl) (by kernel_rfl) (fun _ _ _ h => h) (Or.inl ⟨by rfl, ?_⟩) (by assumption) ?_; rotate_left; (intro w hSw; (try dsimp only at hSw); go_simp; try with_reducible rfl); ((try simp only [List.getElem_toArray]); (try simp only [List.getElem_cons_succ]); (try simp only [List.getElem_cons_zero]); (try simp only [Act.put]); (try simp only [List.setIfInBounds_toArray]); (try simp only [List.set_cons_succ]); (try simp only [List.set_cons_zero])))
      (refine wpAnyH_take (i := 3) (v := ?_) rfl (by kernel_rfl) (by kernel_rfl) (by kernel_rfl) (fun _ _ _ h => h) (Or.inl ⟨by rfl, ?_⟩) (by assumption) ?_; rotate_left; (intro w hSw; (try dsimp only at hSw); go_simp; try with_reducible rfl); ((try simp only [List.getElem_toArray]); (try simp only [List.getElem_cons_succ]); (try simp only [List.getElem_cons_zero]); (try simp only [Act.put]); (try simp only [List.setIfInBounds_toArray]); (try simp only [List.set_cons_succ]); (try simp only [List.set_cons_zero])))
      (refine wpAnyH_take (i := 4) (v := ?_) rfl (by kernel_rfl) (by kernel_rfl) (by kernel_rfl) (fun _ _ _ h => h) (Or.inl ⟨by rfl, ?_⟩) (by assumption) ?_; rotate_left; (intro w hSw; (try dsimp only at hSw); go_simp; try with_reducible rfl); ((try simp only [List.getElem_toArray]); (try simp only [List.getElem_cons_succ]); (try simp only [List.getElem_cons_zero]); (try simp only [Act.put]); (try simp only [List.setIfInBounds_toArray]); (try simp only [List.set_cons_succ]); (try simp only [List.set_cons_zero])))
      (refine wpAnyH_take (i := 5) (v := ?_) rfl (by kernel_rfl) (by kernel_rfl) (by kernel_rfl) (fun _ _ _ h => h) (Or.inl ⟨by rfl, ?_⟩) (by assumption) ?_; rotate_left; (intro w hSw; (try dsimp only at hSw); go_simp; try with_reducible rfl); ((try simp only [List.getElem_toArray]); (try simp only [List.getElem_cons_succ]); (try simp only [List.getElem_cons_zero]); (try simp only [Act.put]); (try simp only [List.setIfInBounds_toArray]); (try simp only [List.set_cons_succ]); (try simp only [List.set_cons_zero])))
      (refine wpAnyH_take (i := 6) (v := ?_) rfl (by kernel_rfl) (by kernel_rfl) (by kernel_rfl) (fun _ _ _ h => h) (Or.inl ⟨by rfl, ?_⟩) (by assumption) ?_; rotate_left; (intro w hSw; (try dsimp only at hSw); go_simp; try with_reducible rfl); ((try simp only [List.getElem_toArray]); (try simp only [List.getElem_cons_succ]); (try simp only [List.getElem_cons_zero]); (try simp only [Act.put]); (try simp only [List.setIfInBounds_toArray]); (try simp only [List.set_cons_succ]); (try simp only [List.set_cons_zero])))
      (refine wpAnyH_take (i := 7) (v := ?_) rfl (by kernel_rfl) (by kernel_rfl) (by kernel_rfl) (fun _ _ _ h => h) (Or.inl ⟨by rfl, ?_⟩) (by assumption) ?_; rotate_left; (intro w hSw; (try dsimp only at hSw); go_simp; try with_reducible rfl); ((try simp only [List.getElem_toArray]); (try simp only [List.getElem_cons_succ]); (try simp only [List.getElem_cons_zero]); (try simp only [Act.put]); (try simp only [List.setIfInBounds_toArray]); (try simp only [List.set_cons_succ]); (try simp only [List.set_cons_zero])))
      (refine wpAnyH_take (i := 8) (v := ?_) rfl (by kernel_rfl) (by kernel_rfl) (by kernel_rfl) (fun _ _ _ h => h) (Or.inl ⟨by rfl, ?_⟩) (by assumption) ?_; rotate_left; (intro w hSw; (try dsimp only at hSw); go_simp; try with_reducible rfl); ((try simp only [List.getElem_toArray]); (try simp only [List.getElem_cons_succ]); (try simp only [List.getElem_cons_zero]); (try simp only [Act.put]); (try simp only [List.setIfInBounds_toArray]); (try simp only [List.set_cons_succ]); (try simp only [List.set_cons_zero])))
      (refine wpAnyH_take (i := 9) (v := undef) rfl (by kernel_rfl) (by kernel_rfl) (by kernel_rfl) (fun _ _ _ h => h) (Or.inr ⟨by rfl, rfl⟩) (by assumption) ?_; ((try simp only [List.getElem_toArray]); (try simp only [List.getElem_cons_succ]); (try simp only [List.getElem_cons_zero]); (try simp only [Act.put]); (try simp only [List.setIfInBounds_toArray]); (try simp only [List.set_cons_succ]); (try simp only [List.set_cons_zero])))
      (refine wpAnyH_take (i := 10) (v := undef) rfl (by kernel_rfl) (by kernel_rfl) (by kernel_rfl) (fun _ _ _ h => h) (Or.inr ⟨by rfl, rfl⟩) (by assumption) ?_; ((try simp only [List.getElem_toArray]); (try simp only [List.getElem_cons_succ]); (try simp only [List.getElem_cons_zero]); (try simp only [Act.put]); (try simp only [List.setIfInBounds_toArray]); (try simp only [List.set_cons_succ]); (try simp only [List.set_cons_zero])))
      (refine wpAnyH_take (i := 11) (v := undef) rfl (by kernel_rfl) (by kernel_rfl) (by kernel_rfl) (fun _ _ _ h => h) (Or.inr ⟨by rfl, rfl⟩) (by assumption) ?_; ((try simp only [List.getElem_toArray]); (try simp only [List.getElem_cons_succ]); (try simp only [List.getElem_cons_zero]); (try simp only [Act.put]); (try simp only [List.setIfInBounds_toArray]); (try simp only [List.set_cons_succ]); (try simp only [List.set_cons_zero])))
      (refine wpAnyH_take (i := 12) (v := undef) rfl (by kernel_rfl) (by kernel_rfl) (by kernel_rfl) (fun _ _ _ h => h) (Or.inr ⟨by rfl, rfl⟩) (by assumption) ?_; ((try simp only [List.getElem_toArray]); (try simp only [List.getElem_cons_succ]); (try simp only [List.getElem_cons_zero]); (try simp only [Act.put]); (try simp only [List.setIfInBounds_toArray]); (try simp only [List.set_cons_succ]); (try simp only [List.set_cons_zero])))
      (refine wpAnyH_take (i := 13) (v := undef) rfl (by kernel_rfl) (by kernel_rfl) (by kernel_rfl) (fun _ _ _ h => h) (Or.inr ⟨by rfl, rfl⟩) (by assumption) ?_; ((try simp only [List.getElem_toArray]); (try simp only [List.getElem_cons_succ]); (try simp only [List.getElem_cons_zero]); (try simp only [Act.put]); (try simp only [List.setIfInBounds_toArray]); (try simp only [List.set_cons_succ]); (try simp only [List.set_cons_zero])))
      (refine wpAnyH_take (i := 14) (v := undef) rfl (by kernel_rfl) (by kernel_rfl) (by kernel_rfl) (fun _ _ _ h => h) (Or.inr ⟨by rfl, rfl⟩) (by assumption) ?_; ((try simp only [List.getElem_toArray]); (try simp only [List.getElem_cons_succ]); (try simp only [List.getElem_cons_zero]); (try simp only [Act.put]); (try simp only [List.setIfInBounds_toArray]); (try simp only [List.set_cons_succ]); (try simp only [List.set_cons_zero])))
      (refine wpAnyH_take (i := 15) (v := undef) rfl (by kernel_rfl) (by kernel_rfl) (by kernel_rfl) (fun _ _ _ h => h) (Or.inr ⟨by rfl, rfl⟩) (by assumption) ?_; ((try simp only [List.getElem_toArray]); (try simp only [List.getElem_cons_succ]); (try simp only [List.getElem_cons_zero]); (try simp only [Act.put]); (try simp only [List.setIfInBounds_toArray]); (try simp only [List.set_cons_succ]); (try simp only [List.set_cons_zero])))
      (refine wpAnyH_take (i := 16) (v := undef) rfl (by kernel_rfl) (by kernel_rfl) (by kernel_rfl) (fun _ _ _ h => h) (Or.inr ⟨by rfl, rfl⟩) (by assumption) ?_; ((try simp only [List.getElem_toArray]); (try simp only [List.getElem_cons_succ]); (try simp only [List.getElem_cons_zero]); (try simp only [Act.put]); (try simp only [List.setIfInBounds_toArray]); (try simp only [List.set_cons_succ]); (try simp only [List.set_cons_zero])))
      (refine wpAnyH_take (i := 17) (v := undef) rfl (by kernel_rfl) (by kernel_rfl) (by kernel_rfl) (fun _ _ _ h => h) (Or.inr ⟨by rfl, rfl⟩) (by assumption) ?_; ((try simp only [List.getElem_toArray]); (try simp only [List.getElem_cons_succ]); (try simp only [List.getElem_cons_zero]); (try simp only [Act.put]); (try simp only [List.setIfInBounds_toArray]); (try simp only [List.set_cons_succ]); (try simp only [List.set_cons_zero])))
      (refine wpAnyH_take (i := 18) (v := ?_) rfl (by kernel_rfl) (by kernel_rfl) (by kernel_rfl) (fun _ _ _ h => h) (Or.inl ⟨by rfl, ?_⟩) (by assumption) ?_; rotate_left; (intro w hSw; (try dsimp only at hSw); go_simp; try with_reducible rfl); ((try simp only [List.getElem_toArray]); (try simp only [List.getElem_cons_succ]); (try simp only [List.getElem_cons_zero]); (try simp only [Act.put]); (try simp only [List.setIfInBounds_toArray]); (try simp only [List.set_cons_succ]); (try simp only [List.set_cons_zero])))
      (refine wpAnyH_take (i := 19) (v := ?_) rfl (by kernel_rfl) (by kernel_rfl) (by kernel_rfl) (fun _ _ _ h => h) (Or.inl ⟨by rfl, ?_⟩) (by assumption) ?_; rotate_left; (intro w hSw; (try dsimp only at hSw); go_simp; try with_reducible rfl); ((try simp only [List.getElem_toArray]); (try simp only [List.getElem_cons_succ]); (try simp only [List.getElem_cons_zero]); (try simp only [Act.put]); (try simp only [List.setIfInBounds_toArray]); (try simp only [List.set_cons_succ]); (try simp only [List.set_cons_zero])))
      (refine wpAnyH_take (i := 20) (v := ?_) rfl (by kernel_rfl) (by kernel_rfl) (by kernel_rfl) (fun _ _ _ h => h) (Or.inl ⟨by rfl, ?_⟩) (by assumption) ?_; rotate_left; (intro w hSw; (try dsimp only at hSw); go_simp; try with_reducible rfl); ((try simp only [List.getElem_toArray]); (try simp only [List.getElem_cons_succ]); (try simp only [List.getElem_cons_zero]); (try simp only [Act.put]); (try simp only [List.setIfInBounds_toArray]); (try simp only [List.set_cons_succ]); (try simp only [List.set_cons_zero])))
      refine wpAnyH_done (by kernel_rfl) ?_ _
      go_wp2_with fail
      go_ret2
      exact ⟨by rw [HP.out, HH.out]; rfl, rfl⟩
end Go.Proofs.Ytmapclocbhkpbaa
