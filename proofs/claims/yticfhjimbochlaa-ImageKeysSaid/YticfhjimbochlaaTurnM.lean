/-
  Rows behind changes: plain mathematics.
-/
import Derived.Test.YticfhjimbochlaaRturn
import Derived.Test.YticfhjimbochlaaRapply
import Derived.Test.YticfhjimbochlaaRowM
import Derived.Test.YticfhjimbochlaaRkey4
namespace Go.Proofs.Yticfhjimbochlaa
open Go.RowKit Dg
theorem does_cases {M : List Cl} {k : Nat} {ck : Int} {nm : ByteArray} {kd : Int} {no : Bool} (_hk : k ≤ M.length) (h : (doesF M k ck nm kd no).e = 0) :
    (ck = 3 ∧ findI M nm < 0 ∧ kindF kd = true ∧ nameF nm = true ∧ M.length < 16 ∧ doesF M k ck nm kd no = ⟨M.length, M.length, 1, 0⟩) ∨
    (∃ i : Nat, findI M nm = i ∧ k ≤ i ∧ i < M.length ∧ ((ck = 4 ∧ doesF M k ck nm kd no = ⟨i, i + 1, 0, 0⟩) ∨ (ck = 5 ∧ kindF kd = true ∧ doesF M k ck nm kd no = ⟨i, i + 1, 1, 0⟩))) := by
  by_cases h3 : ck = 3
  · subst h3
    left
    by_cases hall : (nameF nm && kindF kd && no) = true
    · by_cases h0 : 0 ≤ findI M nm
      · rw [dA_exist hall rfl h0] at h; cases h
      · by_cases h1 : 16 ≤ M.length
        · rw [dA_full hall rfl (by omega) h1] at h; cases h
        · have h2 := hall
          simp only [Bool.and_eq_true] at h2
          exact ⟨rfl, by omega, h2.1.2, h2.1.1, by omega, dA_ok hall rfl (by omega) (by omega)⟩
    · rw [dA_arg (by simpa using hall)] at h; cases h
  · right
    have hlt := findI_lt M nm
    by_cases h4 : ck = 4
    · subst h4
      by_cases h0 : findI M nm < 0
      · rw [dC_none rfl h0] at h; cases h
      · by_cases h1 : findI M nm < k
        · rw [dC_key rfl (by omega) h1] at h; cases h
        · obtain ⟨i, hi⟩ := Int.eq_ofNat_of_zero_le (show 0 ≤ findI M nm by omega)
          exact ⟨i, hi, by omega, by omega, .inl ⟨rfl, dC_ok hi (by omega)⟩⟩
    · by_cases h5 : ck = 5
      · subst h5
        by_cases h0 : findI M nm < 0
        · rw [dR_none rfl h0] at h; cases h
        · by_cases h1 : findI M nm < k
          · rw [dR_key rfl (by omega) h1] at h; cases h
          · obtain ⟨i, hi⟩ := Int.eq_ofNat_of_zero_le (show 0 ≤ findI M nm by omega)
            have hil : i < M.length := by omega
            cases hno : M[i].no
            · rw [dR_must hil hi hno] at h; cases h
            · cases hkd : kindF kd
              · rw [dR_kind hil hi hno (by omega) hkd] at h; cases h
              · exact ⟨i, hi, by omega, hil, .inr ⟨rfl, rfl, dR_ok hil hi hno (by omega) hkd⟩⟩
      · rw [d_kind h3 h4 h5] at h; cases h
theorem tTo_before (ck fi : Int) (R : List Vl) : ∀ k, k ≤ R.length → (∀ j : Nat, j < k → (j : Int) ≠ fi) → tTo ck fi R k = R.take k
  | 0, _, _ => by simp [tTo]
  | k + 1, hk, hj => by
    rw [tTo_succ ck fi R k (by omega), tTo_before ck fi R k (by omega) (fun j h => hj j (by omega)), List.take_succ_eq_append_getElem (by omega)]
    have := hj k (by omega)
    unfold tStep
    rw [if_neg (by omega), if_neg (by omega)]
theorem tTo_after (ck : Int) (i : Nat) (R : List Vl) (hi : i < R.length) : ∀ d, i + 1 + d ≤ R.length → tTo ck i R (i + 1 + d) = R.take i ++ tStep ck i i R[i] ++ (R.drop (i + 1)).take d
  | 0, _ => by
    rw [Nat.add_zero, tTo_succ ck i R i hi, tTo_before ck i R i (by omega) (fun j h => by omega)]
    simp
  | d + 1, hd => by
    rw [← Nat.add_assoc, tTo_succ ck i R (i + 1 + d) (by omega), tTo_after ck i R hi d (by omega)]
    have e : tStep ck i (i + 1 + d) R[i + 1 + d] = [R[i + 1 + d]] := by unfold tStep; rw [if_neg (by omega), if_neg (by omega)]
    have e2 : (R.drop (i + 1)).take (d + 1) = (R.drop (i + 1)).take d ++ [R[i + 1 + d]] := by
      rw [List.take_succ_eq_append_getElem (by rw [List.length_drop]; omega), List.getElem_drop]
    rw [e, e2, List.append_assoc]
theorem rturn_is {M : List Cl} {k : Nat} {ck : Int} {nm : ByteArray} {kd : Int} {no : Bool} {R : List Vl} (hk : k ≤ M.length) (hR : R.length = M.length) (h : (doesF M k ck nm kd no).e = 0) :
    rturnF ck (findI M nm) R = turnL R (doesF M k ck nm kd no) := by
  rcases does_cases hk h with ⟨rfl, hf, _, _, _, hd⟩ | ⟨i, hf, hki, hil, ⟨rfl, hd⟩ | ⟨rfl, _, hd⟩⟩
  · rw [hd]
    unfold rturnF turnL
    rw [tTo_before 3 _ R R.length (Nat.le_refl _) (fun j _ => by omega), if_pos rfl]
    simp [hR, vlNil]
  · rw [hd, hf]
    unfold rturnF turnL
    have e := tTo_after 4 i R (by omega) (R.length - (i + 1)) (by omega)
    rw [show i + 1 + (R.length - (i + 1)) = R.length by omega] at e
    rw [e, if_neg (by omega)]
    have et : tStep 4 i i (R[i]'(by omega)) = [] := by unfold tStep; rw [if_neg (by omega), if_pos ⟨rfl, rfl⟩]
    rw [et, List.take_of_length_le (l := R.drop (i + 1)) (by rw [List.length_drop]; omega)]
    simp
  · rw [hd, hf]
    unfold rturnF turnL
    have e := tTo_after 5 i R (by omega) (R.length - (i + 1)) (by omega)
    rw [show i + 1 + (R.length - (i + 1)) = R.length by omega] at e
    rw [e, if_neg (by omega)]
    have et : tStep 5 i i (R[i]'(by omega)) = [vlNil] := by unfold tStep; rw [if_pos ⟨rfl, rfl⟩]
    rw [et, List.take_of_length_le (l := R.drop (i + 1)) (by rw [List.length_drop]; omega)]
    simp [vlNil]
def zipOk (M : List Cl) (R : List Vl) : Bool := (M.zip R).all fun p => standsF p.1 p.2
theorem fits_zip : ∀ (M : List Cl) (R : List Vl), M.length = R.length → fitsTo M R M.length = zipOk M R := by
  intro M R h
  have H : ∀ k, k ≤ M.length → fitsTo M R k = zipOk (M.take k) (R.take k) := by
    intro k
    induction k with
    | zero => intro _; rfl
    | succ k ih =>
      intro hk
      rw [fitsTo_succ M R k (by omega) (by omega), ih (by omega)]
      rw [List.take_succ_eq_append_getElem (by omega), List.take_succ_eq_append_getElem (by omega)]
      unfold zipOk
      rw [List.zip_append (by rw [List.length_take, List.length_take]; omega), List.all_append]
      simp
  have := H M.length (Nat.le_refl _)
  rw [List.take_length, List.take_of_length_le (by omega)] at this
  exact this
theorem zip_app {M M' : List Cl} {R R' : List Vl} (h : M.length = R.length) : zipOk (M ++ M') (R ++ R') = (zipOk M R && zipOk M' R') := by
  unfold zipOk; rw [List.zip_append h, List.all_append]
theorem zip_take {M : List Cl} {R : List Vl} (h : zipOk M R = true) (k : Nat) : zipOk (M.take k) (R.take k) = true := by
  unfold zipOk at *
  rw [List.zip_eq_zipWith, ← List.take_zipWith, ← List.zip_eq_zipWith]
  rw [List.all_eq_true] at *
  exact fun x hx => h x (List.mem_of_mem_take hx)
theorem zip_drop {M : List Cl} {R : List Vl} (h : zipOk M R = true) (k : Nat) : zipOk (M.drop k) (R.drop k) = true := by
  unfold zipOk at *
  rw [List.zip_eq_zipWith, ← List.drop_zipWith, ← List.zip_eq_zipWith]
  rw [List.all_eq_true] at *
  exact fun x hx => h x (List.mem_of_mem_drop hx)
theorem fitsF_iff (M : List Cl) (R : List Vl) : fitsF M R = true ↔ R.length = M.length ∧ zipOk M R = true := by
  unfold fitsF
  by_cases h : R.length = M.length
  · rw [fits_zip M R h.symm]; simp [h]
  · simp [h]
theorem fitsTo_of {M : List Cl} {R : List Vl} (h : fitsF M R = true) (k : Nat) (hk : k ≤ M.length) : fitsTo M R k = true := by
  unfold fitsF at h
  simp only [Bool.and_eq_true, decide_eq_true_eq] at h
  unfold fitsTo at *
  rw [List.all_eq_true] at *
  exact fun i hi => h.2 i (List.mem_range.2 (by have := List.mem_range.1 hi; omega))
theorem keyOk_of {M : List Cl} {R : List Vl} (h : fitsF M R = true) (k : Nat) (hk : k ≤ M.length) : keyOk M R k = true := by
  have h1 := (fitsF_iff M R).1 h
  unfold keyOk
  rw [fitsTo_of h k hk]
  simp; omega
theorem turn_fits {M : List Cl} {k : Nat} {ck : Int} {nm : ByteArray} {kd : Int} {no : Bool} {R : List Vl} (hk : k ≤ M.length) (hR : fitsF M R = true) (h : (doesF M k ck nm kd no).e = 0) :
    fitsF (applyL M (doesF M k ck nm kd no) nm kd) (turnL R (doesF M k ck nm kd no)) = true ∧ (turnL R (doesF M k ck nm kd no)).take k = R.take k ∧ k ≤ (applyL M (doesF M k ck nm kd no) nm kd).length ∧ (applyL M (doesF M k ck nm kd no) nm kd).length ≤ M.length + 1 := by
  obtain ⟨hl, hz⟩ := (fitsF_iff M R).1 hR
  have hnil : standsF ⟨nm, kd, true⟩ ⟨0, 0, ⟨#[]⟩⟩ = true := by
    unfold standsF
    rw [show (Vl.may ⟨0, 0, ⟨#[]⟩⟩) = true from nil_may]
    simp
  rcases does_cases hk h with ⟨rfl, hf, _, _, _, hd⟩ | ⟨i, hf, hki, hil, ⟨rfl, hd⟩ | ⟨rfl, _, hd⟩⟩
  · rw [hd]
    refine ⟨(fitsF_iff _ _).2 ⟨by simp [turnL, applyL, hl], ?_⟩, by simp [turnL, ← hl]; rw [List.take_append_of_le_length (by omega)], by simp [applyL]; omega, by simp [applyL]⟩
    have e1 : turnL R ⟨M.length, M.length, 1, 0⟩ = R ++ [⟨0, 0, ⟨#[]⟩⟩] := by simp [turnL, ← hl]
    have e2 : applyL M ⟨M.length, M.length, 1, 0⟩ nm kd = M ++ [⟨nm, kd, true⟩] := by simp [applyL]
    rw [e1, e2, zip_app hl.symm, hz]
    simp [zipOk, hnil]
  · rw [hd]
    have e1 : turnL R ⟨i, i + 1, 0, 0⟩ = R.take i ++ R.drop (i + 1) := by simp [turnL]
    have e2 : applyL M ⟨i, i + 1, 0, 0⟩ nm kd = M.take i ++ M.drop (i + 1) := by simp [applyL]
    rw [e1, e2]
    refine ⟨(fitsF_iff _ _).2 ⟨by simp [hl], ?_⟩, ?_, by simp; omega, by simp; omega⟩
    · rw [zip_app (by simp [hl]), zip_take hz, zip_drop hz]; rfl
    · rw [List.take_append_of_le_length (by simp; omega), List.take_take, Nat.min_eq_left hki]
  · rw [hd]
    have e1 : turnL R ⟨i, i + 1, 1, 0⟩ = R.take i ++ [⟨0, 0, ⟨#[]⟩⟩] ++ R.drop (i + 1) := by simp [turnL]
    have e2 : applyL M ⟨i, i + 1, 1, 0⟩ nm kd = M.take i ++ [⟨nm, kd, true⟩] ++ M.drop (i + 1) := by simp [applyL]
    rw [e1, e2]
    refine ⟨(fitsF_iff _ _).2 ⟨by simp [hl], ?_⟩, ?_, by simp; omega, by simp; omega⟩
    · rw [zip_app (by simp [hl]), zip_app (by simp [hl]), zip_take hz, zip_drop hz]
      simp [zipOk, hnil]
    · rw [List.append_assoc, List.take_append_of_le_length (by simp; omega), List.take_take, Nat.min_eq_left hki]
theorem turnL_mem {R : List Vl} {d : Dn} {x : Vl} (h : x ∈ turnL R d) : x ∈ R ∨ x = vlNil := by
  unfold turnL at h
  rw [List.mem_append, List.mem_append] at h
  rcases h with (h | h) | h
  · exact .inl (List.mem_of_mem_take h)
  · exact .inr (List.eq_of_mem_replicate h)
  · exact .inl (List.mem_of_mem_drop h)
end Go.Proofs.Yticfhjimbochlaa
