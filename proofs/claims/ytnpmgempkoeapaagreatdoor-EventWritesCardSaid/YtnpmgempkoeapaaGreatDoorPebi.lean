/-
  Put together, as far as it is used: Dec, Qs, MayM, EwM, EwC.
-/
import Derived.Test.YtnpmgempkoeapaaGreatDoorPeac
import Derived.RegionTactic
import Derived.Laws.ResultCell
import Derived.Deep.RegionHeld3
import Derived.Test.YtnpmgempkoeapaaGreatDoorPeaw
import Derived.Test.YtnpmgempkoeapaaGreatDoorPeah
import Derived.Test.YtnpmgempkoeapaaGreatDoorPebb
import Derived.Test.YtnpmgempkoeapaaGreatDoorPebd
set_option linter.unusedVariables false
set_option linter.unusedSimpArgs false
set_option linter.defProp false
namespace Go.Proofs.YtnpmgempkoeapaaGreatDoor
open Go.RowKit Dg
def hb : Nat → Nat → List Nat
 | _, 0 => []
 | m, k + 1 => hb (m / 256) k ++ [m % 256]
theorem emptyB_eq {s : ByteArray} (h : s.toList.isEmpty = true) : s = ⟨#[]⟩ := by
 rw [ByteArray.toList_eq] at h
 obtain ⟨⟨l⟩⟩ := s
 simp at h
 subst h; rfl
theorem fits_kinds {M : List Cl} {R : List Vl} : ∀ k, k ≤ M.length → k ≤ R.length → (∀ i (h : i < M.length), i < k → M[i].no = false) → fitsTo M R k = (kindsTo M R k && (R.take k).all Vl.may)
 | 0, _, _, _ => rfl
 | k + 1, hM, hR, hn => by
   rw [fitsTo_succ M R k (by omega) (by omega), kindsTo_succ M R k (by omega) (by omega), fits_kinds k (by omega) (by omega) (fun i h hi => hn i h (by omega)), List.take_succ_eq_append_getElem (by omega), List.all_append]
   have h := hn k (by omega) (by omega)
   simp only [standsF, h, List.all_cons, List.all_nil, Bool.and_false, Bool.or_false, Bool.and_true]
   cases kindsTo M R k <;> cases (R.take k).all Vl.may <;> cases (R[k].k == M[k].k) <;> cases R[k].may <;> rfl
theorem key_one {M : List Cl} {k : Nat} (hg : GoodS M k) (R : List Vl) : (beginsF M R k && (R.take k).all Vl.may) = keyOk M R k := by
 unfold beginsF keyOk
 by_cases h : k ≤ R.length
 ·rw [fits_kinds k hg.keys.2.1 h hg.none]; simp [h]
 ·simp [h]
theorem vs_nil (L : List Vl) : vsF L [] = (L.length == 0) := by
 cases L with
 | nil => rfl
 | cons x L => simp [vsF]
theorem cs_nil (L : List Cl) : csF L [] = (L.length == 0) := by
 cases L with
 | nil => rfl
 | cons x L => simp [csF]
theorem nil_list (t : ByteArray) : (t.toList == (⟨#[]⟩ : ByteArray).toList) = t.toList.isEmpty := by
 have e : (⟨#[]⟩ : ByteArray).toList = [] := by rw [ByteArray.toList_eq]
 rw [e]
 cases t.toList <;> rfl
theorem one_col (s : ByteArray) (k : Int) : smayF [⟨s, k, false⟩] 1 = (nameF s && kindF k) := by
 rw [smayF_yes (by simp) (by simp) (by decide) (by decide) (by simp)]
 have h : colsTo [⟨s, k, false⟩] 1 1 = colOk [⟨s, k, false⟩] 1 0 := by simp [colsTo]
 show colsTo [⟨s, k, false⟩] 1 1 = _
 rw [h, colOk_at _ _ _ (by simp)]
 simp [findI, findN, List.findIdx_cons]
theorem num_one (x : Ev) : numF6 x = if (decide (0 ≤ x.n) && x.t.toList.isEmpty && x.B.length == 0 && x.A.length == 0 && plainF x) = true then 0 else 1 := by
 unfold numF6 evF bareE plainF chG chF
 dsimp only
 rw [vs_nil, vs_nil, nil_list]
 by_cases h : x.n < 0
 ·have h2 : decide (0 ≤ x.n) = false := by simp; omega
  rw [if_pos h, h2]; rfl
 ·have h2 : decide (0 ≤ x.n) = true := by simp; omega
  rw [if_neg h, h2]
  simp only [beq_self_eq_true, Bool.true_and]
theorem row_one (x : Ev) (T : List Tb) (hk : x.k = 3 ∨ x.k = 4 ∨ x.k = 5) (hG : plF T x.t = true → ∃ k : Nat, tfK T x.t = (k : Int) ∧ GoodS (tfL T x.t) k) :
 rowG6 x T = if plF T x.t = false then 7 else if fitsR x T = false then 9 else if (plainF x && (if x.k = 5 then x.A.length else x.B.length) == 0 && x.n == 0) = true then 0 else 1 := by
 unfold rowG6
 cases hp : plF T x.t with
 | false => rfl
 | true =>
   obtain ⟨k, hk1, hk2⟩ := hG hp
   have hf : rowFits x T = fitsR x T := by
    unfold rowFits fitsR
    by_cases h5 : x.k = 5
    ·rw [if_pos h5, if_pos h5, hk1]
     unfold isKeyF
     rw [Int.toNat_natCast, key_one hk2]
    ·rw [if_neg h5, if_neg h5]
   have he : evF x (ownE x) = (plainF x && (if x.k = 5 then x.A.length else x.B.length) == 0 && x.n == 0) := by
    unfold evF ownE plainF chG chF
    by_cases h5 : x.k = 5
    ·simp only [if_pos h5, vs_nil, vsF_refl, beq_self_eq_true, Bool.true_and]
     cases (x.n == 0) <;> cases (x.A.length == 0) <;> simp
    ·simp only [if_neg h5, vs_nil, vsF_refl, beq_self_eq_true, Bool.true_and]
     cases (x.n == 0) <;> cases (x.B.length == 0) <;> simp
   rw [hf, he]
theorem ss_nil (L : List Cl) (K : Int) : ssF L K [] 0 = (K == 0 && L.length == 0) := by unfold ssF; rw [cs_nil]
theorem col_cut (cn : ByteArray) (cq : Int) (cb : Bool) : Cl.eqb ⟨cn, cq, cb⟩ ⟨cn, 0, false⟩ = (cq == 0 && !cb) := by simp [Cl.eqb]
theorem ev_own (m : Int) (t : ByteArray) (B AA : List Vl) (ck : Int) (ct : ByteArray) (L L' : List Cl) (K K' : Int) (cl cl' : Cl) : evF ⟨6, m, t, B, AA, ck, ct, L, K, cl⟩ ⟨6, 0, ⟨#[]⟩, [], [], ck, ct, L', K', cl'⟩ = (m == 0 && t.toList.isEmpty && B.length == 0 && AA.length == 0 && (cl.eqb cl' && ssF L K L' K')) := by
 unfold evF chF
 dsimp only
 rw [vs_nil, vs_nil, nil_list]
 simp only [beq_self_eq_true, Bool.true_and]
set_option maxHeartbeats 4000000 in
theorem alt_one (x : Ev) (hk : x.k = 6) : altP x = if altF x.ck x.ct x.L x.K x.cl = 0 then (if (x.n == 0 && x.t.toList.isEmpty && x.B.length == 0 && x.A.length == 0) = true then 0 else 1) else altF x.ck x.ct x.L x.K x.cl := by
 obtain ⟨k, m, t, B, AA, ck, ct, L, K, ⟨cn, cq, cb⟩⟩ := x
 have hk6 : k = 6 := hk
 subst hk6
 clear hk
 dsimp only
 by_cases h : ck = 1 ∨ ck = 2 ∨ ck = 3 ∨ ck = 4 ∨ ck = 5
 ·rcases h with rfl | rfl | rfl | rfl | rfl
  ·rw [show altP ⟨6, m, t, B, AA, 1, ct, L, K, ⟨cn, cq, cb⟩⟩ = (if (smayF L K && nameF ct && evF ⟨6, m, t, B, AA, 1, ct, L, K, ⟨cn, cq, cb⟩⟩ ⟨6, 0, ⟨#[]⟩, [], [], 1, ct, L, K, ⟨⟨#[]⟩, 0, false⟩⟩) = true then 0 else 1) from rfl, show altF 1 ct L K ⟨cn, cq, cb⟩ = (if (nameF ct && smayF L K && Cl.eqb ⟨cn, cq, cb⟩ ⟨⟨#[]⟩, 0, false⟩) = true then 0 else 1) from rfl, ev_own, ssF_refl]
   cases nameF ct <;> cases smayF L K <;> cases (Cl.eqb ⟨cn, cq, cb⟩ ⟨⟨#[]⟩, 0, false⟩) <;> cases (m == 0) <;> cases t.toList.isEmpty <;> cases (B.length == 0) <;> cases (AA.length == 0) <;> rfl
  ·rw [show altP ⟨6, m, t, B, AA, 2, ct, L, K, ⟨cn, cq, cb⟩⟩ = (if (true && nameF ct && evF ⟨6, m, t, B, AA, 2, ct, L, K, ⟨cn, cq, cb⟩⟩ ⟨6, 0, ⟨#[]⟩, [], [], 2, ct, [], 0, ⟨⟨#[]⟩, 0, false⟩⟩) = true then 0 else 1) from rfl, show altF 2 ct L K ⟨cn, cq, cb⟩ = (if (nameF ct && (K == 0 && L.length == 0) && Cl.eqb ⟨cn, cq, cb⟩ ⟨⟨#[]⟩, 0, false⟩) = true then 0 else 1) from rfl, ev_own, ss_nil]
   cases nameF ct <;> cases (K == 0) <;> cases (L.length == 0) <;> cases (Cl.eqb ⟨cn, cq, cb⟩ ⟨⟨#[]⟩, 0, false⟩) <;> cases (m == 0) <;> cases t.toList.isEmpty <;> cases (B.length == 0) <;> cases (AA.length == 0) <;> rfl
  ·rw [show altP ⟨6, m, t, B, AA, 3, ct, L, K, ⟨cn, cq, cb⟩⟩ = (if (smayF [⟨cn, cq, false⟩] 1 && nameF ct && evF ⟨6, m, t, B, AA, 3, ct, L, K, ⟨cn, cq, cb⟩⟩ ⟨6, 0, ⟨#[]⟩, [], [], 3, ct, [], 0, ⟨cn, cq, cb⟩⟩) = true then 0 else 1) from rfl, show altF 3 ct L K ⟨cn, cq, cb⟩ = (if (nameF ct && (K == 0 && L.length == 0) && nameF cn && kindF cq) = true then 0 else 1) from rfl, ev_own, ss_nil, Cl.eqb_refl, one_col]
   cases nameF ct <;> cases nameF cn <;> cases (K == 0) <;> cases (L.length == 0) <;> cases kindF cq <;> cases (m == 0) <;> cases t.toList.isEmpty <;> cases (B.length == 0) <;> cases (AA.length == 0) <;> rfl
  ·rw [show altP ⟨6, m, t, B, AA, 4, ct, L, K, ⟨cn, cq, cb⟩⟩ = (if (nameF cn && nameF ct && evF ⟨6, m, t, B, AA, 4, ct, L, K, ⟨cn, cq, cb⟩⟩ ⟨6, 0, ⟨#[]⟩, [], [], 4, ct, [], 0, ⟨cn, 0, false⟩⟩) = true then 0 else 1) from rfl, show altF 4 ct L K ⟨cn, cq, cb⟩ = (if (nameF ct && (K == 0 && L.length == 0) && nameF cn && cq == 0 && !cb) = true then 0 else 1) from rfl, ev_own, ss_nil, col_cut]
   cases nameF ct <;> cases nameF cn <;> cases (K == 0) <;> cases (L.length == 0) <;> cases (cq == 0) <;> cases cb <;> cases (m == 0) <;> cases t.toList.isEmpty <;> cases (B.length == 0) <;> cases (AA.length == 0) <;> rfl
  ·rw [show altP ⟨6, m, t, B, AA, 5, ct, L, K, ⟨cn, cq, cb⟩⟩ = (if (smayF [⟨cn, cq, false⟩] 1 && nameF ct && evF ⟨6, m, t, B, AA, 5, ct, L, K, ⟨cn, cq, cb⟩⟩ ⟨6, 0, ⟨#[]⟩, [], [], 5, ct, [], 0, ⟨cn, cq, cb⟩⟩) = true then 0 else 1) from rfl, show altF 5 ct L K ⟨cn, cq, cb⟩ = (if (nameF ct && (K == 0 && L.length == 0) && nameF cn && kindF cq) = true then 0 else 1) from rfl, ev_own, ss_nil, Cl.eqb_refl, one_col]
   cases nameF ct <;> cases nameF cn <;> cases (K == 0) <;> cases (L.length == 0) <;> cases kindF cq <;> cases (m == 0) <;> cases t.toList.isEmpty <;> cases (B.length == 0) <;> cases (AA.length == 0) <;> rfl
 ·unfold altP altF
  dsimp only
  rw [if_neg (by omega), if_neg (by omega), if_neg (by omega), if_neg (by omega), if_neg (by omega), if_neg (by omega)]
theorem may_one (x : Ev) (T : List Tb) (hG : plF T x.t = true → ∃ k : Nat, tfK T x.t = (k : Int) ∧ GoodS (tfL T x.t) k) : mayP x T = mayR x T := by
 unfold mayP mayR
 by_cases h1 : x.k = 1 ∨ x.k = 2 ∨ x.k = 7 ∨ x.k = 8 ∨ x.k = 9 ∨ x.k = 10
 ·rw [if_pos h1, if_neg (by omega), if_neg (by omega), if_pos h1, num_one]
 ·rw [if_neg h1]
  by_cases h3 : x.k = 3 ∨ x.k = 4 ∨ x.k = 5
  ·rw [if_pos h3, if_pos h3, row_one x T h3 hG]
  ·rw [if_neg h3, if_neg h3]
   by_cases h6 : x.k = 6
   ·rw [if_pos h6, if_pos h6, alt_one x h6]
   ·rw [if_neg h6, if_neg h6, if_neg h1]
end Go.Proofs.YtnpmgempkoeapaaGreatDoor
namespace Go.Proofs.YtnpmgempkoeapaaGreatDoor
open Go.RowKit Go.Maps Dg
set_option maxRecDepth 100000
theorem plainF_is {x : Ev} (h : plainF x = true) : x.ck = 0 ∧ x.ct = ⟨#[]⟩ ∧ x.cl = ⟨⟨#[]⟩, 0, false⟩ ∧ x.L = [] ∧ x.K = 0 := by
 unfold plainF chG ssF csF at h
 simp only [Bool.and_eq_true, beq_iff_eq, decide_eq_true_eq, List.length_nil, Cl.eqb_iff] at h
 obtain ⟨⟨⟨h1, h2⟩, h3⟩, h4, h5, _⟩ := h
 exact ⟨h1, toList_inj h2, h3, List.eq_nil_of_length_eq_zero h5, h4⟩
theorem no_cols {K : Int} {L : List Cl} (h : (K == 0 && L.length == 0) = true) : K = 0 ∧ L = [] := by
 simp only [Bool.and_eq_true, beq_iff_eq] at h
 exact ⟨h.1, List.eq_nil_of_length_eq_zero h.2⟩
theorem may_num {x : Ev} {T : List Tb} (h : mayR x T = 0) (hk : x.k = 1 ∨ x.k = 2 ∨ x.k = 7 ∨ x.k = 8 ∨ x.k = 9 ∨ x.k = 10) : 0 ≤ x.n ∧ x = bareE x.k x.n := by
 unfold mayR at h
 rw [if_neg (by omega), if_neg (by omega), if_pos hk] at h
 split at h
 ·rename_i h1
  simp only [Bool.and_eq_true, beq_iff_eq, decide_eq_true_eq] at h1
  obtain ⟨⟨⟨⟨h1, h2⟩, h3⟩, h4⟩, h5⟩ := h1
  obtain ⟨p1, p2, p3, p4, p5⟩ := plainF_is h5
  refine ⟨h1, ?_⟩
  obtain ⟨k, m, t, B, AA, ck, ct, L, K, q⟩ := x
  dsimp only at *
  subst p1 p2 p3 p4 p5
  rw [emptyB_eq h2, List.eq_nil_of_length_eq_zero h3, List.eq_nil_of_length_eq_zero h4]
  rfl
 ·cases h
theorem may_row {x : Ev} {T : List Tb} (h : mayR x T = 0) (hk : x.k = 3 ∨ x.k = 4) : plF T x.t = true ∧ fitsF (tfL T x.t) x.A = true ∧ x = ⟨x.k, 0, x.t, [], x.A, 0, ⟨#[]⟩, [], 0, ⟨⟨#[]⟩, 0, false⟩⟩ := by
 unfold mayR at h
 have hk5 : ¬ x.k = 5 := by omega
 rw [if_pos (by omega), show (if x.k = 5 then x.A.length else x.B.length) = x.B.length from if_neg hk5] at h
 split at h
 ·cases h
 ·rename_i h1
  split at h
  ·cases h
  ·rename_i h2
   split at h
   ·rename_i h3
    unfold fitsR at h2
    rw [if_neg hk5] at h2
    simp only [Bool.and_eq_true, beq_iff_eq] at h3
    obtain ⟨⟨h3, h4⟩, h5⟩ := h3
    obtain ⟨p1, p2, p3, p4, p5⟩ := plainF_is h3
    refine ⟨by simpa using h1, by simpa using h2, ?_⟩
    obtain ⟨k, m, t, B, AA, ck, ct, L, K, q⟩ := x
    dsimp only at *
    subst p1 p2 p3 p4 p5
    rw [List.eq_nil_of_length_eq_zero h4, h5]
   ·cases h
theorem may_key {x : Ev} {T : List Tb} (h : mayR x T = 0) (hk : x.k = 5) : plF T x.t = true ∧ keyOk (tfL T x.t) x.B (tfK T x.t).toNat = true ∧ x.B.length = (tfK T x.t).toNat ∧ x = ⟨x.k, 0, x.t, x.B, [], 0, ⟨#[]⟩, [], 0, ⟨⟨#[]⟩, 0, false⟩⟩ := by
 unfold mayR at h
 rw [if_pos (by omega), show (if x.k = 5 then x.A.length else x.B.length) = x.A.length from if_pos hk] at h
 split at h
 ·cases h
 ·rename_i h1
  split at h
  ·cases h
  ·rename_i h2
   split at h
   ·rename_i h3
    unfold fitsR at h2
    rw [if_pos hk] at h2
    simp only [Bool.and_eq_true, beq_iff_eq] at h3
    obtain ⟨⟨h3, h4⟩, h5⟩ := h3
    obtain ⟨p1, p2, p3, p4, p5⟩ := plainF_is h3
    have h2' : (keyOk (tfL T x.t) x.B (tfK T x.t).toNat && x.B.length == (tfK T x.t).toNat) = true := by simpa using h2
    simp only [Bool.and_eq_true, beq_iff_eq] at h2'
    refine ⟨by simpa using h1, h2'.1, h2'.2, ?_⟩
    obtain ⟨k, m, t, B, AA, ck, ct, L, K, q⟩ := x
    dsimp only at *
    subst p1 p2 p3 p4 p5
    rw [List.eq_nil_of_length_eq_zero h4, h5]
   ·cases h
theorem may_alt {x : Ev} {T : List Tb} (h : mayR x T = 0) (hk : x.k = 6) : nameF x.ct = true ∧ x = ⟨6, 0, ⟨#[]⟩, [], [], x.ck, x.ct, x.L, x.K, x.cl⟩ ∧
 ((x.ck = 1 ∧ smayF x.L x.K = true ∧ x.cl = ⟨⟨#[]⟩, 0, false⟩) ∨ (x.ck = 2 ∧ x.K = 0 ∧ x.L = [] ∧ x.cl = ⟨⟨#[]⟩, 0, false⟩) ∨ ((x.ck = 3 ∨ x.ck = 5) ∧ x.K = 0 ∧ x.L = [] ∧ nameF x.cl.nm = true ∧ kindF x.cl.k = true) ∨ (x.ck = 4 ∧ x.K = 0 ∧ x.L = [] ∧ nameF x.cl.nm = true ∧ x.cl.k = 0 ∧ x.cl.no = false)) := by
 unfold mayR at h
 rw [if_neg (by omega), if_pos hk] at h
 split at h
 ·rename_i h1
  split at h
  ·rename_i h2
   simp only [Bool.and_eq_true, beq_iff_eq] at h2
   obtain ⟨⟨⟨h2, h3⟩, h4⟩, h5⟩ := h2
   have hx : x = ⟨6, 0, ⟨#[]⟩, [], [], x.ck, x.ct, x.L, x.K, x.cl⟩ := by
    obtain ⟨k, m, t, B, AA, ck, ct, L, K, q⟩ := x
    dsimp only at *
    rw [hk, h2, emptyB_eq h3, List.eq_nil_of_length_eq_zero h4, List.eq_nil_of_length_eq_zero h5]
   unfold altF at h1
   split at h1
   ·rename_i hc
    split at h1
    ·rename_i h6
     simp only [Bool.and_eq_true, Cl.eqb_iff] at h6
     exact ⟨h6.1.1, hx, .inl ⟨hc, h6.1.2, h6.2⟩⟩
    ·cases h1
   ·split at h1
    ·rename_i hc
     split at h1
     ·rename_i h6
      rw [Bool.and_eq_true, Bool.and_eq_true, Cl.eqb_iff] at h6
      obtain ⟨a1, a2⟩ := no_cols h6.1.2
      exact ⟨h6.1.1, hx, .inr (.inl ⟨hc, a1, a2, h6.2⟩)⟩
     ·cases h1
    ·split at h1
     ·rename_i hc
      split at h1
      ·rename_i h6
       rw [Bool.and_eq_true, Bool.and_eq_true, Bool.and_eq_true] at h6
       obtain ⟨a1, a2⟩ := no_cols h6.1.1.2
       exact ⟨h6.1.1.1, hx, .inr (.inr (.inl ⟨hc, a1, a2, h6.1.2, h6.2⟩))⟩
      ·cases h1
     ·split at h1
      ·rename_i hc
       split at h1
       ·rename_i h6
        rw [Bool.and_eq_true, Bool.and_eq_true, Bool.and_eq_true, Bool.and_eq_true] at h6
        obtain ⟨a1, a2⟩ := no_cols h6.1.1.1.2
        exact ⟨h6.1.1.1.1, hx, .inr (.inr (.inr ⟨hc, a1, a2, h6.1.1.2, by simpa using h6.1.2, by simpa using h6.2⟩))⟩
       ·cases h1
      ·cases h1
  ·cases h
 ·rename_i h1
  exact absurd h h1
theorem may_kindE {x : Ev} {T : List Tb} (h : mayR x T = 0) : (x.k = 1 ∨ x.k = 2 ∨ x.k = 7 ∨ x.k = 8 ∨ x.k = 9 ∨ x.k = 10) ∨ (x.k = 3 ∨ x.k = 4) ∨ x.k = 5 ∨ x.k = 6 := by
 unfold mayR at h
 split at h
 ·omega
 ·split at h
  ·omega
  ·split at h
   ·omega
   ·cases h
set_option maxHeartbeats 8000000 in
theorem ewrite_no (k n : Int) (t : ByteArray) (ck K cq : Int) (Ab : Option Addr) (nb zb : Nat) (Aa : Option Addr) (na za : Nat) (ct : ByteArray) (A : Option Addr) (nl c : Nat) (cn : ByteArray) (cb : Bool) (At : Option Addr) (nt ctt : Nat) (w : World) (E : Int) (hE : E ≠ 0)
 (hM : ∀ W, Below w.heap.size w W → Calls Tryz.prog 23 #[.agg #[.int .i64 (k), .int .i64 (n), .string t, .slice Ab nb zb, .slice Aa na za, .int .i64 (ck), .string ct, .slice A nl c, .int .i64 (K), .string cn, .int .i64 (cq), .bool cb], .slice At nt ctt] W fun e w' => e = .returned (.int .i64 E) ∧ Hid (Below W.heap.size W w')) :
 Calls Tryz.prog 8 #[.agg #[.int .i64 (k), .int .i64 (n), .string t, .slice Ab nb zb, .slice Aa na za, .int .i64 (ck), .string ct, .slice A nl c, .int .i64 (K), .string cn, .int .i64 (cq), .bool cb], .slice At nt ctt] w fun e w' => e = .returned (.tuple #[.slice none 0 0, .int .i64 E]) ∧ Hid (Below w.heap.size w w') := by
 have hE2 : (E != 0) = true := by simpa using hE
 have HB := Lib.hid ((Below.refl w.heap.size w).alloc (Nat.le_refl _) (.cells #[.int .i64 (k), .int .i64 (n), .string t, .slice Ab nb zb, .slice Aa na za, .int .i64 (ck), .string ct, .slice A nl c, .int .i64 (K), .string cn, .int .i64 (cq), .bool cb] 33))
 have HX := Lib.hid (Has.new w 33 #[.int .i64 (k), .int .i64 (n), .string t, .slice Ab nb zb, .slice Aa na za, .int .i64 (ck), .string ct, .slice A nl c, .int .i64 (K), .string cn, .int .i64 (cq), .bool cb])
 have HM := Lib.hid (hM _ HB.out)
 clear hM
 go_enter Tryz.func8, Tryz.ntmps8
 go_wp2_with fail
 refine HM.out.mono ?_
 rintro e w1 ⟨rfl, hb1⟩
 have HB1 := Lib.hid (HB.out.trans (hb1.out.mono HB.out.size))
 have HX1 := Lib.hid (HX.out.below hb1.out (by simp))
 clear hb1 HB HX HM
 go_wp2_with fail
 go_ret2
 exact ⟨rfl, HB1⟩
set_option maxHeartbeats 8000000 in
theorem ewrite_num (k m : Nat) (t : ByteArray) (ck K cq : Int) (Ab : Option Addr) (nb zb : Nat) (Aa : Option Addr) (na za : Nat) (ct : ByteArray) (A : Option Addr) (nl c : Nat) (cn : ByteArray) (cb : Bool) (At : Option Addr) (nt ctt : Nat) (w : World) (hk : k = 1 ∨ k = 2 ∨ k = 7 ∨ k = 8 ∨ k = 9 ∨ k = 10) (hm : (m : Int) ≤ 9223372036854775807)
 (hM : ∀ W, Below w.heap.size w W → Calls Tryz.prog 23 #[.agg #[.int .i64 ((k : Int)), .int .i64 ((m : Int)), .string t, .slice Ab nb zb, .slice Aa na za, .int .i64 (ck), .string ct, .slice A nl c, .int .i64 (K), .string cn, .int .i64 (cq), .bool cb], .slice At nt ctt] W fun e w' => e = .returned (.int .i64 0) ∧ Hid (Below W.heap.size W w')) :
 Calls Tryz.prog 8 #[.agg #[.int .i64 ((k : Int)), .int .i64 ((m : Int)), .string t, .slice Ab nb zb, .slice Aa na za, .int .i64 (ck), .string ct, .slice A nl c, .int .i64 (K), .string cn, .int .i64 (cq), .bool cb], .slice At nt ctt] w fun e w' => ∃ v, e = .returned (.tuple #[v, .int .i64 0]) ∧ Hid (Own w.heap.size w' v (k :: digs m)) ∧ Hid (Below w.heap.size w w') := by
 have hwk := u8_wrap k (by omega)
 have q3 : ((k : Int) == 3) = false := by simp; omega
 have q4 : ((k : Int) == 4) = false := by simp; omega
 have q5 : ((k : Int) == 5) = false := by simp; omega
 have q6 : ((k : Int) == 6) = false := by simp; omega
 have HB := Lib.hid ((Below.refl w.heap.size w).alloc (Nat.le_refl _) (.cells #[.int .i64 ((k : Int)), .int .i64 ((m : Int)), .string t, .slice Ab nb zb, .slice Aa na za, .int .i64 (ck), .string ct, .slice A nl c, .int .i64 (K), .string cn, .int .i64 (cq), .bool cb] 33))
 have HX := Lib.hid (Has.new w 33 #[.int .i64 ((k : Int)), .int .i64 ((m : Int)), .string t, .slice Ab nb zb, .slice Aa na za, .int .i64 (ck), .string ct, .slice A nl c, .int .i64 (K), .string cn, .int .i64 (cq), .bool cb])
 have HM := Lib.hid (hM _ HB.out)
 clear hM
 go_enter Tryz.func8, Tryz.ntmps8
 go_wp2_with fail
 refine HM.out.mono ?_
 rintro e w1 ⟨rfl, hb1⟩
 have HB1 := Lib.hid (HB.out.trans (hb1.out.mono HB.out.size))
 have HX1 := Lib.hid (HX.out.below hb1.out (by simp))
 clear hb1 HB HX HM
 have HB2 : Hid (Below w.heap.size w (w1.alloc (.cells #[.int .u8 (k : Int)] 5))) := HB1.out.trans (((Below.refl w1.heap.size w1).alloc (Nat.le_refl _) _).mono HB1.out.size)
 have HX2 := Lib.hid (HX1.out.alloc (.cells #[.int .u8 (k : Int)] 5))
 have HR : Hid (Rd (w1.alloc (.cells #[.int .u8 (k : Int)] 5)) (some ⟨w1.heap.size, 0, none⟩) [(k)]) := rd_one w1 (k)
 have x0 : w1.cell? ⟨w.heap.size, 0, none⟩ = some (.int .i64 ((k : Int))) := HX1.out.cell 0
 have y0 : (w1.alloc (.cells #[.int .u8 (k : Int)] 5)).cell? ⟨w.heap.size, 0, none⟩ = some (.int .i64 ((k : Int))) := HX2.out.cell 0
 have y1 : (w1.alloc (.cells #[.int .u8 (k : Int)] 5)).cell? ⟨w.heap.size, 1, none⟩ = some (.int .i64 ((m : Int))) := HX2.out.cell 1
 go_wp2_with fail
 refine (NumberW_any (some ⟨w1.heap.size, 0, none⟩) [k] 1 1 m _ rfl (by omega) HR.out (by omega) hm).mono ?_
 rintro e w2 ⟨v, rfl, ho, hb⟩
 have HO := Lib.hid (own_down ho.out HB2.out.size)
 have HB3 := Lib.hid (HB2.out.trans (hb.out.mono HB2.out.size))
 clear ho hb HB2 HR y0 y1 x0
 go_wp2_with fail
 go_ret2
 exact ⟨v, rfl, HO, HB3⟩
set_option maxHeartbeats 8000000 in
theorem ewrite_alt (n : Int) (t : ByteArray) (ck K cq : Nat) (L : List Cl) (Ab : Option Addr) (nb zb : Nat) (Aa : Option Addr) (na za : Nat) (ct : ByteArray) (A : Option Addr) (nl c : Nat) (cn : ByteArray) (cb : Bool) (At : Option Addr) (nt ctt : Nat) (w : World) (hA : CRow w A L) (hL : L.length = nl) (hok : ChOk ck ct L K ⟨cn, cq, cb⟩)
 (hM : ∀ W, Below w.heap.size w W → Calls Tryz.prog 23 #[.agg #[.int .i64 (6), .int .i64 (n), .string t, .slice Ab nb zb, .slice Aa na za, .int .i64 ((ck : Int)), .string ct, .slice A nl c, .int .i64 ((K : Int)), .string cn, .int .i64 ((cq : Int)), .bool cb], .slice At nt ctt] W fun e w' => e = .returned (.int .i64 0) ∧ Hid (Below W.heap.size W w')) :
 Calls Tryz.prog 8 #[.agg #[.int .i64 (6), .int .i64 (n), .string t, .slice Ab nb zb, .slice Aa na za, .int .i64 ((ck : Int)), .string ct, .slice A nl c, .int .i64 ((K : Int)), .string cn, .int .i64 ((cq : Int)), .bool cb], .slice At nt ctt] w fun e w' => ∃ v, e = .returned (.tuple #[v, .int .i64 0]) ∧ Hid (Own w.heap.size w' v (6 :: chB ck ct L K ⟨cn, cq, cb⟩)) ∧ Hid (Below w.heap.size w w') := by
 have HB := Lib.hid ((Below.refl w.heap.size w).alloc (Nat.le_refl _) (.cells #[.int .i64 (6), .int .i64 (n), .string t, .slice Ab nb zb, .slice Aa na za, .int .i64 ((ck : Int)), .string ct, .slice A nl c, .int .i64 ((K : Int)), .string cn, .int .i64 ((cq : Int)), .bool cb] 33))
 have HX := Lib.hid (Has.new w 33 #[.int .i64 (6), .int .i64 (n), .string t, .slice Ab nb zb, .slice Aa na za, .int .i64 ((ck : Int)), .string ct, .slice A nl c, .int .i64 ((K : Int)), .string cn, .int .i64 ((cq : Int)), .bool cb])
 have HM := Lib.hid (hM _ HB.out)
 clear hM
 go_enter Tryz.func8, Tryz.ntmps8
 go_wp2_with fail
 refine HM.out.mono ?_
 rintro e w1 ⟨rfl, hb1⟩
 have HB1 := Lib.hid (HB.out.trans (hb1.out.mono HB.out.size))
 have HX1 := Lib.hid (HX.out.below hb1.out (by simp))
 clear hb1 HB HX HM
 have HB2 : Hid (Below w.heap.size w (w1.alloc (.cells #[.int .u8 6] 5))) := HB1.out.trans (((Below.refl w1.heap.size w1).alloc (Nat.le_refl _) _).mono HB1.out.size)
 have HX2 := Lib.hid (HX1.out.alloc (.cells #[.int .u8 6] 5))
 have HR : Hid (Rd (w1.alloc (.cells #[.int .u8 6] 5)) (some ⟨w1.heap.size, 0, none⟩) [6]) := rd_one w1 6
 have x0 : w1.cell? ⟨w.heap.size, 0, none⟩ = some (.int .i64 (6)) := HX1.out.cell 0
 have y0 : (w1.alloc (.cells #[.int .u8 6] 5)).cell? ⟨w.heap.size, 0, none⟩ = some (.int .i64 (6)) := HX2.out.cell 0
 have y5 : (w1.alloc (.cells #[.int .u8 6] 5)).cell? ⟨w.heap.size, 5, none⟩ = some (.int .i64 ((ck : Int))) := HX2.out.cell 5
 have y6 : (w1.alloc (.cells #[.int .u8 6] 5)).cell? ⟨w.heap.size, 6, none⟩ = some (.string ct) := HX2.out.cell 6
 have y7 : (w1.alloc (.cells #[.int .u8 6] 5)).cell? ⟨w.heap.size, 7, none⟩ = some (.slice A nl c) := HX2.out.cell 7
 have y8 : (w1.alloc (.cells #[.int .u8 6] 5)).cell? ⟨w.heap.size, 8, none⟩ = some (.int .i64 ((K : Int))) := HX2.out.cell 8
 have y9 : (w1.alloc (.cells #[.int .u8 6] 5)).cell? ⟨w.heap.size, 9, none⟩ = some (.string cn) := HX2.out.cell 9
 have y10 : (w1.alloc (.cells #[.int .u8 6] 5)).cell? ⟨w.heap.size, 10, none⟩ = some (.int .i64 ((cq : Int))) := HX2.out.cell 10
 have y11 : (w1.alloc (.cells #[.int .u8 6] 5)).cell? ⟨w.heap.size, 11, none⟩ = some (.bool cb) := HX2.out.cell 11
 have HC := Lib.hid (addChange_any w1.heap.size 6 ck ct A nl c L K cn cq cb _ HR.out (hA.below HB2.out) hL hok)
 go_wp2_with fail
 refine HC.out.mono ?_
 rintro e w2 ⟨v, rfl, ho, hb⟩
 have HO := Lib.hid (own_down ho.out HB2.out.size)
 have HB3 := Lib.hid (HB2.out.trans (hb.out.mono HB2.out.size))
 clear ho hb HB2 HR x0 y0 y5 y6 y7 y8 y9 y10 y11 HC
 go_wp2_with fail
 go_ret2
 exact ⟨v, rfl, HO, HB3⟩
theorem ytxt_len' (s : ByteArray) (h : s.size ≤ 900) : (ytxt s).length ≤ 910 := by
 have := digs_le_ten s.size (by omega)
 unfold ytxt; simp only [List.length_append, sb_length]; omega
end Go.Proofs.YtnpmgempkoeapaaGreatDoor
