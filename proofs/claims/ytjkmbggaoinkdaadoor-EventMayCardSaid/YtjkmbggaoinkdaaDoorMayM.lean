/-
  Whether an event may be: the program's answer and the document's are one.
-/
import Derived.Test.YtjkmbggaoinkdaaDoorRMay
import Derived.Test.YtjkmbggaoinkdaaDoorQs
namespace Go.Proofs.YtjkmbggaoinkdaaDoor
open Go.RowKit Dg
set_option linter.unusedVariables false
set_option linter.unusedSimpArgs false
theorem vs_nil (L : List Vl) : vsF L [] = (L.length == 0) := by
  cases L with
  | nil => rfl
  | cons x L => simp [vsF]
theorem cs_nil (L : List Cl) : csF L [] = (L.length == 0) := by
  cases L with
  | nil => rfl
  | cons x L => simp [csF]
theorem nil_list (t : ByteArray) : (t.toList == (⟨#[]⟩ : ByteArray).toList) = t.toList.isEmpty := by
  have e : (⟨#[]⟩ : ByteArray).toList = [] := by rw [ByteArray.toList_eq]
  rw [e]
  cases t.toList <;> rfl
theorem one_col (s : ByteArray) (k : Int) : smayF [⟨s, k, false⟩] 1 = (nameF s && kindF k) := by
  rw [smayF_yes (by simp) (by simp) (by decide) (by decide) (by simp)]
  have h : colsTo [⟨s, k, false⟩] 1 1 = colOk [⟨s, k, false⟩] 1 0 := by simp [colsTo]
  show colsTo [⟨s, k, false⟩] 1 1 = _
  rw [h, colOk_at _ _ _ (by simp)]
  simp [findI, findN, List.findIdx_cons]
theorem num_one (x : Ev) : numF6 x = if (decide (0 ≤ x.n) && x.t.toList.isEmpty && x.B.length == 0 && x.A.length == 0 && plainF x) = true then 0 else 1 := by
  unfold numF6 evF bareE plainF chG chF
  dsimp only
  rw [vs_nil, vs_nil, nil_list]
  by_cases h : x.n < 0
  · have h2 : decide (0 ≤ x.n) = false := by simp; omega
    rw [if_pos h, h2]; rfl
  · have h2 : decide (0 ≤ x.n) = true := by simp; omega
    rw [if_neg h, h2]
    simp only [beq_self_eq_true, Bool.true_and]
theorem row_one (x : Ev) (T : List Tb) (hk : x.k = 3 ∨ x.k = 4 ∨ x.k = 5) (hG : plF T x.t = true → ∃ k : Nat, tfK T x.t = (k : Int) ∧ GoodS (tfL T x.t) k) :
    rowG6 x T = if plF T x.t = false then 7 else if fitsR x T = false then 9 else if (plainF x && (if x.k = 5 then x.A.length else x.B.length) == 0 && x.n == 0) = true then 0 else 1 := by
  unfold rowG6
  cases hp : plF T x.t with
  | false => rfl
  | true =>
    obtain ⟨k, hk1, hk2⟩ := hG hp
    have hf : rowFits x T = fitsR x T := by
      unfold rowFits fitsR
      by_cases h5 : x.k = 5
      · rw [if_pos h5, if_pos h5, hk1]
        unfold isKeyF
        rw [Int.toNat_natCast, key_one hk2]
      · rw [if_neg h5, if_neg h5]
    have he : evF x (ownE x) = (plainF x && (if x.k = 5 then x.A.length else x.B.length) == 0 && x.n == 0) := by
      unfold evF ownE plainF chG chF
      by_cases h5 : x.k = 5
      · simp only [if_pos h5, vs_nil, vsF_refl, beq_self_eq_true, Bool.true_and]
        cases (x.n == 0) <;> cases (x.A.length == 0) <;> simp
      · simp only [if_neg h5, vs_nil, vsF_refl, beq_self_eq_true, Bool.true_and]
        cases (x.n == 0) <;> cases (x.B.length == 0) <;> simp
    rw [hf, he]
theorem ss_nil (L : List Cl) (K : Int) : ssF L K [] 0 = (K == 0 && L.length == 0) := by unfold ssF; rw [cs_nil]
theorem col_cut (cn : ByteArray) (cq : Int) (cb : Bool) : Cl.eqb ⟨cn, cq, cb⟩ ⟨cn, 0, false⟩ = (cq == 0 && !cb) := by simp [Cl.eqb]
theorem ev_own (m : Int) (t : ByteArray) (B AA : List Vl) (ck : Int) (ct : ByteArray) (L L' : List Cl) (K K' : Int) (cl cl' : Cl) : evF ⟨6, m, t, B, AA, ck, ct, L, K, cl⟩ ⟨6, 0, ⟨#[]⟩, [], [], ck, ct, L', K', cl'⟩ = (m == 0 && t.toList.isEmpty && B.length == 0 && AA.length == 0 && (cl.eqb cl' && ssF L K L' K')) := by
  unfold evF chF
  dsimp only
  rw [vs_nil, vs_nil, nil_list]
  simp only [beq_self_eq_true, Bool.true_and]
set_option maxHeartbeats 4000000 in
theorem alt_one (x : Ev) (hk : x.k = 6) : altP x = if altF x.ck x.ct x.L x.K x.cl = 0 then (if (x.n == 0 && x.t.toList.isEmpty && x.B.length == 0 && x.A.length == 0) = true then 0 else 1) else altF x.ck x.ct x.L x.K x.cl := by
  obtain ⟨k, m, t, B, AA, ck, ct, L, K, ⟨cn, cq, cb⟩⟩ := x
  have hk6 : k = 6 := hk
  subst hk6
  clear hk
  dsimp only
  by_cases h : ck = 1 ∨ ck = 2 ∨ ck = 3 ∨ ck = 4 ∨ ck = 5
  · rcases h with rfl | rfl | rfl | rfl | rfl
    · rw [show altP ⟨6, m, t, B, AA, 1, ct, L, K, ⟨cn, cq, cb⟩⟩ = (if (smayF L K && nameF ct && evF ⟨6, m, t, B, AA, 1, ct, L, K, ⟨cn, cq, cb⟩⟩ ⟨6, 0, ⟨#[]⟩, [], [], 1, ct, L, K, ⟨⟨#[]⟩, 0, false⟩⟩) = true then 0 else 1) from rfl, show altF 1 ct L K ⟨cn, cq, cb⟩ = (if (nameF ct && smayF L K && Cl.eqb ⟨cn, cq, cb⟩ ⟨⟨#[]⟩, 0, false⟩) = true then 0 else 1) from rfl, ev_own, ssF_refl]
      cases nameF ct <;> cases smayF L K <;> cases (Cl.eqb ⟨cn, cq, cb⟩ ⟨⟨#[]⟩, 0, false⟩) <;> cases (m == 0) <;> cases t.toList.isEmpty <;> cases (B.length == 0) <;> cases (AA.length == 0) <;> rfl
    · rw [show altP ⟨6, m, t, B, AA, 2, ct, L, K, ⟨cn, cq, cb⟩⟩ = (if (true && nameF ct && evF ⟨6, m, t, B, AA, 2, ct, L, K, ⟨cn, cq, cb⟩⟩ ⟨6, 0, ⟨#[]⟩, [], [], 2, ct, [], 0, ⟨⟨#[]⟩, 0, false⟩⟩) = true then 0 else 1) from rfl, show altF 2 ct L K ⟨cn, cq, cb⟩ = (if (nameF ct && (K == 0 && L.length == 0) && Cl.eqb ⟨cn, cq, cb⟩ ⟨⟨#[]⟩, 0, false⟩) = true then 0 else 1) from rfl, ev_own, ss_nil]
      cases nameF ct <;> cases (K == 0) <;> cases (L.length == 0) <;> cases (Cl.eqb ⟨cn, cq, cb⟩ ⟨⟨#[]⟩, 0, false⟩) <;> cases (m == 0) <;> cases t.toList.isEmpty <;> cases (B.length == 0) <;> cases (AA.length == 0) <;> rfl
    · rw [show altP ⟨6, m, t, B, AA, 3, ct, L, K, ⟨cn, cq, cb⟩⟩ = (if (smayF [⟨cn, cq, false⟩] 1 && nameF ct && evF ⟨6, m, t, B, AA, 3, ct, L, K, ⟨cn, cq, cb⟩⟩ ⟨6, 0, ⟨#[]⟩, [], [], 3, ct, [], 0, ⟨cn, cq, cb⟩⟩) = true then 0 else 1) from rfl, show altF 3 ct L K ⟨cn, cq, cb⟩ = (if (nameF ct && (K == 0 && L.length == 0) && nameF cn && kindF cq) = true then 0 else 1) from rfl, ev_own, ss_nil, Cl.eqb_refl, one_col]
      cases nameF ct <;> cases nameF cn <;> cases (K == 0) <;> cases (L.length == 0) <;> cases kindF cq <;> cases (m == 0) <;> cases t.toList.isEmpty <;> cases (B.length == 0) <;> cases (AA.length == 0) <;> rfl
    · rw [show altP ⟨6, m, t, B, AA, 4, ct, L, K, ⟨cn, cq, cb⟩⟩ = (if (nameF cn && nameF ct && evF ⟨6, m, t, B, AA, 4, ct, L, K, ⟨cn, cq, cb⟩⟩ ⟨6, 0, ⟨#[]⟩, [], [], 4, ct, [], 0, ⟨cn, 0, false⟩⟩) = true then 0 else 1) from rfl, show altF 4 ct L K ⟨cn, cq, cb⟩ = (if (nameF ct && (K == 0 && L.length == 0) && nameF cn && cq == 0 && !cb) = true then 0 else 1) from rfl, ev_own, ss_nil, col_cut]
      cases nameF ct <;> cases nameF cn <;> cases (K == 0) <;> cases (L.length == 0) <;> cases (cq == 0) <;> cases cb <;> cases (m == 0) <;> cases t.toList.isEmpty <;> cases (B.length == 0) <;> cases (AA.length == 0) <;> rfl
    · rw [show altP ⟨6, m, t, B, AA, 5, ct, L, K, ⟨cn, cq, cb⟩⟩ = (if (smayF [⟨cn, cq, false⟩] 1 && nameF ct && evF ⟨6, m, t, B, AA, 5, ct, L, K, ⟨cn, cq, cb⟩⟩ ⟨6, 0, ⟨#[]⟩, [], [], 5, ct, [], 0, ⟨cn, cq, cb⟩⟩) = true then 0 else 1) from rfl, show altF 5 ct L K ⟨cn, cq, cb⟩ = (if (nameF ct && (K == 0 && L.length == 0) && nameF cn && kindF cq) = true then 0 else 1) from rfl, ev_own, ss_nil, Cl.eqb_refl, one_col]
      cases nameF ct <;> cases nameF cn <;> cases (K == 0) <;> cases (L.length == 0) <;> cases kindF cq <;> cases (m == 0) <;> cases t.toList.isEmpty <;> cases (B.length == 0) <;> cases (AA.length == 0) <;> rfl
  · unfold altP altF
    dsimp only
    rw [if_neg (by omega), if_neg (by omega), if_neg (by omega), if_neg (by omega), if_neg (by omega), if_neg (by omega)]
theorem may_one (x : Ev) (T : List Tb) (hG : plF T x.t = true → ∃ k : Nat, tfK T x.t = (k : Int) ∧ GoodS (tfL T x.t) k) : mayP x T = mayR x T := by
  unfold mayP mayR
  by_cases h1 : x.k = 1 ∨ x.k = 2 ∨ x.k = 7 ∨ x.k = 8 ∨ x.k = 9 ∨ x.k = 10
  · rw [if_pos h1, if_neg (by omega), if_neg (by omega), if_pos h1, num_one]
  · rw [if_neg h1]
    by_cases h3 : x.k = 3 ∨ x.k = 4 ∨ x.k = 5
    · rw [if_pos h3, if_pos h3, row_one x T h3 hG]
    · rw [if_neg h3, if_neg h3]
      by_cases h6 : x.k = 6
      · rw [if_pos h6, if_pos h6, alt_one x h6]
      · rw [if_neg h6, if_neg h6, if_neg h1]
end Go.Proofs.YtjkmbggaoinkdaaDoor
