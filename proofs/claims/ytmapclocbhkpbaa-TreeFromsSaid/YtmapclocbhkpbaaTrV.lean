/-
  lives: the document's example; few; Same.
-/
import Derived.Test.YtmapclocbhkpbaaTrU
namespace Go.Proofs.Ytmapclocbhkpbaa
open Go.RowKit Go.Maps Dg
set_option linter.unusedVariables false
abbrev tA : ByteArray := ⟨#[97]⟩
abbrev tB : ByteArray := ⟨#[98]⟩
abbrev tC : ByteArray := ⟨#[99]⟩
theorem kl_of (a b : ByteArray) (r : Bool) (h : Op.bytesLess a.data.toList b.data.toList = r) : kl a b = r := by
  unfold kl
  rw [ByteArray.toList_eq, ByteArray.toList_eq]
  exact h
theorem kAB : kl tA tB = true := kl_of _ _ _ (by rfl)
theorem kBA : kl tB tA = false := kl_of _ _ _ (by rfl)
theorem kAC : kl tA tC = true := kl_of _ _ _ (by rfl)
theorem kCA : kl tC tA = false := kl_of _ _ _ (by rfl)
theorem kBC : kl tB tC = true := kl_of _ _ _ (by rfl)
theorem kCB : kl tC tB = false := kl_of _ _ _ (by rfl)
theorem ex3 : putL tC 3 (putL tA 2 (putL tB 1 [])) = [(tA, 2), (tB, 1), (tC, 3)] := by
  simp [putL, kAB, kCB, kBC, kCA, kAC]
theorem skp_of (a k : ByteArray) (r : Bool) (h : ((k.data.toList == a.data.toList) && !a.data.toList.isEmpty) = r) : skp a k = r := by
  unfold skp
  rw [ByteArray.toList_eq, ByteArray.toList_eq]
  exact h
theorem exk : keysL [(tA, 2), (tB, 1), (tC, 3)] tA 5 = [tB, tC] := by
  unfold keysL
  have s1 : skp tA tA = true := skp_of _ _ _ (by rfl)
  have s2 : skp tA tB = false := skp_of _ _ _ (by rfl)
  have s3 : skp tA tC = false := skp_of _ _ _ (by rfl)
  simp [kl_irrefl, kBA, kCA, s1, s2, s3]
theorem TrAt.tur {ta tb : Nat} {w w' : World} {T T2 : Tr} (h : TrAt tb w T) (ha : TrAt ta w T2) (ht : Tur [ta] w w') (hne : tb ≠ ta) : TrAt tb w' T := by
  refine ⟨h.top.tur ht (by simpa using hne), ?_, h.bal, h.ris⟩
  have key : ∀ {S : Tr}, IsTr w.heap.size w S → IsTr w.heap.size w' S := by
    intro S
    induction S with
    | nil => intro _; trivial
    | node b l k v lo le r ihl ihr =>
      rintro ⟨h1, h2, h3, h4⟩
      refine ⟨h1, h2.tur ht fun hh => ?_, ihl h3, ihr h4⟩
      have e : b = ta := by simpa using hh
      subst e
      have h5 := ha.top
      unfold Has at h2 h5
      rw [h5] at h2
      injection h2 with h2
      injection h2 with h2 h3
      exact absurd h3 (by decide)
  exact (key h.tr).mono ht.size
theorem ownS_cell {B : Nat} {w : World} {A : Option Addr} {n c : Nat} {L : List ByteArray} (h : OwnS B w (.slice A n c) L) : L.length = n ∧ n ≤ c ∧ ∀ i (_ : i < L.length), ∃ b off, A = some ⟨b, off, none⟩ ∧ w.cell? ⟨b, off + i, none⟩ = some (.string L[i]) := by
  obtain ⟨A', n', c', e, h1, h2, h3, h4, -⟩ := ownS_row h
  injection e with e1 e2 e3
  subst e1 e2 e3
  exact ⟨h1, h2, h4⟩
set_option maxHeartbeats 4000000 in
set_option maxRecDepth 100000 in
theorem lives_any (w : World) : Calls Try.prog 10 #[] w fun e w' => e = .returned (.bool true) ∧ Below w.heap.size w w' := by
  go_enter Try.func10, Try.ntmps10
  go_wp2_with fail
  refine (tnew_any w).mono ?_
  rintro e w1 ⟨rfl, h1, b1⟩
  have H1 := Lib.hid h1
  have HB1 := Lib.hid b1
  clear h1 b1
  go_wp2_with fail
  refine (tput_any H1.out (by decide) tB (by decide) 1).mono ?_
  rintro e w2 ⟨rfl, T2, h2, c2, t2⟩
  have H2 := Lib.hid h2
  have HB2 := Lib.hid (HB1.out.trans (t2.below (by simp) HB1.out.size))
  clear h2 t2 H1 HB1
  go_wp2_with fail
  refine (tput_any H2.out (by rw [c2]; decide) tA (by decide) 2).mono ?_
  rintro e w3 ⟨rfl, T3, h3, c3, t3⟩
  have H3 := Lib.hid h3
  have HB3 := Lib.hid (HB2.out.trans (t3.below (by simp) HB2.out.size))
  clear h3 t3 H2 HB2
  go_wp2_with fail
  refine (tput_any H3.out (by rw [c3, c2]; exact Nat.le_trans (putL_len _) (by decide)) tC (by decide) 3).mono ?_
  rintro e w4 ⟨rfl, T4, h4, c4, t4⟩
  have H4 := Lib.hid h4
  have HB4 := Lib.hid (HB3.out.trans (t4.below (by simp) HB3.out.size))
  clear h4 t4 H3 HB3
  have hc : T4.con = [(tA, 2), (tB, 1), (tC, 3)] := by
    rw [c4, c3, c2]
    exact ex3
  clear c4 c3 c2
  have HC := Lib.hid hc
  go_wp2_with fail
  refine (keys_any w4 w.heap.size T4 H4.out.tr H4.out.top (by rw [← con_len, hc]; decide) tA 5).mono ?_
  rintro e w5 ⟨v, rfl, ho, b5⟩
  rw [keysF_con H4.out.ris, hc, exk] at ho
  obtain ⟨A, n, c, rfl, hn, -, -, hcs, -⟩ := ownS_row ho
  obtain ⟨b, off, rfl, q0⟩ := hcs 0 (by decide)
  obtain ⟨b', off', e1, q1⟩ := hcs 1 (by decide)
  cases e1
  obtain rfl : n = 2 := hn.symm
  have q0' : w5.cell? ⟨b, off, none⟩ = some (.string tB) := q0
  have q1' : w5.cell? ⟨b, off + 1, none⟩ = some (.string tC) := q1
  have H5 := Lib.hid (H4.out.below b5)
  have HB5 := Lib.hid (HB4.out.trans (b5.mono HB4.out.size))
  have HL := Lib.hid (len_any H5.out)
  rw [HC.out] at HL
  clear ho hcs q0 q1 H4 HB4 b5 hc
  go_wp2_with fail
  refine HL.out.mono ?_
  rintro e w6 ⟨rfl, rfl⟩
  go_wp2_with fail
  go_ret
  exact ⟨rfl, HB5.out⟩
end Go.Proofs.Ytmapclocbhkpbaa
