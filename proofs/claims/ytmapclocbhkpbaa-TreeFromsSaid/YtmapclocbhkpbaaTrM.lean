/-
  What stands in a tree, and how it stands: mathematics.
-/
import Derived.Test.YtmapclocbhkpbaaTrJ
namespace Go.Proofs.Ytmapclocbhkpbaa
open Go.RowKit Go.Maps Dg
set_option linter.unusedVariables false
/-- Keys and things, in order. -/
def Tr.con : Tr → List (ByteArray × Int)
  | .nil => []
  | .node _ l k v _ _ r => l.con ++ ((k, v) :: r.con)
/-- No side has too many. -/
def Bal : Tr → Prop
  | .nil => True
  | .node _ l _ _ _ _ r => (l.size + 1 + r.size) / 3 ≤ l.size ∧ l.size < (l.size + 1 + r.size) - (l.size + 1 + r.size) / 3 ∧ Bal l ∧ Bal r
theorem con_len : ∀ T : Tr, T.con.length = T.size
  | .nil => rfl
  | .node b l k v lo le r => by simp only [Tr.con, Tr.size, List.length_append, List.length_cons, con_len l, con_len r]; omega
theorem con_nds : ∀ T : Tr, T.nds.map (fun x => (x.k, x.v)) = T.con
  | .nil => rfl
  | .node b l k v lo le r => by simp only [Tr.nds, Tr.con, List.map_append, List.map_cons, con_nds l, con_nds r]
theorem ht_size : ∀ T : Tr, T.ht ≤ T.size
  | .nil => Nat.le_refl _
  | .node b l k v lo le r => by
    have h1 := ht_size l
    have h2 := ht_size r
    simp only [Tr.ht, Tr.size]
    omega
/-- Two digits more for each half. -/
theorem bal_ht2 : ∀ (m : Nat) (T : Tr), T.size ≤ m → Bal T → ∀ d, T.size + 1 < 2 ^ d → T.ht ≤ 2 * d := by
  intro m
  induction m using Nat.strongRecOn with
  | _ m ih =>
    intro T hm hB d hd
    -- a tree's height from those two levels below it
    have key : ∀ S : Tr, S.size < m → Bal S → ∀ e, S.size + 1 < 2 ^ e → S.ht ≤ 2 * e := fun S hS hb e he => ih S.size hS S (Nat.le_refl _) hb e he
    cases T with
    | nil => exact Nat.zero_le _
    | node b l k v lo le r =>
      obtain ⟨p1, p2, hl, hr⟩ := hB
      simp only [Tr.size] at hm hd
      rcases d with _ | _ | d
      · simp at hd
      · simp at hd
        omega
      · have hP : 2 ^ (d + 1 + 1) = 4 * 2 ^ d := by rw [Nat.pow_succ, Nat.pow_succ]; omega
        rw [hP] at hd
        have hP1 : 2 ^ (d + 1) = 2 * 2 ^ d := by rw [Nat.pow_succ]; omega
        have hpos : 1 ≤ 2 ^ d := Nat.one_le_two_pow
        -- each side's height is at most one more than twice the digits less one
        have side : ∀ S : Tr, Bal S → S.size ≤ (l.size + 1 + r.size) - (l.size + 1 + r.size) / 3 - 1 → S.ht ≤ 1 + 2 * (d + 1) := by
          intro S hS hsz
          cases S with
          | nil => exact Nat.zero_le _
          | node b' l' k' v' lo' le' r' =>
            obtain ⟨q1, q2, hl', hr'⟩ := hS
            simp only [Tr.size] at hsz
            have g1 : l'.ht ≤ 2 * (d + 1) := by
              by_cases hs : l'.size + 1 < 2 ^ (d + 1)
              · exact key l' (by omega) hl' _ hs
              · rw [hP1] at hs
                have := ht_size l'
                omega
            have g2 : r'.ht ≤ 2 * (d + 1) := by
              by_cases hs : r'.size + 1 < 2 ^ (d + 1)
              · exact key r' (by omega) hr' _ hs
              · rw [hP1] at hs
                have := ht_size r'
                omega
            simp only [Tr.ht]
            omega
        have a1 := side l hl (by omega)
        have a2 := side r hr (by omega)
        simp only [Tr.ht]
        omega
end Go.Proofs.Ytmapclocbhkpbaa
