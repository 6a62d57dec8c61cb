/-
  The law's few: the first thirty bytes.
-/
import Derived.Test.YtfjjmodeeeolkaaDkX
namespace Go.Proofs.Ytfjjmodeeeolkaa
open Go.RowKit
def few (l : List Nat) : List Nat := l.take 30
/-- How many they are. -/
def fewN (n : Nat) : Nat := if 30 < n then 30 else n
theorem fewN_le (n : Nat) : fewN n ≤ n ∧ fewN n ≤ 30 := by unfold fewN; split <;> omega
theorem few_len (l : List Nat) : (few l).length = fewN l.length := by unfold few fewN; rw [List.length_take]; split <;> omega
theorem few_byte {l : List Nat} (h : ∀ x ∈ l, x < 256) : ∀ x ∈ few l, x < 256 := fun x hx => h x (List.mem_of_mem_take hx)
theorem few_rd {w : World} {A : Option Addr} {l : List Nat} (h : Rd w A l) : Rd w A (few l) := h.take 30
set_option maxHeartbeats 2000000 in
set_option maxRecDepth 100000 in
theorem few_any (A : Option Addr) (n c : Nat) (w : World) (hn : n ≤ c) (hc : c ≤ maxLen) :
    Calls Try.prog 16 #[.slice A n c] w fun e w' => e = .returned (.slice A (fewN n) c) ∧ w' = w := by
  unfold maxLen at hc
  unfold fewN
  by_cases h : 30 < n
  · rw [if_pos h]
    have h1 : 30 ≤ c := by omega
    go_enter Try.func16, Try.ntmps16
    go_wp2_with fail
    go_ret
    exact ⟨rfl, rfl⟩
  · rw [if_neg h]
    have h1 : n ≤ 30 := by omega
    go_enter Try.func16, Try.ntmps16
    go_wp2_with fail
    go_ret
    exact ⟨rfl, rfl⟩
end Go.Proofs.Ytfjjmodeeeolkaa
