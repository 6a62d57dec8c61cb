/-
  The place of a column: the program's Find and the document's; kinds.
-/
import Derived.Test.YtbbdmajlbofcmaaCol
import Derived.Test.YtbbdmajlbofcmaaName
import Derived.RegionTactic
import Derived.Deep.QuietTactic
import Derived.BigQuiet
namespace Go.Proofs.Ytbbdmajlbofcmaa
open Go.RowKit Dg
/-- The first column of that name; as many as there are, if there is none. -/
def findN (L : List Cl) (s : ByteArray) : Nat := L.findIdx fun c => c.nm.toList == s.toList
def findI (L : List Cl) (s : ByteArray) : Int := if findN L s < L.length then (findN L s : Int) else -1
theorem findN_at {L : List Cl} {s : ByteArray} {k : Nat} (h : k < L.length) (he : (L[k].nm.toList == s.toList) = true) (hb : ∀ j (hj : j < k), (L[j].nm.toList == s.toList) = false) : findN L s = k := by
  unfold findN
  rw [List.findIdx_eq h]
  exact ⟨he, fun j hj => hb j hj⟩
theorem findI_at {L : List Cl} {s : ByteArray} {k : Nat} (h : k < L.length) (he : (L[k].nm.toList == s.toList) = true) (hb : ∀ j (hj : j < k), (L[j].nm.toList == s.toList) = false) : findI L s = k := by
  unfold findI; rw [findN_at h he hb, if_pos h]
theorem findI_none {L : List Cl} {s : ByteArray} (hb : ∀ j (hj : j < L.length), (L[j].nm.toList == s.toList) = false) : findI L s = -1 := by
  unfold findI
  rw [if_neg]
  unfold findN
  have : L.findIdx (fun c => c.nm.toList == s.toList) = L.length := List.findIdx_eq_length.2 fun x hx => by
    obtain ⟨j, hj, rfl⟩ := List.getElem_of_mem hx
    exact hb j hj
  omega
/-- Is a kind one of a column? -/
def kindF (k : Int) : Bool := decide (1 ≤ k) && decide (k ≤ 4)
set_option maxHeartbeats 2000000 in
set_option maxRecDepth 100000 in
theorem refFind_any (A : Option Addr) (L : List Cl) (n c : Nat) (K : Int) (s : ByteArray) (w : World) (hn : L.length = n) (hl : n ≤ 1000) (hA : CRow w A L) :
    Calls Try.prog 12 #[.agg #[.slice A n c, .int .i64 K], .string s] w fun e w' => e = .returned (.int .i64 (findI L s)) ∧ Hid (Below w.heap.size w w') := by
  have HN := Lib.hid hn
  have HA := Lib.hid hA
  have HB := Lib.hid ((Below.refl w.heap.size w).alloc (Nat.le_refl _) (.cells #[.slice A n c, .int .i64 K] 24))
  clear hn hA
  go_enter Try.func12, Try.ntmps12
  go_wp2_with fail
  go_loopw [5] (fun i wr => ∃ k : Nat, k ≤ n ∧ i = .int .i64 k ∧ Hid (∀ j (hj : j < k) (hj2 : j < L.length), (L[j].nm.toList == s.toList) = false) ∧ wr = w.alloc (.cells #[.slice A n c, .int .i64 K] 24)) (fun i _ => n - (intOf i).toNat)
  case atStart => exact ⟨0, by omega, rfl, (fun j hj => absurd hj (by omega)), rfl⟩
  case round =>
    obtain ⟨k, hk, rfl, HF, rfl⟩ := hrel
    by_cases hlt : k < n
    · have hkl : k < L.length := by rw [HN.out]; exact hlt
      obtain ⟨b, off, rfl, hc⟩ := (HA.out.below HB.out) (by intro e; rw [e] at hkl; simp at hkl)
      obtain ⟨c0, c1, c2⟩ := hc k hkl
      have HAT := Lib.hid (fun he => findI_at (s := s) hkl he (fun j hj => HF.out j hj (by omega)))
      have HNX : Hid ((L[k].nm.toList == s.toList) = false → ∀ j (hj : j < k + 1) (hj2 : j < L.length), (L[j].nm.toList == s.toList) = false) := fun he j hj hj2 => by
        by_cases e : j = k
        · subst e; exact he
        · exact HF.out j (by omega) hj2
      clear hc c1 c2
      generalize L[k].nm = xa at *
      cases q : (xa.toList == s.toList)
      · go_wp2_with fail
        go_roundw
        case rel => exact ⟨k + 1, by omega, by go_num, HNX.out q, by trivial⟩
        case measure => simp [intOf]; omega
      · go_wp2_with fail
        go_ret
        exact ⟨by rw [HAT.out q]; rfl, HB⟩
    · obtain rfl : k = n := by omega
      have HF2 := Lib.hid (findI_none (L := L) (s := s) (fun j hj => HF.out j (by rw [← HN.out]; exact hj) hj))
      go_wp2_with fail
      go_ret
      exact ⟨by rw [HF2.out]; rfl, HB⟩
end Go.Proofs.Ytbbdmajlbofcmaa
