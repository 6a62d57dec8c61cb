/-
  The place of a column: the program's Find and the document's; kinds.
-/
import Derived.Test.YtiefogofiajmnaaDoorCol
import Derived.Test.YtiefogofiajmnaaDoorName
import Derived.RegionTactic
import Derived.Deep.QuietTactic
import Derived.BigQuiet
namespace Go.Proofs.YtiefogofiajmnaaDoor
open Go.RowKit Dg
/-- The first column of that name; as many as there are, if there is none. -/
def findN (L : List Cl) (s : ByteArray) : Nat := L.findIdx fun c => c.nm.toList == s.toList
def findI (L : List Cl) (s : ByteArray) : Int := if findN L s < L.length then (findN L s : Int) else -1
theorem findN_at {L : List Cl} {s : ByteArray} {k : Nat} (h : k < L.length) (he : (L[k].nm.toList == s.toList) = true) (hb : ∀ j (hj : j < k), (L[j].nm.toList == s.toList) = false) : findN L s = k := by
  unfold findN
  rw [List.findIdx_eq h]
  exact ⟨he, fun j hj => hb j hj⟩
theorem findI_at {L : List Cl} {s : ByteArray} {k : Nat} (h : k < L.length) (he : (L[k].nm.toList == s.toList) = true) (hb : ∀ j (hj : j < k), (L[j].nm.toList == s.toList) = false) : findI L s = k := by
  unfold findI; rw [findN_at h he hb, if_pos h]
theorem findI_none {L : List Cl} {s : ByteArray} (hb : ∀ j (hj : j < L.length), (L[j].nm.toList == s.toList) = false) : findI L s = -1 := by
  unfold findI
  rw [if_neg]
  unfold findN
  have : L.findIdx (fun c => c.nm.toList == s.toList) = L.length := List.findIdx_eq_length.2 fun x hx => by
    obtain ⟨j, hj, rfl⟩ := List.getElem_of_mem hx
    exact hb j hj
  omega
/-- Is a kind one of a column? -/
def kindF (k : Int) : Bool := decide (1 ≤ k) && decide (k ≤ 4)
set_option maxHeartbeats 1000000 in
theorem ofColumn_any (k : Int) (w : World) : Calls Tryd.prog 48 #[.int .i64 k] w fun e w' => e = .returned (.bool (kindF k)) ∧ w' = w := by
  by_cases h : k = 1 ∨ k = 2 ∨ k = 3 ∨ k = 4
  · rcases h with rfl | rfl | rfl | rfl
    all_goals
      go_enter Tryd.func48, Tryd.ntmps48
      go_wp2_with fail
      go_ret
      exact ⟨by rfl, by trivial⟩
  · have HK : Hid (kindF k = false) := by
      show _ = _
      cases hh : kindF k
      · rfl
      · unfold kindF at hh; simp at hh; omega
    have h1 : (k == 1) = false := by simp; omega
    have h2 : (k == 2) = false := by simp; omega
    have h3 : (k == 3) = false := by simp; omega
    have h4 : (k == 4) = false := by simp; omega
    go_enter Tryd.func48, Tryd.ntmps48
    go_wp2_with fail
    go_ret
    exact ⟨by rw [HK.out]; rfl, by trivial⟩
set_option maxHeartbeats 1000000 in
theorem findOne_any (nm : ByteArray) (k : Int) (no : Bool) (s : ByteArray) (B : Nat) (w : World) (hs : w.cell? ⟨B, 0, none⟩ = some (.string s)) :
    Calls Tryd.prog 70 #[.agg #[.string nm, .int .i64 k, .bool no], .pointer (some ⟨B, 0, none⟩)] w fun e w' => e = .returned (.bool (nm.toList == s.toList)) ∧ Hid (Below w.heap.size w w') := by
  have HB := Lib.hid ((Below.refl w.heap.size w).alloc (Nat.le_refl _) (.cells #[.string nm, .int .i64 k, .bool no] 38))
  have hlt := World.block_lt_of_cell? w _ hs
  have h2 : (w.alloc (.cells #[.string nm, .int .i64 k, .bool no] 38)).cell? ⟨B, 0, none⟩ = some (.string s) := (HB.out.cell hlt).trans hs
  go_enter Tryd.func70, Tryd.ntmps70
  go_wp2_with fail
  go_ret
  exact ⟨by rfl, HB⟩
set_option maxHeartbeats 2000000 in
set_option maxRecDepth 100000 in
theorem index_any (A : Option Addr) (L : List Cl) (n c : Nat) (s : ByteArray) (B : Nat) (w : World) (hn : L.length = n) (hl : n ≤ 1000) (hA : CRow w A L) (hs : w.cell? ⟨B, 0, none⟩ = some (.string s)) :
    Calls Tryd.prog 69 #[.slice A n c, .func (.func 70) #[] #[.pointer (some ⟨B, 0, none⟩)]] w fun e w' => e = .returned (.int .i64 (findI L s)) ∧ Hid (Below w.heap.size w w') := by
  have HN := Lib.hid hn
  have HA := Lib.hid hA
  have HS := Lib.hid hs
  have HL := Lib.hid (World.block_lt_of_cell? w _ hs)
  clear hn hA hs
  go_enter Tryd.func69, Tryd.ntmps69
  go_wp2_with fail
  go_loopw [8] (fun i wr => ∃ k : Nat, k ≤ n ∧ i = .int .i64 k ∧ Hid (∀ j (hj : j < k) (hj2 : j < L.length), (L[j].nm.toList == s.toList) = false) ∧ Hid (Below w.heap.size w wr)) (fun i _ => n - (intOf i).toNat)
  case atStart => exact ⟨0, by omega, rfl, (fun j hj => absurd hj (by omega)), Below.refl _ _⟩
  case round =>
    obtain ⟨k, hk, rfl, HF, HB⟩ := hrel
    by_cases hlt : k < n
    · have hkl : k < L.length := by rw [HN.out]; exact hlt
      obtain ⟨b, off, rfl, hc⟩ := (HA.out.below HB.out) (by intro e; rw [e] at hkl; simp at hkl)
      obtain ⟨c0, c1, c2⟩ := hc k hkl
      have hcell : wr.cell? ⟨B, 0, none⟩ = some (.string s) := (HB.out.cell HL.out).trans HS.out
      have HC := Lib.hid (findOne_any L[k].nm L[k].k L[k].no s B wr hcell)
      have HAT := Lib.hid (fun he => findI_at (s := s) hkl he (fun j hj => HF.out j hj (by omega)))
      have HNX : Hid ((L[k].nm.toList == s.toList) = false → ∀ j (hj : j < k + 1) (hj2 : j < L.length), (L[j].nm.toList == s.toList) = false) := fun he j hj hj2 => by
        by_cases e : j = k
        · subst e; exact he
        · exact HF.out j (by omega) hj2
      clear hc hcell
      generalize L[k].nm = xa at *
      generalize L[k].k = xb at *
      generalize L[k].no = xc at *
      generalize (xa.toList == s.toList) = q at *
      go_wp2_with fail
      go_at_call 70
      refine HC.out.mono ?_
      rintro e w1 ⟨rfl, hb1⟩
      have HB1 := Lib.hid (HB.out.trans (hb1.out.mono HB.out.size))
      clear hb1 c0 c1 c2
      cases q
      · go_wp2_with fail
        go_roundw
        case rel => exact ⟨k + 1, by omega, by go_num, HNX.out (by trivial), HB1⟩
        case measure => simp [intOf]; omega
      · go_wp2_with fail
        go_ret
        exact ⟨by rw [HAT.out (by trivial)]; rfl, HB1⟩
    · obtain rfl : k = n := by omega
      have HF2 := Lib.hid (findI_none (L := L) (s := s) (fun j hj => HF.out j (by rw [← HN.out]; exact hj) hj))
      go_wp2_with fail
      go_ret
      exact ⟨by rw [HF2.out]; rfl, HB⟩
set_option maxHeartbeats 1000000 in
theorem find_any (A : Option Addr) (L : List Cl) (n c : Nat) (K : Int) (s : ByteArray) (w : World) (hn : L.length = n) (hl : n ≤ 1000) (hA : CRow w A L) :
    Calls Tryd.prog 47 #[.agg #[.slice A n c, .int .i64 K], .string s] w fun e w' => e = .returned (.int .i64 (findI L s)) ∧ Hid (Below w.heap.size w w') := by
  have HB := Lib.hid (((Below.refl w.heap.size w).alloc (Nat.le_refl _) (.cells #[.slice A n c, .int .i64 K] 28)).alloc (by simp) (.cells #[.string s] 9))
  have hc : ((w.alloc (.cells #[.slice A n c, .int .i64 K] 28)).alloc (.cells #[.string s] 9)).cell? ⟨w.heap.size + 1, 0, none⟩ = some (.string s) := by
    simp
  have HC := Lib.hid (index_any A L n c s (w.heap.size + 1) _ hn hl (hA.below HB.out) hc)
  clear hn hA hc
  go_enter Tryd.func47, Tryd.ntmps47
  go_wp2_with fail
  refine HC.out.mono ?_
  rintro e w1 ⟨rfl, hb1⟩
  have HB1 := Lib.hid (HB.out.trans (hb1.out.mono HB.out.size))
  clear hb1
  go_wp2_with fail
  go_ret
  exact ⟨rfl, HB1⟩
set_option maxHeartbeats 2000000 in
set_option maxRecDepth 100000 in
theorem refFind_any (A : Option Addr) (L : List Cl) (n c : Nat) (K : Int) (s : ByteArray) (w : World) (hn : L.length = n) (hl : n ≤ 1000) (hA : CRow w A L) :
    Calls Tryd.prog 32 #[.agg #[.slice A n c, .int .i64 K], .string s] w fun e w' => e = .returned (.int .i64 (findI L s)) ∧ Hid (Below w.heap.size w w') := by
  have HN := Lib.hid hn
  have HA := Lib.hid hA
  have HB := Lib.hid ((Below.refl w.heap.size w).alloc (Nat.le_refl _) (.cells #[.slice A n c, .int .i64 K] 28))
  clear hn hA
  go_enter Tryd.func32, Tryd.ntmps32
  go_wp2_with fail
  go_loopw [5] (fun i wr => ∃ k : Nat, k ≤ n ∧ i = .int .i64 k ∧ Hid (∀ j (hj : j < k) (hj2 : j < L.length), (L[j].nm.toList == s.toList) = false) ∧ wr = w.alloc (.cells #[.slice A n c, .int .i64 K] 28)) (fun i _ => n - (intOf i).toNat)
  case atStart => exact ⟨0, by omega, rfl, (fun j hj => absurd hj (by omega)), rfl⟩
  case round =>
    obtain ⟨k, hk, rfl, HF, rfl⟩ := hrel
    by_cases hlt : k < n
    · have hkl : k < L.length := by rw [HN.out]; exact hlt
      obtain ⟨b, off, rfl, hc⟩ := (HA.out.below HB.out) (by intro e; rw [e] at hkl; simp at hkl)
      obtain ⟨c0, c1, c2⟩ := hc k hkl
      have HAT := Lib.hid (fun he => findI_at (s := s) hkl he (fun j hj => HF.out j hj (by omega)))
      have HNX : Hid ((L[k].nm.toList == s.toList) = false → ∀ j (hj : j < k + 1) (hj2 : j < L.length), (L[j].nm.toList == s.toList) = false) := fun he j hj hj2 => by
        by_cases e : j = k
        · subst e; exact he
        · exact HF.out j (by omega) hj2
      clear hc c1 c2
      generalize L[k].nm = xa at *
      cases q : (xa.toList == s.toList)
      · go_wp2_with fail
        go_roundw
        case rel => exact ⟨k + 1, by omega, by go_num, HNX.out q, by trivial⟩
        case measure => simp [intOf]; omega
      · go_wp2_with fail
        go_ret
        exact ⟨by rw [HAT.out q]; rfl, HB⟩
    · obtain rfl : k = n := by omega
      have HF2 := Lib.hid (findI_none (L := L) (s := s) (fun j hj => HF.out j (by rw [← HN.out]; exact hj) hj))
      go_wp2_with fail
      go_ret
      exact ⟨by rw [HF2.out]; rfl, HB⟩
end Go.Proofs.YtiefogofiajmnaaDoor
