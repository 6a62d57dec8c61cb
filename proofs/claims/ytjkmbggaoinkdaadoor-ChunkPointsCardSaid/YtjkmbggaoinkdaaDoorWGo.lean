/-
  The program's Go and Covers.
-/
import Derived.Test.YtjkmbggaoinkdaaDoorWAdd
namespace Go.Proofs.YtjkmbggaoinkdaaDoor
open Go.RowKit Dg
set_option maxRecDepth 100000
theorem leq_not {x y : List UInt8} (h : Op.bytesLess y x = true) : Op.bytesLess x y = false ∧ (x == y) = false := by
  refine ⟨less_asymm _ _ h, ?_⟩
  rw [beq_eq_false_iff_ne]
  rintro rfl
  rw [less_irrefl] at h; cases h
theorem leq_is {x y : List UInt8} (h : Op.bytesLess y x = false) : Op.bytesLess x y = true ∨ Op.bytesLess x y = false ∧ (x == y) = true := by
  cases h2 : Op.bytesLess x y
  · right
    exact ⟨rfl, by rw [less_total _ _ h2 h]; simp⟩
  · exact .inl rfl
theorem go_of_none {T : List Wk} {s k : ByteArray} {dn : Bool} (h : plW T s = false) : goE T s k dn = 7 ∧ goW T s k dn = [] := by
  have e : goE T s k dn = 7 := by unfold goE; simp [h]
  exact ⟨e, by unfold goW; rw [e]; rfl⟩
theorem go_of_done {T : List Wk} {s k : ByteArray} {dn : Bool} (h : plW T s = true) (hd : wdF T s = true) : goE T s k dn = 14 ∧ goW T s k dn = [] := by
  have e : goE T s k dn = 14 := by unfold goE; simp [h, hd]
  exact ⟨e, by unfold goW; rw [e]; rfl⟩
theorem go_of_end {T : List Wk} {s k : ByteArray} (h : plW T s = true) (hd : wdF T s = false) : goE T s k true = 0 ∧ goW T s k true = T.take (lbW T s) ++ [⟨s, true, ⟨#[]⟩⟩] ++ T.drop (lbW T s + 1) := by
  have e : goE T s k true = 0 := by unfold goE; simp [h, hd]
  exact ⟨e, by unfold goW; rw [e]; rfl⟩
theorem go_of_nokey {T : List Wk} {s k : ByteArray} (h : plW T s = true) (hd : wdF T s = false) (hk : isKeyB k = false) : goE T s k false = 14 ∧ goW T s k false = [] := by
  have e : goE T s k false = 14 := by unfold goE; simp [h, hd, hk]
  exact ⟨e, by unfold goW; rw [e]; rfl⟩
theorem go_of_behind {T : List Wk} {s k : ByteArray} (h : plW T s = true) (hd : wdF T s = false) (hk : isKeyB k = true) (hl : Op.bytesLess (wkF T s).toList k.toList = false) : goE T s k false = 14 ∧ goW T s k false = [] := by
  have e : goE T s k false = 14 := by unfold goE; simp [h, hd, hk, hl]
  exact ⟨e, by unfold goW; rw [e]; rfl⟩
theorem go_of_key {T : List Wk} {s k : ByteArray} (h : plW T s = true) (hd : wdF T s = false) (hk : isKeyB k = true) (hl : Op.bytesLess (wkF T s).toList k.toList = true) : goE T s k false = 0 ∧ goW T s k false = T.take (lbW T s) ++ [⟨s, false, k⟩] ++ T.drop (lbW T s + 1) := by
  have e : goE T s k false = 0 := by unfold goE; simp [h, hd, hk, hl]
  exact ⟨e, by unfold goW; rw [e]; rfl⟩
theorem wcells {w : World} {A : Option Addr} {T : List Wk} {s : ByteArray} (h : WRow w A T) (hp : plW T s = true) :
    ∃ b off, A = some ⟨b, off, none⟩ ∧ w.cell? ⟨b, off + lbW T s * 3 + 1, none⟩ = some (.bool (wdF T s)) ∧ w.cell? ⟨b, off + lbW T s * 3 + 2, none⟩ = some (.string (wkF T s)) := by
  have hl := plW_lt hp
  obtain ⟨b, off, e, hc⟩ := h (by intro e; rw [e] at hl; simp at hl)
  obtain ⟨_, c1, c2⟩ := hc _ hl
  exact ⟨b, off, e, by rw [wdF_at hl]; exact c1, by rw [wkF_at hl]; exact c2⟩
set_option maxHeartbeats 4000000 in
theorem cov_any {B : Nat} {v : Value} {T : List Wk} (s k : ByteArray) (w : World) (h : OwnW B w v T) (hl : T.length ≤ 800) (hS : SortW T) :
    Calls Tryd.prog 54 #[v, .string s, .string k] w fun e w' => e = .returned (.bool (covB T s k)) ∧ Hid (Below w.heap.size w w') := by
  obtain ⟨A, n, c, rfl, hn, hc, hm, hr, hz⟩ := ownW_open h
  have HP := Lib.hid (wplace_any A T n c s w hn.out (by have := hn.out; omega) hr.out hS)
  have hlb := lw_le T s
  rw [hn.out] at hlb
  have HN := Lib.hid hn.out
  have HR := hr
  have HC0 : Hid (covB T s k = (plW T s && (wdF T s || (!((wkF T s).size == 0) && !Op.bytesLess (wkF T s).toList k.toList)))) := rfl
  have HSZ := size_e (wkF T s)
  clear hn hr hz h hS
  cases hp : plW T s
  · rw [hp] at HP HC0
    clear hp
    go_enter Tryd.func54, Tryd.ntmps54
    go_wp2_with fail
    refine HP.out.mono ?_
    rintro e w1 ⟨rfl, hb1⟩
    go_wp2_with fail
    go_ret
    exact ⟨by rw [HC0.out]; rfl, hb1⟩
  · have hlt : lbW T s < n := by rw [← HN.out]; exact plW_lt hp
    obtain ⟨b, off, rfl, z1, z2⟩ := wcells HR.out hp
    rw [hp] at HP HC0
    clear hp
    have hltz : ((lbW T s : Nat) : Int) < (n : Int) := by omega
    have HZ1 : Hid (∀ W, Below w.heap.size w W → W.cell? ⟨b, off + lbW T s * 3 + 1, none⟩ = some (.bool (wdF T s))) := fun W hb => keepW hb z1
    have HZ2 : Hid (∀ W, Below w.heap.size w W → W.cell? ⟨b, off + lbW T s * 3 + 2, none⟩ = some (.string (wkF T s))) := fun W hb => keepW hb z2
    clear z1 z2
    generalize lbW T s = lb at *
    generalize wdF T s = wd at *
    generalize wkF T s = wk at *
    go_enter Tryd.func54, Tryd.ntmps54
    go_wp2_with fail
    refine HP.out.mono ?_
    rintro e w1 ⟨rfl, hb1⟩
    have y1 := HZ1.out w1 hb1.out
    have y2 := HZ2.out w1 hb1.out
    cases wd
    · cases hz0 : wk.size == 0
      · rw [hz0] at HSZ HC0
        go_wp2_with fail
        go_ret
        exact ⟨by rw [HC0.out]; simp, hb1⟩
      · rw [hz0] at HSZ HC0
        go_wp2_with fail
        go_ret
        exact ⟨by rw [HC0.out]; simp, hb1⟩
    · go_wp2_with fail
      go_ret
      exact ⟨by rw [HC0.out]; simp, hb1⟩
end Go.Proofs.YtjkmbggaoinkdaaDoor
