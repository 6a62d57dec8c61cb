/-
  The document's example stands.
-/
import Derived.Test.YtjkmbggaoinkdaaDoorWRight
namespace Go.Proofs.YtjkmbggaoinkdaaDoor
open Go.RowKit Dg
set_option maxRecDepth 100000
/-- The name t. -/
def tB : ByteArray := ⟨#[116]⟩
theorem tB_name : nameF tB = true := by decide +kernel
theorem sortW_one (x : Wk) : SortW [x] := fun i j hij hj => by simp at hj; omega
theorem sortW_nil : SortW [] := fun i j hij hj => by simp at hj
theorem lbW_one (d : Bool) (k : ByteArray) : lbW [⟨tB, d, k⟩] tB = 0 := by
  unfold lbW; rw [List.findIdx_cons]; simp [less_irrefl]
theorem plW_one (d : Bool) (k : ByteArray) : plW [⟨tB, d, k⟩] tB = true := by
  unfold plW; rw [lbW_one]; simp
theorem wdF_one (d : Bool) (k : ByteArray) : wdF [⟨tB, d, k⟩] tB = d := by
  unfold wdF; rw [lbW_one]; simp
theorem wkF_one (d : Bool) (k : ByteArray) : wkF [⟨tB, d, k⟩] tB = k := by
  unfold wkF; rw [lbW_one]; simp
theorem covB_one (k q : ByteArray) : covB [⟨tB, false, k⟩] tB q = (!(k.size == 0) && !Op.bytesLess k.toList q.toList) := by
  unfold covB; rw [plW_one, wdF_one, wkF_one]; simp
theorem covB_45 : covB [⟨tB, false, kI 5⟩] tB (kI 4) = true := by rw [covB_one]; decide +kernel
theorem covB_65 : covB [⟨tB, false, kI 5⟩] tB (kI 6) = false := by rw [covB_one]; decide +kernel
theorem wrightF_one (n : Int) (h0 : -9223372036854775808 ≤ n) (h1 : n ≤ 9223372036854775807) : wrightF [⟨tB, false, kI n⟩] = true := by
  have h : isKeyB (kI n) = true := isKeyB_int n h0 h1
  have e : wokAt [⟨tB, false, kI n⟩] 0 = true := by rw [wokAt_first _ (by simp)]; simp [mayW, tB_name, h]
  simp [wrightF, wrightTo, e]
/-- A work that lies alone is a row of the call's own. -/
theorem ownW_one (w : World) (x : Wk) : OwnW w.heap.size (w.alloc (.cells #[.string x.t, .bool x.d, .string x.k] 75)) (.slice (some ⟨w.heap.size, 0, none⟩) 1 1) [x] :=
  ⟨by simp [Wk.row], .inr ⟨w.heap.size, 1, #[.string x.t, .bool x.d, .string x.k], rfl, Nat.le_refl _, Has.new w 75 _, Nat.le_refl _, by decide, by simp, by simp [Wk.row]⟩⟩
theorem kI_lt (n : Int) : (kI n).size ≤ 900 := by rw [kI_size]; omega
set_option maxHeartbeats 4000000 in
theorem lives11_any (w : World) (hT : Tabs w) : Calls Tryd.prog 20 #[] w fun e w' => e = .returned (.bool true) ∧ Below w.heap.size w w' := by
  have HT := Lib.hid hT
  clear hT
  go_enter Tryd.func20, Tryd.ntmps20
  go_wp2_with fail
  refine (lawKey_any 5 _ (by omega) (by omega)).mono ?_
  rintro e w1 ⟨rfl, hb1⟩
  have HO := Lib.hid (ownW_one w1 ⟨tB, false, kI 5⟩)
  have HB2 := Lib.hid (hb1.out.trans (((Below.refl w1.heap.size w1).alloc (Nat.le_refl _) (.cells #[.string tB, .bool false, .string (kI 5)] 75)).mono hb1.out.size))
  go_wp2_with fail
  refine (pwright_any _ HO.out (by simp) (fun x hx => by rw [List.mem_singleton.1 hx]; exact ⟨by simp [tB, ByteArray.size], kI_lt 5⟩) (HT.out.below HB2.out)).mono ?_
  rintro e w3 ⟨rfl, hb3⟩
  rw [wrightF_one 5 (by omega) (by omega)]
  have HB3 := Lib.hid (HB2.out.trans (hb3.out.mono HB2.out.size))
  have HO3 := Lib.hid (HO.out.below hb3.out)
  clear hb1 hb3
  go_wp2_with fail
  refine (lawKey_any 4 _ (by omega) (by omega)).mono ?_
  rintro e w4 ⟨rfl, hb4⟩
  have HB4 := Lib.hid (HB3.out.trans (hb4.out.mono HB3.out.size))
  have HO4 := Lib.hid (HO3.out.below hb4.out)
  clear hb4
  go_wp2_with fail
  refine (cov_any tB (kI 4) _ HO4.out (by simp) (sortW_one _)).mono ?_
  rintro e w5 ⟨rfl, hb5⟩
  rw [covB_45]
  have HB5 := Lib.hid (HB4.out.trans (hb5.out.mono HB4.out.size))
  have HO5 := Lib.hid (HO4.out.below hb5.out)
  clear hb5
  go_wp2_with fail
  refine (lawKey_any 6 _ (by omega) (by omega)).mono ?_
  rintro e w6 ⟨rfl, hb6⟩
  have HB6 := Lib.hid (HB5.out.trans (hb6.out.mono HB5.out.size))
  have HO6 := Lib.hid (HO5.out.below hb6.out)
  clear hb6
  go_wp2_with fail
  refine (cov_any tB (kI 6) _ HO6.out (by simp) (sortW_one _)).mono ?_
  rintro e w7 ⟨rfl, hb7⟩
  rw [covB_65]
  have HB7 := Lib.hid (HB6.out.trans (hb7.out.mono HB6.out.size))
  clear hb7
  go_wp2_with fail
  go_ret
  exact ⟨rfl, HB7.out⟩
end Go.Proofs.YtjkmbggaoinkdaaDoor
