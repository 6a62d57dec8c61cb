/-
  The law ValueReads walked: what is a key's values, or none's.
-/
import Derived.Test.YtlkhijccjjpbbaaDoorVals
import Derived.Test.YtlkhijccjjpbbaaDoorLives
import Derived.Test.YtlkhijccjjpbbaaDoorRkey
import Derived.Test.YtlkhijccjjpbbaaDoorGoods
import Derived.Test.YtlkhijccjjpbbaaDoorCmp
namespace Go.Proofs.YtlkhijccjjpbbaaDoor.valueReads
open Go.RowKit Dg
set_option maxHeartbeats 4000000 in
set_option maxRecDepth 100000 in
theorem walk (s : ByteArray) (w : World) (hs : s.size ≤ 140737488355328) (hT : Tabs w) :
    Calls Tryd.prog 6 #[.string s] w fun e w' => e = .returned (.bool true) ∧ Below w.heap.size w w' := by
  have HT := Lib.hid hT
  clear hT
  by_cases h60 : 60 < s.size
  · have hz : (60 : Int) < (s.size : Int) := by omega
    obtain ⟨t, ht⟩ : ∃ t, s.extract 0 60 = t := ⟨_, rfl⟩
    have hts : t.size ≤ 60 := by rw [← ht]; simp; omega
    · go_enter Tryd.func6, Tryd.ntmps6
      go_wp2_with fail
      clear ht
      refine (values_any t _ (by omega) HT.out).mono ?_
      rintro e w1 ⟨hv, HB1⟩
      rcases hv with ⟨L, v, hg, hfs, hll, hk, rfl, ho⟩ | ⟨hno, rfl⟩
      · obtain ⟨A, n, c, rfl, HN, hnc, hcm, HV, HZ⟩ := ownV_open ho
        have hn60 : n ≤ 60 := by have := HN.out; omega
        have HG := Lib.hid hg
        have HKS : Hid (bs (keys L) = t) := by show _ = _; rw [hk, bs_sb]
        clear ho hg hfs hll hk
        go_wp2_with fail
        go_loopw [5] (fun i wr => ∃ k : Nat, k ≤ n ∧ i = .int .i64 k ∧ Hid (Below w1.heap.size w1 wr)) (fun i _ => n - (intOf i).toNat)
        case atStart => exact ⟨0, by omega, rfl, Below.refl _ _⟩
        case round =>
          obtain ⟨k, hk, rfl, HB⟩ := hrel
          by_cases hlt : k < n
          · have hkl : k < L.length := by rw [HN.out]; exact hlt
            obtain ⟨b, off, rfl, hc⟩ := (HV.out.below HB.out) (by intro e; rw [e] at hkl; simp at hkl)
            obtain ⟨c0, c1, c2⟩ := hc k hkl
            obtain ⟨hm, hfit⟩ := HG.out L[k] (List.getElem_mem hkl)
            clear hc
            generalize L[k] = x at *
            obtain ⟨xk, xn, xs⟩ := x
            obtain ⟨f0, f1, f2⟩ := hfit
            simp only at c0 c1 c2 f0 f1 f2
            have hm' : mayF xk xn xs = true := hm
            go_wp2_with fail
            refine (refMay_any xk xn xs _ f2).mono ?_
            rintro e w2 ⟨rfl, hb2⟩
            rw [hm']
            have HB2 := Lib.hid (HB.out.trans (hb2.out.mono HB.out.size))
            clear hb2 hm hm'
            go_wp2_with fail
            go_roundw
            case rel => exact ⟨k + 1, by omega, by go_num, HB2⟩
            case measure => simp [intOf]; omega
          · obtain rfl : k = n := by omega
            go_wp2_with fail
            refine (refKey_any A L k c _ HN.out (by omega) (HV.out.below HB.out) (fun x hx => (HG.out x hx).2) (fun x hx => (HG.out x hx).1)).mono ?_
            rintro e w3 ⟨rfl, hb3⟩
            rw [HKS.out]
            have HB3 := Lib.hid (HB1.out.trans ((HB.out.trans (hb3.out.mono HB.out.size)).mono HB1.out.size))
            clear hb3
            go_wp2_with fail
            refine (lives_any _ (HT.out.below HB3.out)).mono ?_
            rintro e w4 ⟨rfl, hb4⟩
            have HB4 := Lib.hid (HB3.out.trans (hb4.mono HB3.out.size))
            clear hb4
            go_wp2_with fail
            go_ret
            exact ⟨rfl, HB4.out⟩
      · clear hno
        go_wp2_with fail
        refine (lives_any _ (HT.out.below HB1.out)).mono ?_
        rintro e w4 ⟨rfl, hb4⟩
        have HB4 := Lib.hid (HB1.out.trans (hb4.mono HB1.out.size))
        clear hb4
        go_wp2_with fail
        go_ret
        exact ⟨rfl, HB4.out⟩
  · obtain ⟨t, ht⟩ : ∃ t, s = t := ⟨_, rfl⟩
    subst ht
    have hts : s.size ≤ 60 := by omega
    · go_enter Tryd.func6, Tryd.ntmps6
      go_wp2_with fail
      refine (values_any s _ (by omega) HT.out).mono ?_
      rintro e w1 ⟨hv, HB1⟩
      rcases hv with ⟨L, v, hg, hfs, hll, hk, rfl, ho⟩ | ⟨hno, rfl⟩
      · obtain ⟨A, n, c, rfl, HN, hnc, hcm, HV, HZ⟩ := ownV_open ho
        have hn60 : n ≤ 60 := by have := HN.out; omega
        have HG := Lib.hid hg
        have HKS : Hid (bs (keys L) = s) := by show _ = _; rw [hk, bs_sb]
        clear ho hg hfs hll hk
        go_wp2_with fail
        go_loopw [5] (fun i wr => ∃ k : Nat, k ≤ n ∧ i = .int .i64 k ∧ Hid (Below w1.heap.size w1 wr)) (fun i _ => n - (intOf i).toNat)
        case atStart => exact ⟨0, by omega, rfl, Below.refl _ _⟩
        case round =>
          obtain ⟨k, hk, rfl, HB⟩ := hrel
          by_cases hlt : k < n
          · have hkl : k < L.length := by rw [HN.out]; exact hlt
            obtain ⟨b, off, rfl, hc⟩ := (HV.out.below HB.out) (by intro e; rw [e] at hkl; simp at hkl)
            obtain ⟨c0, c1, c2⟩ := hc k hkl
            obtain ⟨hm, hfit⟩ := HG.out L[k] (List.getElem_mem hkl)
            clear hc
            generalize L[k] = x at *
            obtain ⟨xk, xn, xs⟩ := x
            obtain ⟨f0, f1, f2⟩ := hfit
            simp only at c0 c1 c2 f0 f1 f2
            have hm' : mayF xk xn xs = true := hm
            go_wp2_with fail
            refine (refMay_any xk xn xs _ f2).mono ?_
            rintro e w2 ⟨rfl, hb2⟩
            rw [hm']
            have HB2 := Lib.hid (HB.out.trans (hb2.out.mono HB.out.size))
            clear hb2 hm hm'
            go_wp2_with fail
            go_roundw
            case rel => exact ⟨k + 1, by omega, by go_num, HB2⟩
            case measure => simp [intOf]; omega
          · obtain rfl : k = n := by omega
            go_wp2_with fail
            refine (refKey_any A L k c _ HN.out (by omega) (HV.out.below HB.out) (fun x hx => (HG.out x hx).2) (fun x hx => (HG.out x hx).1)).mono ?_
            rintro e w3 ⟨rfl, hb3⟩
            rw [HKS.out]
            have HB3 := Lib.hid (HB1.out.trans ((HB.out.trans (hb3.out.mono HB.out.size)).mono HB1.out.size))
            clear hb3
            go_wp2_with fail
            refine (lives_any _ (HT.out.below HB3.out)).mono ?_
            rintro e w4 ⟨rfl, hb4⟩
            have HB4 := Lib.hid (HB3.out.trans (hb4.mono HB3.out.size))
            clear hb4
            go_wp2_with fail
            go_ret
            exact ⟨rfl, HB4.out⟩
      · clear hno
        go_wp2_with fail
        refine (lives_any _ (HT.out.below HB1.out)).mono ?_
        rintro e w4 ⟨rfl, hb4⟩
        have HB4 := Lib.hid (HB1.out.trans (hb4.mono HB1.out.size))
        clear hb4
        go_wp2_with fail
        go_ret
        exact ⟨rfl, HB4.out⟩
end Go.Proofs.YtlkhijccjjpbbaaDoor.valueReads
