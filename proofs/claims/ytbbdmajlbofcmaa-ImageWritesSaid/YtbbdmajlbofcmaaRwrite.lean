/-
  The document's Write.
-/
import Derived.Test.YtbbdmajlbofcmaaLyRef
import Derived.Test.YtbbdmajlbofcmaaImgW
namespace Go.Proofs.Ytbbdmajlbofcmaa
open Go.RowKit Dg
theorem nbits_succ (R : List Vl) (k : Nat) (h : k < R.length) : nbits (R.take (k + 1)) = nbits (R.take k) + (if R[k].k = 0 then 2 ^ k else 0) := by
  have e := nbits_snoc (R.take k) R[k]
  rw [List.length_take, Nat.min_eq_left (by omega)] at e
  rw [List.take_succ_eq_append_getElem h]; exact e
theorem app_one (w : World) (B : Nat) (v : Value) (l : List Nat) (d : Nat) (x : Int) (hx : (d : Int) = x) (h : Own B w v l) (hB : B ≤ w.heap.size) (hl : l.length ≤ 10000) :
    ∃ R W', (Builtin.append_ #[26, 26] 26 #[v, .slice (some ⟨w.heap.size, 0, none⟩) 1 1]).run Try.prog (w.alloc (.cells #[.int .u8 x] 5)) = .ok R W' ∧ Own B W' R (l ++ [d]) ∧ Below B w W' := by
  subst hx
  obtain ⟨i0, hi, hz0, hz1, hz2⟩ := info_parts info5
  obtain ⟨R, W', hrun, hown, hg, _⟩ := run_append_own (P := Try.prog) (w.alloc (.cells #[bv d] 5)) B 26 26 5 i0 (.int .u8 0) 1 1 Try.underlying26 hi hz0 hz1 hz2 rfl (by decide) v l.length (l.map bv) (h.alloc _)
    ⟨w.heap.size, 0, none⟩ 1 1 [bv d] rfl (fun j u hj => by
      rcases j with _ | j
      · have := (Has.new w 5 #[bv d]).cell 0
        simpa [Addr.add] using this.trans hj
      · simp at hj) (fun u hu => by simp at hu; subst hu; rfl) (by unfold maxLen; omega) (by omega) (by simp; omega)
  refine ⟨R, W', hrun, ?_, ?_⟩
  · unfold Own; rw [List.map_append, List.length_append]; exact hown
  · exact ((Below.refl B w).alloc hB _).grown hg (by simp; omega) fun k hk => (World.ownsRow.lt h k hk).1
theorem pow_le8 (k : Nat) (h : k ≤ 8) : 2 ^ k ≤ 256 :=
  calc 2 ^ k ≤ 2 ^ 8 := Nat.pow_le_pow_right (by omega) h
    _ = 256 := rfl
set_option maxHeartbeats 4000000 in
set_option maxRecDepth 100000 in
theorem rwrite_any (Ar : Option Addr) (R : List Vl) (nr cr : Nat) (w : World) (h1 : 1 ≤ nr) (h8 : nr ≤ 8) (hnr : R.length = nr) (hncr : nr ≤ cr) (hR : VRow w Ar R) (hmay : ∀ x ∈ R, x.may = true) (hfit : ∀ x ∈ R, x.fits) (hsz : ∀ x ∈ R, x.s.size ≤ 1000) :
    Calls Try.prog 8 #[.slice Ar nr cr] w fun e w' => ∃ v, e = .returned v ∧ Hid (Own w.heap.size w' v (imgF R)) ∧ Hid (Below w.heap.size w w') := by
  have HNR := Lib.hid hnr
  have HR := Lib.hid hR
  have HMY := Lib.hid hmay
  have HFT := Lib.hid hfit
  have HSZ := Lib.hid hsz
  have HB0 := Lib.hid (Below.refl w.heap.size w)
  have h2 : (nr : Int) ≤ 8 := by omega
  have h3 : (1 : Int) ≤ (nr : Int) := by omega
  have h4 : (0 : Int) < (nr : Int) := by omega
  clear hnr hR hmay hfit hsz
  go_enter Try.func8, Try.ntmps8
  go_wp2_with fail
  go_loopw [3, 5] (fun b i wr => ∃ (u : Value), u = b ∧ ((i = .int .i64 0 ∧ Hid (Own w.heap.size wr u [])) ∨ (i = .int .i64 8 ∧ Hid (Own w.heap.size wr u [nbits R]))) ∧ Hid (Below w.heap.size w wr)) (fun _ i _ => 8 - (intOf i).toNat)
  case atStart => exact ⟨_, rfl, .inl ⟨rfl, World.ownsRow_nil _ _ _ _⟩, HB0⟩
  case round =>
    obtain ⟨u, rfl, hcase, HB⟩ := hrel
    clear HB0
    obtain ⟨wo, rfl⟩ : ∃ wo : World, wo = wr := ⟨_, rfl⟩
    rcases hcase with ⟨rfl, HO⟩ | ⟨rfl, HO⟩
    · have h04 : (0 : Int) < (nr : Int) := h4
      go_wp2_with fail
      go_loopw [6, 7, 8] (fun x a k wr => ∃ (j xv av : Nat), j ≤ nr ∧ x = .int .i64 xv ∧ a = .int .i64 av ∧ k = .int .i64 j ∧ Hid (xv = nbits (R.take j)) ∧ Hid (av = 2 ^ j) ∧ wr = wo) (fun _ _ k _ => nr - (intOf k).toNat)
      case atStart => exact ⟨0, 0, 1, by omega, rfl, rfl, rfl, rfl, rfl, rfl⟩
      case round =>
        obtain ⟨j, xv, av, hj, rfl, rfl, rfl, HX, HA, rfl⟩ := hrel
        have hxv : xv < av := by rw [HX.out, HA.out]; have := nbits_lt (R.take j); rwa [List.length_take, Nat.min_eq_left (by rw [HNR.out]; omega)] at this
        have hav : av ≤ 256 := by rw [HA.out]; exact pow_le8 j (by omega)
        by_cases hlt : j < nr
        · have hlz : (j : Int) < (nr : Int) := by omega
          have hl8 : (j : Int) < 8 := by omega
          have hjr : j < R.length := by rw [HNR.out]; omega
          have HS := Lib.hid (nbits_succ R j hjr)
          obtain ⟨b, off, rfl, hc⟩ := (HR.out.below HB.out) (by intro e; rw [e] at hjr; simp at hjr)
          obtain ⟨d0, d1, d2⟩ := hc j hjr
          clear hc
          generalize R[j] = y at *
          obtain ⟨yk, yn, ys⟩ := y
          simp only at d0 d1 d2
          by_cases hk : yk = 0
          · subst hk
            go_wp2_with fail
            go_roundw
            case rel => exact ⟨j + 1, xv + av, 2 * av, by omega, by simp, by simp, by simp, by show _ = _; rw [HS.out, if_pos rfl, ← HX.out, ← HA.out], by show _ = _; rw [HA.out, Nat.pow_succ]; omega, trivial⟩
            case measure => simp [intOf]; omega
          · have hke : (yk == 0) = false := beq_eq_false_iff_ne.2 hk
            go_wp2_with fail
            go_roundw
            case rel => exact ⟨j + 1, xv, 2 * av, by omega, rfl, by simp, by simp, by show _ = _; rw [HS.out, if_neg hk, ← HX.out]; rfl, by show _ = _; rw [HA.out, Nat.pow_succ]; omega, trivial⟩
            case measure => simp [intOf]; omega
        · obtain rfl : j = nr := by omega
          replace HX : Hid (xv = nbits R) := by show _ = _; rw [HX.out, List.take_of_length_le (by rw [HNR.out]; omega)]
          have hx0 : (0 : Int) ≤ (xv : Int) := by omega
          have hx1 : (xv : Int) ≤ 255 := by omega
          have HAP := Lib.hid (app_one wr w.heap.size u [] xv (xv : Int) rfl HO.out HB.out.size (by simp))
          go_wp2_with (at_builtin; refine wpList_app rfl _ _ 26 26 rfl u (.slice (some ⟨wr.heap.size, 0, none⟩) 1 1) rfl rfl ?_; obtain ⟨Q, W', hrun, hmade⟩ := HAP.out; refine ⟨Q, W', hrun, ?_⟩; have HM := Lib.hid hmade; clear hrun hmade)
          go_roundw
          case rel => exact ⟨Q, rfl, .inr ⟨rfl, by rw [← HX.out]; exact HM.out.1⟩, HB.out.trans HM.out.2⟩
          case measure => simp [intOf]
    · have h84 : ¬ ((8 : Int) < (nr : Int)) := by omega
      go_wp2_with fail
      go_loopw [3, 9] (fun b i wr => ∃ (k : Nat) (u : Value), k ≤ nr ∧ u = b ∧ i = .int .i64 k ∧ Hid (Own w.heap.size wr u (nbits R :: (R.take k).flatMap plB)) ∧ Hid (Below w.heap.size w wr)) (fun _ i _ => nr - (intOf i).toNat)
      case atStart => exact ⟨0, _, by omega, rfl, rfl, HO, HB⟩
      case round =>
        clear HO HB h84
        obtain ⟨k, u, hk, rfl, rfl, HO, HB⟩ := hrel
        by_cases hlt : k < nr
        · have hlz : (k : Int) < (nr : Int) := by omega
          have hjr : k < R.length := by rw [HNR.out]; omega
          obtain ⟨b, off, rfl, hc⟩ := (HR.out.below HB.out) (by intro e; rw [e] at hjr; simp at hjr)
          obtain ⟨d0, d1, d2⟩ := hc k hjr
          have HT : Hid (nbits R :: (R.take (k + 1)).flatMap plB = (nbits R :: (R.take k).flatMap plB) ++ plB R[k]) := by
            show _ = _
            rw [List.take_succ_eq_append_getElem hjr, List.flatMap_append]; simp
          have HLI : Hid ((nbits R :: (R.take k).flatMap plB).length ≤ 9000) := by
            have h1 := plb_len (R.take k) (fun x hx => plB_len x (HSZ.out x (List.mem_of_mem_take hx)) (HFT.out x (List.mem_of_mem_take hx)).1.1 (HFT.out x (List.mem_of_mem_take hx)).1.2.1)
            show _ ≤ _
            rw [List.length_cons]
            have h2 : (R.take k).length ≤ 8 := by rw [List.length_take]; omega
            have h3 := Nat.mul_le_mul_left 1020 h2
            omega
          have hmy := HMY.out R[k] (List.getElem_mem hjr)
          have hft := HFT.out R[k] (List.getElem_mem hjr)
          have hsz := HSZ.out R[k] (List.getElem_mem hjr)
          clear hc
          generalize R[k] = y at *
          obtain ⟨yk, yn, ys⟩ := y
          simp only at d0 d1 d2 hsz
          have hn0 := hft.1.1
          have hn1 := hft.1.2.1
          simp only at hn0 hn1
          have hm : mayF yk yn ys = true := hmy
          clear hft hmy
          rcases may_kind hm with rfl | rfl | rfl | rfl | rfl
          · have hp : plB ⟨0, yn, ys⟩ = [] := by simp [plB]
            rw [hp, List.append_nil] at HT
            have hba : Below wr.heap.size wr (wr.alloc (.cells #[.int .i64 0, .int .i64 yn, .string ys] 41)) := (Below.refl _ _).alloc (Nat.le_refl _) _
            replace HO := Lib.hid (HO.out.below hba)
            replace HB := Lib.hid (HB.out.trans (hba.mono HB.out.size))
            clear hba
            clear hp hm
            go_wp2_with fail
            go_roundw
            case rel => exact ⟨k + 1, u, by omega, rfl, by simp, by rw [HT.out]; exact HO, HB⟩
            case measure => simp [intOf]; omega
          · have hn : yn = 0 ∨ yn = 1 := by
              simp only [mayF] at hm
              simp at hm
              exact hm.2
            clear hm
            obtain ⟨d, rfl, hd⟩ : ∃ d : Nat, yn = (d : Int) ∧ d ≤ 1 := by
              rcases hn with rfl | rfl
              · exact ⟨0, rfl, by omega⟩
              · exact ⟨1, rfl, by omega⟩
            have hd0 : (0 : Int) ≤ (d : Int) := by omega
            have hd1 : (d : Int) ≤ 255 := by omega
            have hp : plB ⟨1, (d : Int), ys⟩ = [d] := by
              show [((d : Int) % 256).toNat] = [d]
              congr 1; omega
            rw [hp] at HT
            have hba : Below wr.heap.size wr (wr.alloc (.cells #[.int .i64 1, .int .i64 (d : Int), .string ys] 41)) := (Below.refl _ _).alloc (Nat.le_refl _) _
            replace HO := Lib.hid (HO.out.below hba)
            replace HB := Lib.hid (HB.out.trans (hba.mono HB.out.size))
            clear hba
            have hap := app_one (wr.alloc (.cells #[.int .i64 1, .int .i64 (d : Int), .string ys] 41)) w.heap.size u _ d (d : Int) rfl HO.out HB.out.size (Nat.le_trans HLI.out (by omega))
            rw [show (wr.alloc (.cells #[.int .i64 1, .int .i64 (d : Int), .string ys] 41)).heap.size = wr.heap.size + 1 by simp] at hap
            have HAP := Lib.hid hap
            clear hap
            clear hp hn hd
            go_wp2_with (at_builtin; refine wpList_app rfl _ _ 26 26 rfl u (.slice (some ⟨wr.heap.size + 1, 0, none⟩) 1 1) rfl rfl ?_; obtain ⟨Q, W', hrun, hmade⟩ := HAP.out; refine ⟨Q, W', hrun, ?_⟩; have HM := Lib.hid hmade; clear hrun hmade)
            go_roundw
            case rel => exact ⟨k + 1, Q, by omega, rfl, by simp, by rw [HT.out]; exact HM.out.1, HB.out.trans HM.out.2⟩
            case measure => simp [intOf]; omega
          · have hp : plB ⟨2, yn, ys⟩ = digs (zig yn) := rfl
            have HPL : Hid ((digs (zig yn)).length ≤ 10) := digs_le_ten (zig yn) (zig_lt yn hn0 hn1)
            have hba : Below wr.heap.size wr (wr.alloc (.cells #[.int .i64 2, .int .i64 yn, .string ys] 41)) := (Below.refl _ _).alloc (Nat.le_refl _) _
            replace HO := Lib.hid (HO.out.below hba)
            replace HB := Lib.hid (HB.out.trans (hba.mono HB.out.size))
            clear hba
            have HC := Lib.hid (refSigned_any yn (wr.alloc (.cells #[.int .i64 2, .int .i64 yn, .string ys] 41)) hn0 hn1)
            rw [hp] at HT
            clear hp hm
            go_wp2_with fail
            refine HC.out.mono ?_
            rintro e w1 ⟨v, rfl, ho, hb⟩
            obtain ⟨A1, n1, c1, rfl, HN1, hnc1, HR1, HZ1⟩ := own_openZ ho
            have HAP := Lib.hid (own_app w1 w.heap.size u _ (HO.out.below hb) (Nat.le_trans HB.out.size hb.size) A1 _ n1 c1 HN1.out HR1.out (by have := HLI.out; have := HPL.out; have := HN1.out; omega) HZ1.out)
            replace HB := Lib.hid (HB.out.trans (hb.mono HB.out.size))
            clear ho hb HC
            go_wp2_with (at_builtin; refine wpList_app rfl _ _ 26 26 rfl u (.slice A1 n1 c1) rfl rfl ?_; obtain ⟨Q, W', hrun, hmade⟩ := HAP.out; refine ⟨Q, W', hrun, ?_⟩; have HM := Lib.hid hmade; clear hrun hmade)
            go_roundw
            case rel => exact ⟨k + 1, Q, by omega, rfl, by simp, by rw [HT.out]; exact HM.out.1, HB.out.trans HM.out.2⟩
            case measure => simp [intOf]; omega
          · have hp : plB ⟨3, yn, ys⟩ = txt ys := rfl
            have HPL : Hid ((txt ys).length ≤ 1010) := by
              show _ ≤ _
              unfold txt; rw [List.length_append, sb_length]; have := digs_le_ten ys.size (by omega); omega
            have hba : Below wr.heap.size wr (wr.alloc (.cells #[.int .i64 3, .int .i64 yn, .string ys] 41)) := (Below.refl _ _).alloc (Nat.le_refl _) _
            replace HO := Lib.hid (HO.out.below hba)
            replace HB := Lib.hid (HB.out.trans (hba.mono HB.out.size))
            clear hba
            have HC := Lib.hid (refText_any ys (wr.alloc (.cells #[.int .i64 3, .int .i64 yn, .string ys] 41)) hsz)
            rw [hp] at HT
            clear hp hm
            go_wp2_with fail
            refine HC.out.mono ?_
            rintro e w1 ⟨v, rfl, ho, hb⟩
            obtain ⟨A1, n1, c1, rfl, HN1, hnc1, HR1, HZ1⟩ := own_openZ ho
            have HAP := Lib.hid (own_app w1 w.heap.size u _ (HO.out.below hb) (Nat.le_trans HB.out.size hb.size) A1 _ n1 c1 HN1.out HR1.out (by have := HLI.out; have := HPL.out; have := HN1.out; omega) HZ1.out)
            replace HB := Lib.hid (HB.out.trans (hb.mono HB.out.size))
            clear ho hb HC
            go_wp2_with (at_builtin; refine wpList_app rfl _ _ 26 26 rfl u (.slice A1 n1 c1) rfl rfl ?_; obtain ⟨Q, W', hrun, hmade⟩ := HAP.out; refine ⟨Q, W', hrun, ?_⟩; have HM := Lib.hid hmade; clear hrun hmade)
            go_roundw
            case rel => exact ⟨k + 1, Q, by omega, rfl, by simp, by rw [HT.out]; exact HM.out.1, HB.out.trans HM.out.2⟩
            case measure => simp [intOf]; omega
          · have hp : plB ⟨4, yn, ys⟩ = txt ys := rfl
            have HPL : Hid ((txt ys).length ≤ 1010) := by
              show _ ≤ _
              unfold txt; rw [List.length_append, sb_length]; have := digs_le_ten ys.size (by omega); omega
            have hba : Below wr.heap.size wr (wr.alloc (.cells #[.int .i64 4, .int .i64 yn, .string ys] 41)) := (Below.refl _ _).alloc (Nat.le_refl _) _
            replace HO := Lib.hid (HO.out.below hba)
            replace HB := Lib.hid (HB.out.trans (hba.mono HB.out.size))
            clear hba
            have HC := Lib.hid (refText_any ys (wr.alloc (.cells #[.int .i64 4, .int .i64 yn, .string ys] 41)) hsz)
            rw [hp] at HT
            clear hp hm
            go_wp2_with fail
            refine HC.out.mono ?_
            rintro e w1 ⟨v, rfl, ho, hb⟩
            obtain ⟨A1, n1, c1, rfl, HN1, hnc1, HR1, HZ1⟩ := own_openZ ho
            have HAP := Lib.hid (own_app w1 w.heap.size u _ (HO.out.below hb) (Nat.le_trans HB.out.size hb.size) A1 _ n1 c1 HN1.out HR1.out (by have := HLI.out; have := HPL.out; have := HN1.out; omega) HZ1.out)
            replace HB := Lib.hid (HB.out.trans (hb.mono HB.out.size))
            clear ho hb HC
            go_wp2_with (at_builtin; refine wpList_app rfl _ _ 26 26 rfl u (.slice A1 n1 c1) rfl rfl ?_; obtain ⟨Q, W', hrun, hmade⟩ := HAP.out; refine ⟨Q, W', hrun, ?_⟩; have HM := Lib.hid hmade; clear hrun hmade)
            go_roundw
            case rel => exact ⟨k + 1, Q, by omega, rfl, by simp, by rw [HT.out]; exact HM.out.1, HB.out.trans HM.out.2⟩
            case measure => simp [intOf]; omega
        · obtain rfl : k = nr := by omega
          have HF : Hid (nbits R :: (R.take k).flatMap plB = imgF R) := by
            show _ = _
            rw [List.take_of_length_le (by rw [HNR.out]; omega)]; rfl
          go_wp2_with fail
          go_ret
          exact ⟨u, rfl, by rw [← HF.out]; exact HO, HB⟩
end Go.Proofs.Ytbbdmajlbofcmaa
