/-
  Which schemas may be, as the document says.
-/
import Derived.Test.YtcdjeibcnkpadaaDoorQa
namespace Go.Proofs.YtcdjeibcnkpadaaDoor
open Go.RowKit Dg
set_option maxHeartbeats 4000000 in
set_option maxRecDepth 100000 in
theorem rmay_any (A : Option Addr) (L : List Cl) (n c : Nat) (K : Int) (w : World) (hn : L.length = n) (hl : n ≤ 1000) (hA : CRow w A L) :
    Calls Tryd.prog 31 #[.agg #[.slice A n c, .int .i64 K]] w fun e w' => e = .returned (.bool (smayF L K)) ∧ Hid (Below w.heap.size w w') := by
  have HN := Lib.hid hn
  have HA := Lib.hid hA
  have HB0 := Lib.hid ((Below.refl w.heap.size w).alloc (Nat.le_refl _) (.cells #[.slice A n c, .int .i64 K] 24))
  have HH0 := Lib.hid (Has.new w 24 #[.slice A n c, .int .i64 K])
  have HY := Lib.hid (@smayF_yes L K)
  have HNO := Lib.hid (@smayF_no L K)
  rw [hn] at HY HNO
  clear hn hA
  by_cases h1 : 1 ≤ n
  · by_cases h2 : n ≤ 16
    · by_cases h3 : 1 ≤ K
      · by_cases h4 : K ≤ 4
        · by_cases h5 : K ≤ n
          · have HY2 := Lib.hid (HY.out h1 h2 h3 h4 h5)
            clear HY HNO
            go_enter Tryd.func31, Tryd.ntmps31
            go_wp2_with fail
            go_loopw [4] (fun i wr => ∃ k : Nat, k ≤ n ∧ i = .int .i64 k ∧ Hid (colsTo L K k = true) ∧ Hid (Below w.heap.size w wr) ∧ Hid (Has wr w.heap.size 24 #[.slice A n c, .int .i64 K])) (fun i _ => n - (intOf i).toNat)
            case atStart => exact ⟨0, by omega, rfl, rfl, HB0.out, HH0.out⟩
            case round =>
              obtain ⟨k, hk, rfl, HT, HB, HH⟩ := hrel
              by_cases hlt : k < n
              · have hkl : k < L.length := by rw [HN.out]; exact hlt
                have HR := Lib.hid (HA.out.below HB.out)
                obtain ⟨b, off, rfl, hc⟩ := HR.out (by intro e; rw [e] at hkl; simp at hkl)
                obtain ⟨c0, c1, c2⟩ := hc k hkl
                have HFA := Lib.hid (colsTo_false L K k n hlt)
                have HT2 : Hid (colsTo L K (k + 1) = colOk L K k) := by show _ = _; rw [colsTo_succ, HT.out, Bool.true_and]
                have HOK := Lib.hid (colOk_at L K k hkl)
                have HFE : Hid (∀ j (hj : j < k), (L[j].nm.toList == L[k].nm.toList) = true → (findI L L[k].nm == (k : Int)) = false) := fun j hj he => findI_early hj hkl he
                have HFI : Hid ((∀ j (hj : j < k), (L[j].nm.toList == L[k].nm.toList) = false) → findI L L[k].nm = (k : Int)) := fun h => findI_at hkl (by simp) h
                generalize hxa : L[k].nm = xa at *
                generalize L[k].k = xb at *
                generalize L[k].no = xc at *
                generalize colOk L K k = ok at *
                have HW : Hid (Below w.heap.size w (wr.alloc (.cells #[.string xa, .int .i64 xb, .bool xc] 47))) := HB.out.alloc HB.out.size _
                have HR1 : Hid (CRow (wr.alloc (.cells #[.string xa, .int .i64 xb, .bool xc] 47)) (some ⟨b, off, none⟩) L) := HR.out.below ((Below.refl _ wr).alloc (Nat.le_refl _) _)
                have HX : Hid (Has (wr.alloc (.cells #[.string xa, .int .i64 xb, .bool xc] 47)) wr.heap.size 47 #[.string xa, .int .i64 xb, .bool xc]) := Has.new _ _ _
                have HH1 : Hid (Has (wr.alloc (.cells #[.string xa, .int .i64 xb, .bool xc] 47)) w.heap.size 24 #[.slice (some ⟨b, off, none⟩) n c, .int .i64 K]) := HH.out.alloc _
                have a0 := HH.out.cell 0
                have a1 := HH.out.cell 1
                simp at a0 a1
                clear hc HR hxa
                go_wp2_with fail
                refine (refName_any xa _).mono ?_
                rintro e w1 ⟨rfl, rfl⟩
                clear c0 c1 c2 a0 a1
                obtain ⟨w1, hw1⟩ : ∃ w1, w1 = wr.alloc (.cells #[.string xa, .int .i64 xb, .bool xc] 47) := ⟨_, rfl⟩
                rw [← hw1] at HW HR1 HX HH1 ⊢
                have hzz : wr.heap.size < w1.heap.size := by rw [hw1]; simp
                clear hw1
                have a0 := HH1.out.cell 0
                have a1 := HH1.out.cell 1
                have c0 := HX.out.cell 0
                have c1 := HX.out.cell 1
                have c2 := HX.out.cell 2
                simp at a0 a1 c0 c1 c2
                generalize nameF xa = q1 at *
                cases q1
                · have HO : Hid (ok = false) := by show _ = _; rw [HOK.out]; simp
                  go_wp2_with fail
                  go_ret
                  exact ⟨by rw [HY2.out, HFA.out HO.out]; rfl, HW⟩
                · by_cases hb1 : 1 ≤ xb
                  · by_cases hb2 : xb ≤ 4
                    · have hkd : kindF xb = true := by simp [kindF, hb1, hb2]
                      rw [hkd] at HOK
                      clear hkd
                      by_cases hno : xc = true ∧ (k : Int) < K
                      · obtain ⟨rfl, hkk⟩ := hno
                        have HO : Hid (ok = false) := by show _ = _; rw [HOK.out]; simp; omega
                        go_wp2_with fail
                        go_ret
                        exact ⟨by rw [HY2.out, HFA.out HO.out]; rfl, HW⟩
                      · have HNOB : Hid ((xc && decide ((k : Int) < K)) = false) := by
                          show _ = _
                          cases xc
                          · rfl
                          · simp at hno ⊢; omega
                        have hkk : (xc = false ∧ (k : Int) < K) ∨ ¬ (k : Int) < K := by
                          by_cases hh : (k : Int) < K
                          · left
                            cases xc
                            · exact ⟨rfl, hh⟩
                            · exact absurd ⟨rfl, hh⟩ hno
                          · exact .inr hh
                        clear hno
                        rcases hkk with ⟨rfl, hkk⟩ | hkk
                        all_goals
                          go_wp2_with fail
                          go_loopw [7] (fun i wq => ∃ j : Nat, j ≤ k ∧ i = .int .i64 j ∧ Hid (∀ j' (hj' : j' < j) (hl' : j' < L.length), (L[j'].nm.toList == xa.toList) = false) ∧ Hid (Below w1.heap.size w1 wq)) (fun i _ => k - (intOf i).toNat)
                          case atStart => exact ⟨0, by omega, rfl, (fun j hj => absurd hj (by omega)), Below.refl _ _⟩
                          case round =>
                            obtain ⟨j, hj, rfl, HNE, HBQ⟩ := hrel
                            have HBW := Lib.hid (HW.out.trans (HBQ.out.mono HW.out.size))
                            by_cases hjk : j < k
                            · have hjl : j < L.length := by omega
                              obtain ⟨b', off', hbe, hc⟩ := (HR1.out.below HBQ.out) (by intro e; rw [e] at hkl; simp at hkl)
                              injection hbe with hbe
                              injection hbe with hb1' hb2'
                              subst hb1' hb2'
                              obtain ⟨d0, d1, d2⟩ := hc j hjl
                              have e0 := (HH1.out.below HBQ.out HH1.out.lt).cell 0
                              have f0 := (HX.out.below HBQ.out HX.out.lt).cell 0
                              simp at e0 f0
                              have HEJ := Lib.hid (HFE.out j hjk)
                              have HNX : Hid ((L[j].nm.toList == xa.toList) = false → ∀ j' (hj' : j' < j + 1) (hl' : j' < L.length), (L[j'].nm.toList == xa.toList) = false) := fun he j' hj' hl' => by
                                by_cases e : j' = j
                                · subst e; exact he
                                · exact HNE.out j' (by omega) hl'
                              generalize L[j].nm = ya at *
                              clear hc d1 d2 a0 a1 c0 c1 c2
                              have hjz : (j : Int) < (n : Int) := by omega
                              have hj0 : (0 : Int) ≤ (j : Int) := by omega
                              cases hq : (ya.toList == xa.toList)
                              · go_wp2_with fail
                                go_region
                                all_goals
                                  go_wp2_with fail
                                  go_roundw
                                  case rel => exact ⟨j + 1, by omega, by go_num, HNX.out hq, HBQ.out.drew⟩
                                  case measure => simp [intOf]; omega
                              · have HO : Hid (ok = false) := by show _ = _; rw [HOK.out, HEJ.out hq]; simp
                                go_wp2_with fail
                                go_region
                                all_goals
                                  go_wp2_with fail
                                  go_ret
                                  exact ⟨by rw [HY2.out, HFA.out HO.out]; rfl, HBW.out.drew⟩
                            · obtain rfl : j = k := by omega
                              have HO : Hid (ok = true) := by show _ = _; rw [HOK.out, HFI.out (fun j' hj' => HNE.out j' hj' (by omega)), HNOB.out]; simp
                              go_wp2_with fail
                              go_roundw
                              case rel => exact ⟨j + 1, by omega, by go_num, by rw [HT2.out]; exact HO, HBW, HH1.out.below HBQ.out HH1.out.lt⟩
                              case measure => simp [intOf]; omega
                    · have HO : Hid (ok = false) := by show _ = _; rw [HOK.out, show kindF xb = false by simp [kindF]; omega]; simp
                      have hb2' : 4 < xb := by omega
                      go_wp2_with fail
                      go_ret
                      exact ⟨by rw [HY2.out, HFA.out HO.out]; rfl, HW⟩
                  · have HO : Hid (ok = false) := by show _ = _; rw [HOK.out, show kindF xb = false by simp [kindF]; omega]; simp
                    have hb1' : xb < 1 := by omega
                    go_wp2_with fail
                    go_ret
                    exact ⟨by rw [HY2.out, HFA.out HO.out]; rfl, HW⟩
              · obtain rfl : k = n := by omega
                have a0 := HH.out.cell 0
                have a1 := HH.out.cell 1
                simp at a0 a1
                go_wp2_with fail
                go_ret
                exact ⟨by rw [HY2.out, HT.out]; rfl, HB⟩
          · have HO := Lib.hid (HNO.out (by omega))
            clear HY HNO
            have h5' : (n : Int) < K := by omega
            go_enter Tryd.func31, Tryd.ntmps31
            go_wp2_with fail
            go_ret
            exact ⟨by rw [HO.out]; rfl, HB0⟩
        · have HO := Lib.hid (HNO.out (by omega))
          clear HY HNO
          have h4' : 4 < K := by omega
          go_enter Tryd.func31, Tryd.ntmps31
          go_wp2_with fail
          go_ret
          exact ⟨by rw [HO.out]; rfl, HB0⟩
      · have HO := Lib.hid (HNO.out (by omega))
        clear HY HNO
        have h3' : K < 1 := by omega
        go_enter Tryd.func31, Tryd.ntmps31
        go_wp2_with fail
        go_ret
        exact ⟨by rw [HO.out]; rfl, HB0⟩
    · have HO := Lib.hid (HNO.out (by omega))
      clear HY HNO
      have h2' : 16 < (n : Int) := by omega
      go_enter Tryd.func31, Tryd.ntmps31
      go_wp2_with fail
      go_ret
      exact ⟨by rw [HO.out]; rfl, HB0⟩
  · have HO := Lib.hid (HNO.out (by omega))
    clear HY HNO
    have h1' : (n : Int) < 1 := by omega
    go_enter Tryd.func31, Tryd.ntmps31
    go_wp2_with fail
    go_ret
    exact ⟨by rw [HO.out]; rfl, HB0⟩
end Go.Proofs.YtcdjeibcnkpadaaDoor
