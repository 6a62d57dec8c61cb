/-
  Which schemas may be: the program's May and the document's.
-/
import Derived.Test.YtiefogofiajmnaaDoorFind
namespace Go.Proofs.YtiefogofiajmnaaDoor
open Go.RowKit Dg
/-- May the column at place i of a schema be? -/
def colOk (L : List Cl) (K : Int) (i : Nat) : Bool := match L[i]? with
  | some c => nameF c.nm && (findI L c.nm == (i : Int)) && kindF c.k && !(c.no && decide ((i : Int) < K))
  | none => true
def colsTo (L : List Cl) (K : Int) (k : Nat) : Bool := (List.range k).all fun i => colOk L K i
theorem colsTo_succ (L : List Cl) (K : Int) (k : Nat) : colsTo L K (k + 1) = (colsTo L K k && colOk L K k) := by
  unfold colsTo; rw [List.range_succ, List.all_append]; simp
theorem colsTo_false (L : List Cl) (K : Int) (k n : Nat) (hk : k < n) (h : colOk L K k = false) : colsTo L K n = false := by
  unfold colsTo; rw [List.all_eq_false]
  exact ⟨k, List.mem_range.2 hk, by simp [h]⟩
theorem colOk_at (L : List Cl) (K : Int) (k : Nat) (h : k < L.length) : colOk L K k = (nameF L[k].nm && (findI L L[k].nm == (k : Int)) && kindF L[k].k && !(L[k].no && decide ((k : Int) < K))) := by
  unfold colOk; rw [List.getElem?_eq_getElem h]
def smayF (L : List Cl) (K : Int) : Bool := decide (1 ≤ L.length) && decide (L.length ≤ 16) && decide (1 ≤ K) && decide (K ≤ 4) && decide (K ≤ L.length) && colsTo L K L.length
theorem smayF_yes {L : List Cl} {K : Int} (h0 : 1 ≤ L.length) (h1 : L.length ≤ 16) (h2 : 1 ≤ K) (h3 : K ≤ 4) (h4 : K ≤ L.length) : smayF L K = colsTo L K L.length := by
  unfold smayF; simp [h0, h1, h2, h3, h4]
theorem smayF_no {L : List Cl} {K : Int} (h : ¬ (1 ≤ L.length ∧ L.length ≤ 16 ∧ 1 ≤ K ∧ K ≤ 4 ∧ K ≤ L.length)) : smayF L K = false := by
  cases e : smayF L K
  · rfl
  · unfold smayF at e; simp at e; omega
theorem findI_early {L : List Cl} {s : ByteArray} {j k : Nat} (hjk : j < k) (hk : k < L.length) (he : (L[j].nm.toList == s.toList) = true) : (findI L s == (k : Int)) = false := by
  have h : findN L s ≤ j := by
    by_cases hh : findN L s ≤ j
    · exact hh
    · have := List.not_of_lt_findIdx (p := fun c : Cl => c.nm.toList == s.toList) (xs := L) (i := j) (by unfold findN at hh; omega)
      rw [he] at this; cases this
  unfold findI
  split
  · simp; omega
  · simp
set_option maxHeartbeats 4000000 in
set_option maxRecDepth 100000 in
theorem smay_any (A : Option Addr) (L : List Cl) (n c : Nat) (K : Int) (w : World) (hn : L.length = n) (hl : n ≤ 1000) (hA : CRow w A L) (hf : ∀ x ∈ L, x.fit) :
    Calls Tryd.prog 29 #[.agg #[.slice A n c, .int .i64 K]] w fun e w' => e = .returned (.bool (smayF L K)) ∧ Hid (Below w.heap.size w w') := by
  have HN := Lib.hid hn
  have HA := Lib.hid hA
  have HF := Lib.hid hf
  have HB0 := Lib.hid ((Below.refl w.heap.size w).alloc (Nat.le_refl _) (.cells #[.slice A n c, .int .i64 K] 28))
  have HH0 := Lib.hid (Has.new w 28 #[.slice A n c, .int .i64 K])
  have HY := Lib.hid (@smayF_yes L K)
  have HNO := Lib.hid (@smayF_no L K)
  rw [hn] at HY HNO
  clear hn hA hf
  by_cases h1 : 1 ≤ n
  · by_cases h2 : n ≤ 16
    · by_cases h3 : 1 ≤ K
      · by_cases h4 : K ≤ 4
        · by_cases h5 : K ≤ n
          · have HY2 := Lib.hid (HY.out h1 h2 h3 h4 h5)
            clear HY HNO
            go_enter Tryd.func29, Tryd.ntmps29
            go_wp2_with fail
            go_loopw [34] (fun i wr => ∃ k : Nat, k ≤ n ∧ i = .int .i64 k ∧ Hid (colsTo L K k = true) ∧ Hid (Below w.heap.size w wr) ∧ Hid (Has wr w.heap.size 28 #[.slice A n c, .int .i64 K])) (fun i _ => n - (intOf i).toNat)
            case atStart => exact ⟨0, by omega, rfl, rfl, HB0.out, HH0.out⟩
            case round =>
              obtain ⟨k, hk, rfl, HT, HB, HH⟩ := hrel
              by_cases hlt : k < n
              · have hkl : k < L.length := by rw [HN.out]; exact hlt
                have HR := Lib.hid (HA.out.below HB.out)
                obtain ⟨b, off, rfl, hc⟩ := HR.out (by intro e; rw [e] at hkl; simp at hkl)
                obtain ⟨c0, c1, c2⟩ := hc k hkl
                have hfit := (HF.out L[k] (List.getElem_mem hkl)).1
                have HFA := Lib.hid (colsTo_false L K k n hlt)
                have HT2 : Hid (colsTo L K (k + 1) = colOk L K k) := by show _ = _; rw [colsTo_succ, HT.out, Bool.true_and]
                have HOK := Lib.hid (colOk_at L K k hkl)
                generalize L[k].nm = xa at *
                generalize L[k].k = xb at *
                generalize L[k].no = xc at *
                generalize colOk L K k = ok at *
                have HW : Hid (Below w.heap.size w (wr.alloc (.cells #[.string xa, .int .i64 xb, .bool xc] 38))) := HB.out.alloc HB.out.size _
                have HR1 : Hid (CRow (wr.alloc (.cells #[.string xa, .int .i64 xb, .bool xc] 38)) (some ⟨b, off, none⟩) L) := HR.out.below ((Below.refl _ wr).alloc (Nat.le_refl _) _)
                have HX : Hid (Has (wr.alloc (.cells #[.string xa, .int .i64 xb, .bool xc] 38)) wr.heap.size 38 #[.string xa, .int .i64 xb, .bool xc]) := Has.new _ _ _
                have HH1 : Hid (Has (wr.alloc (.cells #[.string xa, .int .i64 xb, .bool xc] 38)) w.heap.size 28 #[.slice (some ⟨b, off, none⟩) n c, .int .i64 K]) := HH.out.alloc _
                have a0 := HH.out.cell 0
                have a1 := HH.out.cell 1
                simp at a0 a1
                clear hc HR
                go_wp2_with fail
                refine (name_any xa _ hfit).mono ?_
                rintro e w1 ⟨rfl, hb1⟩
                have HB1 := Lib.hid (HW.out.trans (hb1.out.mono HW.out.size))
                have HX1 := Lib.hid (HX.out.below hb1.out HX.out.lt)
                have HH2 := Lib.hid (HH1.out.below hb1.out HH1.out.lt)
                have HR2 := Lib.hid (HR1.out.below hb1.out)
                clear hb1 HX HH1 HR1 HW c0 c1 c2 a0 a1
                have a0 := HH2.out.cell 0
                have a1 := HH2.out.cell 1
                have c0 := HX1.out.cell 0
                have c1 := HX1.out.cell 1
                have c2 := HX1.out.cell 2
                simp at a0 a1 c0 c1 c2
                generalize nameF xa = q1 at *
                cases q1
                · have HO : Hid (ok = false) := by show _ = _; rw [HOK.out]; simp
                  go_wp2_with fail
                  go_ret
                  exact ⟨by rw [HY2.out, HFA.out HO.out]; rfl, HB1⟩
                · go_wp2_with fail
                  refine (find_any (some ⟨b, off, none⟩) L n c K xa w1 HN.out hl HR2.out).mono ?_
                  rintro e w2 ⟨rfl, hb2⟩
                  have HB2 := Lib.hid (HB1.out.trans (hb2.out.mono HB1.out.size))
                  have HX2 := Lib.hid (HX1.out.below hb2.out HX1.out.lt)
                  have HH3 := Lib.hid (HH2.out.below hb2.out HH2.out.lt)
                  clear hb2 HX1 HH2 HR2 HB1 c0 c1 c2 a0 a1
                  have a0 := HH3.out.cell 0
                  have a1 := HH3.out.cell 1
                  have c0 := HX2.out.cell 0
                  have c1 := HX2.out.cell 1
                  have c2 := HX2.out.cell 2
                  simp at a0 a1 c0 c1 c2
                  generalize findI L xa = fi at *
                  by_cases hq : fi = (k : Int)
                  · subst hq
                    go_wp2_with fail
                    refine (ofColumn_any xb w2).mono ?_
                    rintro e w3 ⟨rfl, rfl⟩
                    generalize kindF xb = q3 at *
                    cases q3
                    · have HO : Hid (ok = false) := by show _ = _; rw [HOK.out]; simp
                      go_wp2_with fail
                      go_ret
                      exact ⟨by rw [HY2.out, HFA.out HO.out]; rfl, HB2⟩
                    · cases xc
                      · have HO : Hid (ok = true) := by show _ = _; rw [HOK.out]; simp
                        go_wp2_with fail
                        go_roundw
                        case rel => exact ⟨k + 1, by omega, by go_num, by rw [HT2.out]; exact HO, HB2, HH3⟩
                        case measure => simp [intOf]; omega
                      · by_cases hkk : (k : Int) < K
                        · have HO : Hid (ok = false) := by show _ = _; rw [HOK.out]; simp; omega
                          go_wp2_with fail
                          go_ret
                          exact ⟨by rw [HY2.out, HFA.out HO.out]; rfl, HB2⟩
                        · have HO : Hid (ok = true) := by show _ = _; rw [HOK.out]; simp; omega
                          go_wp2_with fail
                          go_roundw
                          case rel => exact ⟨k + 1, by omega, by go_num, by rw [HT2.out]; exact HO, HB2, HH3⟩
                          case measure => simp [intOf]; omega
                  · have HO : Hid (ok = false) := by show _ = _; rw [HOK.out]; simp [hq]
                    have hqb : (fi != (k : Int)) = true := by simp [hq]
                    go_wp2_with fail
                    go_ret
                    exact ⟨by rw [HY2.out, HFA.out HO.out]; rfl, HB2⟩
              · obtain rfl : k = n := by omega
                go_wp2_with fail
                go_ret
                exact ⟨by rw [HY2.out, HT.out]; rfl, HB⟩
          · have HO := Lib.hid (HNO.out (by omega))
            clear HY HNO
            have h5' : (n : Int) < K := by omega
            go_enter Tryd.func29, Tryd.ntmps29
            go_wp2_with fail
            go_ret
            exact ⟨by rw [HO.out]; rfl, HB0⟩
        · have HO := Lib.hid (HNO.out (by omega))
          clear HY HNO
          have h4' : 4 < K := by omega
          go_enter Tryd.func29, Tryd.ntmps29
          go_wp2_with fail
          go_ret
          exact ⟨by rw [HO.out]; rfl, HB0⟩
      · have HO := Lib.hid (HNO.out (by omega))
        clear HY HNO
        have h3' : K < 1 := by omega
        go_enter Tryd.func29, Tryd.ntmps29
        go_wp2_with fail
        go_ret
        exact ⟨by rw [HO.out]; rfl, HB0⟩
    · have HO := Lib.hid (HNO.out (by omega))
      clear HY HNO
      have h2' : 16 < (n : Int) := by omega
      go_enter Tryd.func29, Tryd.ntmps29
      go_wp2_with fail
      go_ret
      exact ⟨by rw [HO.out]; rfl, HB0⟩
  · have HO := Lib.hid (HNO.out (by omega))
    clear HY HNO
    have h1' : (n : Int) < 1 := by omega
    go_enter Tryd.func29, Tryd.ntmps29
    go_wp2_with fail
    go_ret
    exact ⟨by rw [HO.out]; rfl, HB0⟩
end Go.Proofs.YtiefogofiajmnaaDoor
