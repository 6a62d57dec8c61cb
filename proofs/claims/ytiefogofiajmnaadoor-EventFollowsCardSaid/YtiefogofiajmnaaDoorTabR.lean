/-
  Which tables may be: the document's Right.
-/
import Derived.Test.YtiefogofiajmnaaDoorTab
namespace Go.Proofs.YtiefogofiajmnaaDoor
open Go.RowKit Dg
set_option maxRecDepth 100000
/-- May the i-th of the tables stand where it stands? -/
def tokAt (T : List Tb) (i : Nat) : Bool := match T[i]? with
  | none => true
  | some x => nameF x.nm && smayF x.L x.K && (decide (i = 0) || match T[i - 1]? with | none => true | some y => Op.bytesLess y.nm.toList x.nm.toList)
def rightTo (T : List Tb) (k : Nat) : Bool := (List.range k).all (tokAt T)
/-- May tables be? -/
def rightF (T : List Tb) : Bool := rightTo T T.length && decide (T.length ≤ 64)
theorem rightTo_succ (T : List Tb) (k : Nat) : rightTo T (k + 1) = (rightTo T k && tokAt T k) := by
  unfold rightTo; rw [List.range_succ, List.all_append]; simp
theorem rightTo_false (T : List Tb) (k n : Nat) (hk : k < n) (h : tokAt T k = false) : rightTo T n = false := by
  unfold rightTo; rw [List.all_eq_false]
  exact ⟨k, List.mem_range.2 hk, by simp [h]⟩
theorem tokAt_first (T : List Tb) (h : 0 < T.length) : tokAt T 0 = (nameF T[0].nm && smayF T[0].L T[0].K) := by
  unfold tokAt; rw [List.getElem?_eq_getElem h]; simp
theorem tokAt_next (T : List Tb) (k : Nat) (h : k < T.length) (h0 : 0 < k) : tokAt T k = (nameF T[k].nm && smayF T[k].L T[k].K && Op.bytesLess (T[k - 1]'(by omega)).nm.toList T[k].nm.toList) := by
  unfold tokAt; rw [List.getElem?_eq_getElem h, List.getElem?_eq_getElem (show k - 1 < T.length by omega)]
  simp only [decide_eq_false (show ¬ k = 0 by omega), Bool.false_or]
set_option maxHeartbeats 1000000 in
/-- The document's May of a schema, of however many columns. -/
theorem rmay_all (A : Option Addr) (L : List Cl) (n c : Nat) (K : Int) (w : World) (hn : L.length = n) (hA : CRow w A L) :
    Calls Tryd.prog 30 #[.agg #[.slice A n c, .int .i64 K]] w fun e w' => e = .returned (.bool (smayF L K)) ∧ Hid (Below w.heap.size w w') := by
  by_cases hl : n ≤ 1000
  · exact rmay_any A L n c K w hn hl hA
  · have HB0 := Lib.hid ((Below.refl w.heap.size w).alloc (Nat.le_refl _) (.cells #[.slice A n c, .int .i64 K] 28))
    have HNO := Lib.hid (@smayF_no L K (by omega))
    have h1 : ¬ ((n : Int) < 1) := by omega
    have h2 : 16 < (n : Int) := by omega
    clear hn hA hl
    go_enter Tryd.func30, Tryd.ntmps30
    go_wp2_with fail
    go_ret
    exact ⟨by rw [HNO.out]; rfl, HB0⟩
set_option maxHeartbeats 4000000 in
theorem rright_any (A : Option Addr) (T : List Tb) (n c : Nat) (w : World) (hn : T.length = n) (hl : n ≤ 1000) (hA : TRow w A T) (hI : TIn w T) :
    Calls Tryd.prog 14 #[.slice A n c] w fun e w' => e = .returned (.bool (rightF T)) ∧ Hid (Below w.heap.size w w') := by
  have HN := Lib.hid hn
  have HA := Lib.hid hA
  have HI := Lib.hid hI
  have HRF : Hid (rightF T = (rightTo T n && decide (n ≤ 64))) := by show _ = _; unfold rightF; rw [HN.out]
  obtain ⟨RF, hRF⟩ : ∃ x, rightF T = x := ⟨_, rfl⟩
  rw [hRF] at HRF ⊢
  clear hn hA hI hRF
  go_enter Tryd.func14, Tryd.ntmps14
  go_wp2_with fail
  go_loopw [3] (fun i wr => ∃ k : Nat, k ≤ n ∧ i = .int .i64 k ∧ Hid (rightTo T k = true) ∧ Hid (Below w.heap.size w wr)) (fun i _ => n - (intOf i).toNat)
  case atStart => exact ⟨0, by omega, rfl, rfl, Below.refl _ _⟩
  case round =>
    obtain ⟨k, hk, rfl, HT, HB⟩ := hrel
    by_cases hlt : k < n
    · have hkl : k < T.length := by rw [HN.out]; exact hlt
      have HOK := Lib.hid (rightTo_succ T k)
      have HNO := Lib.hid (rightTo_false T k n hlt)
      obtain ⟨b, off, rfl, hc⟩ := (HA.out.below HB.out) (by intro e; rw [e] at hkl; simp at hkl)
      obtain ⟨c0, c1, c2⟩ := hc k hkl
      have hkz : (k : Int) < (n : Int) := by omega
      have hx := HI.out T[k] (List.getElem_mem hkl)
      have hpv : ∀ (h : 0 < k), ∃ s0 : ByteArray, tokAt T k = (nameF T[k].nm && smayF T[k].L T[k].K && Op.bytesLess s0.toList T[k].nm.toList) ∧ wr.cell? ⟨b, off + (k - 1) * 3, none⟩ = some (.string s0) := fun h => ⟨_, tokAt_next T k hkl h, (hc (k - 1) (by omega)).1⟩
      have hfi : k = 0 → tokAt T k = (nameF T[k].nm && smayF T[k].L T[k].K) := fun h => by subst h; exact tokAt_first T hkl
      clear hc
      generalize tokAt T k = tok at *
      generalize T[k] = x at *
      obtain ⟨s, tA, tn, tc, tL, tK⟩ := x
      simp only at c0 c1 c2 hx hpv hfi
      have HM := Lib.hid (rmay_all tA tL tn tc tK wr hx.1 (hx.2.2.2.below HB.out))
      have HPV := Lib.hid hpv
      have HFI := Lib.hid hfi
      clear hx hpv hfi
      generalize smayF tL tK = qm at *
      go_wp2_with fail
      refine (refName_any s _).mono ?_
      rintro e w1 ⟨rfl, rfl⟩
      generalize nameF s = qn at *
      go_wp2_with fail
      refine HM.out.mono ?_
      rintro e w3 ⟨rfl, hb3⟩
      have HB3 := Lib.hid (HB.out.trans (hb3.out.mono HB.out.size))
      have d0 : w3.cell? ⟨b, off + k * 3, none⟩ = some (.string s) := (hb3.out.cell (World.block_lt_of_cell? _ _ c0)).trans c0
      by_cases hk0 : 0 < k
      · have hkz0 : (0 : Int) < (k : Int) := by omega
        obtain ⟨s0, htk, hc3⟩ := HPV.out hk0
        have e0 : w3.cell? ⟨b, off + (k - 1) * 3, none⟩ = some (.string s0) := (hb3.out.cell (World.block_lt_of_cell? _ _ hc3)).trans hc3
        obtain ⟨ql, hql⟩ : ∃ q, Op.bytesLess s0.toList s.toList = q := ⟨_, rfl⟩
        rw [hql] at htk
        have HTK := Lib.hid htk
        clear HPV HFI c0 c1 c2 hc3 hb3 HM htk
        cases qn <;> cases qm <;> cases ql
        all_goals
          have HTV := Lib.hid (HTK.out.trans (by rfl))
          go_wp2_with fail
          go_region
          all_goals
            go_wp2_with fail
            first
              | (go_ret
                 have hf := HNO.out HTV.out
                 exact ⟨by rw [HRF.out, hf]; rfl, HB3.out.drew⟩)
              | (go_roundw
                 case rel => exact ⟨k + 1, by omega, by go_num, by show _ = _; rw [HOK.out, HT.out, HTV.out]; rfl, HB3.out.drew⟩
                 case measure => simp [intOf]; omega)
      · have hkz0 : ¬ ((0 : Int) < (k : Int)) := by omega
        have HTK := Lib.hid (HFI.out (by omega))
        clear HPV HFI c0 c1 c2 hb3 HM
        cases qn <;> cases qm
        all_goals
          have HTV := Lib.hid (HTK.out.trans (by rfl))
          go_wp2_with fail
          go_region
          all_goals
            go_wp2_with fail
            first
              | (go_ret
                 have hf := HNO.out HTV.out
                 exact ⟨by rw [HRF.out, hf]; rfl, HB3.out.drew⟩)
              | (go_roundw
                 case rel => exact ⟨k + 1, by omega, by go_num, by show _ = _; rw [HOK.out, HT.out, HTV.out]; rfl, HB3.out.drew⟩
                 case measure => simp [intOf]; omega)
    · obtain rfl : k = n := by omega
      by_cases h64 : k ≤ 64
      · have h1 : (k : Int) ≤ 64 := by omega
        go_wp2_with fail
        go_ret
        exact ⟨by rw [HRF.out, HT.out, decide_eq_true h64]; simp, HB⟩
      · have h1 : ¬ ((k : Int) ≤ 64) := by omega
        go_wp2_with fail
        go_ret
        exact ⟨by rw [HRF.out, HT.out, decide_eq_false h64]; simp, HB⟩
end Go.Proofs.YtiefogofiajmnaaDoor
