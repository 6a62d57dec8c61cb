/-
  The place of a table's work among works in order: the program's search.
-/
import Derived.Test.YtjkmbggaoinkdaaDoorWk
import Derived.Test.YtjkmbggaoinkdaaDoorLs
namespace Go.Proofs.YtjkmbggaoinkdaaDoor
open Go.RowKit Dg
set_option maxRecDepth 100000
/-- The place of the first work of that table. -/
def watN (T : List Wk) (s : ByteArray) : Nat := T.findIdx fun x => x.t.toList == s.toList
def watI (T : List Wk) (s : ByteArray) : Int := if watN T s < T.length then (watN T s : Int) else -1
theorem watN_at {T : List Wk} {s : ByteArray} {k : Nat} (h : k < T.length) (he : (T[k].t.toList == s.toList) = true) (hb : ∀ j (hj : j < k), (T[j].t.toList == s.toList) = false) : watN T s = k := by
  unfold watN
  rw [List.findIdx_eq h]
  exact ⟨he, fun j hj => hb j hj⟩
theorem watI_at {T : List Wk} {s : ByteArray} {k : Nat} (h : k < T.length) (he : (T[k].t.toList == s.toList) = true) (hb : ∀ j (hj : j < k), (T[j].t.toList == s.toList) = false) : watI T s = k := by
  unfold watI; rw [watN_at h he hb, if_pos h]
theorem watI_none {T : List Wk} {s : ByteArray} (hb : ∀ j (hj : j < T.length), (T[j].t.toList == s.toList) = false) : watI T s = -1 := by
  unfold watI
  rw [if_neg]
  unfold watN
  have : T.findIdx (fun x => x.t.toList == s.toList) = T.length := List.findIdx_eq_length.2 fun x hx => by
    obtain ⟨j, hj, rfl⟩ := List.getElem_of_mem hx
    exact hb j hj
  omega
/-- Tables in order. -/
def SortW (T : List Wk) : Prop := ∀ i j (hij : i < j) (hj : j < T.length), Op.bytesLess T[i].t.toList T[j].t.toList = true
/-- Where a table of that name would stand. -/
def lbW (T : List Wk) (s : ByteArray) : Nat := T.findIdx fun x => !Op.bytesLess x.t.toList s.toList
/-- Does one of that name stand there? -/
def plW (T : List Wk) (s : ByteArray) : Bool := match T[lbW T s]? with | some x => x.t.toList == s.toList | none => false
theorem lw_le (T : List Wk) (s : ByteArray) : lbW T s ≤ T.length := List.findIdx_le_length
theorem lw_lo {T : List Wk} {s : ByteArray} {t : Nat} (h : t < lbW T s) (ht : t < T.length) : Op.bytesLess T[t].t.toList s.toList = true := by
  have := List.not_of_lt_findIdx h
  simpa using this
theorem lw_hi {T : List Wk} {s : ByteArray} (hS : SortW T) {t : Nat} (h : lbW T s ≤ t) (ht : t < T.length) : Op.bytesLess T[t].t.toList s.toList = false := by
  have hk : lbW T s < T.length := by omega
  have h0 : (!Op.bytesLess (T[lbW T s]'hk).t.toList s.toList) = true := List.findIdx_getElem (w := hk)
  rw [Bool.not_eq_true'] at h0
  rcases Nat.lt_or_eq_of_le h with h1 | h1
  · cases h2 : Op.bytesLess T[t].t.toList s.toList
    · rfl
    · have := less_trans _ _ _ (hS _ _ h1 ht) h2
      rw [h0] at this; cases this
  · subst h1; exact h0
theorem lw_is {T : List Wk} {s : ByteArray} {k : Nat} (hk : k ≤ T.length) (h1 : ∀ t (ht : t < k), Op.bytesLess (T[t]'(by omega)).t.toList s.toList = true) (h2 : ∀ t (_ : k ≤ t) (ht : t < T.length), Op.bytesLess T[t].t.toList s.toList = false) : lbW T s = k := by
  rcases Nat.lt_trichotomy (lbW T s) k with h | h | h
  · have hl : lbW T s < T.length := by omega
    have h0 : (!Op.bytesLess (T[lbW T s]'hl).t.toList s.toList) = true := List.findIdx_getElem (w := hl)
    rw [h1 _ h] at h0; cases h0
  · exact h
  · have hl := lw_le T s
    have := lw_lo h (by omega)
    rw [h2 k (Nat.le_refl _) (by omega)] at this; cases this
theorem plW_at {T : List Wk} {s : ByteArray} (h : lbW T s < T.length) : plW T s = ((T[lbW T s]'h).t.toList == s.toList) := by
  unfold plW; rw [List.getElem?_eq_getElem h]
theorem plW_out {T : List Wk} {s : ByteArray} (h : ¬ lbW T s < T.length) : plW T s = false := by
  unfold plW; rw [List.getElem?_eq_none (by omega)]
theorem plW_tat {T : List Wk} {s : ByteArray} (h : plW T s = true) : lbW T s < T.length ∧ watN T s = lbW T s := by
  by_cases hl : lbW T s < T.length
  · rw [plW_at hl] at h
    refine ⟨hl, watN_at hl h fun j hj => ?_⟩
    rw [beq_eq_false_iff_ne]
    intro e
    have h1 := lw_lo hj (by omega)
    rw [e, less_irrefl] at h1; cases h1
  · rw [plW_out hl] at h; cases h
theorem plW_tat' {T : List Wk} {s : ByteArray} (hS : SortW T) (h : plW T s = false) : ¬ watN T s < T.length := by
  intro hl
  have he : (T[watN T s].t.toList == s.toList) = true := List.findIdx_getElem (w := hl)
  have hn : lbW T s = watN T s := lw_is (Nat.le_of_lt hl) (fun t ht => by rw [← eq_of_beq he]; exact hS _ _ ht hl) (fun t h1 ht => by
    rw [← eq_of_beq he]
    rcases Nat.lt_or_eq_of_le h1 with h2 | h2
    · exact less_asymm _ _ (hS _ _ h2 ht)
    · subst h2; exact less_irrefl _)
  rw [plW_at (by rw [hn]; exact hl)] at h
  simp only [hn] at h
  rw [he] at h; cases h
set_option maxHeartbeats 1000000 in
theorem wplOne_any (nm : ByteArray) (d : Bool) (ky : ByteArray) (s : ByteArray) (w : World) :
    Calls Tryd.prog 115 #[.agg #[.string nm, .bool d, .string ky], .string s] w fun e w' => e = .returned (.int .i64 (cmpS nm s)) ∧ Hid (Below w.heap.size w w') := by
  have HB := Lib.hid ((Below.refl w.heap.size w).alloc (Nat.le_refl _) (.cells #[.string nm, .bool d, .string ky] 75))
  go_enter Tryd.func115, Tryd.ntmps115
  go_wp2_with fail
  refine (cmpS_any nm s _).mono ?_
  rintro e w1 ⟨rfl, rfl⟩
  go_wp2_with fail
  go_ret
  exact ⟨rfl, HB⟩
set_option maxHeartbeats 4000000 in
theorem wbsf_any (A : Option Addr) (T : List Wk) (n c : Nat) (s : ByteArray) (w : World) (hn : T.length = n) (hl : n ≤ 1000) (hA : WRow w A T) (hS : SortW T) :
    Calls Tryd.prog 114 #[.slice A n c, .string s, .func (.func 115) #[] #[]] w fun e w' => e = .returned (.tuple #[.int .i64 (lbW T s : Nat), .bool (plW T s)]) ∧ Hid (Below w.heap.size w w') := by
  have HN := Lib.hid hn
  have HA := Lib.hid hA
  have HS := Lib.hid hS
  clear hn hA hS
  go_enter Tryd.func114, Tryd.ntmps114
  go_wp2_with fail
  go_loopw [9, 10] (fun i j wr => ∃ lo hi : Nat, i = .int .i64 lo ∧ j = .int .i64 hi ∧ lo ≤ hi ∧ hi ≤ n ∧ Hid (∀ t (_ : t < lo) (ht : t < T.length), Op.bytesLess T[t].t.toList s.toList = true) ∧ Hid (∀ t (_ : hi ≤ t) (ht : t < T.length), Op.bytesLess T[t].t.toList s.toList = false) ∧ Hid (Below w.heap.size w wr)) (fun i j _ => (intOf j).toNat - (intOf i).toNat)
  case atStart => exact ⟨0, n, rfl, rfl, by omega, by omega, (fun t ht => absurd ht (by omega)), (fun t h1 h2 => absurd h2 (by rw [HN.out]; omega)), Below.refl _ _⟩
  case round =>
    obtain ⟨lo, hi, rfl, rfl, hlh, hin, HL, HH, HB⟩ := hrel
    by_cases hlt : lo < hi
    · have hkl : (lo + hi) / 2 < T.length := by rw [HN.out]; omega
      obtain ⟨b, off, rfl, hc⟩ := (HA.out.below HB.out) (by intro e; rw [e] at hkl; simp at hkl)
      obtain ⟨c0, c1, c2⟩ := hc _ hkl
      have hm1 : (lo + hi) / 2 < n := by omega
      have HC := Lib.hid (wplOne_any T[(lo + hi) / 2].t T[(lo + hi) / 2].d T[(lo + hi) / 2].k s wr)
      have HX1 : Hid (Op.bytesLess T[(lo + hi) / 2].t.toList s.toList = true → ∀ t (_ : t < (lo + hi) / 2 + 1) (ht : t < T.length), Op.bytesLess T[t].t.toList s.toList = true) := fun he t h1 ht => by
        rcases Nat.lt_or_eq_of_le (Nat.le_of_lt_succ h1) with h2 | h2
        · exact less_trans _ _ _ (HS.out _ _ h2 hkl) he
        · subst h2; exact he
      have HX2 : Hid (Op.bytesLess T[(lo + hi) / 2].t.toList s.toList = false → ∀ t (_ : (lo + hi) / 2 ≤ t) (ht : t < T.length), Op.bytesLess T[t].t.toList s.toList = false) := fun he t h1 ht => by
        rcases Nat.lt_or_eq_of_le h1 with h2 | h2
        · cases h3 : Op.bytesLess T[t].t.toList s.toList
          · rfl
          · rw [less_trans _ _ _ (HS.out _ _ h2 ht) h3] at he; cases he
        · subst h2; exact he
      have HQ := Lib.hid (cmpS_neg T[(lo + hi) / 2].t s)
      clear hc
      generalize T[(lo + hi) / 2] = x at *
      obtain ⟨xs, xd, xk⟩ := x
      simp only at c0 c1 c2 HC HX1 HX2 HQ
      generalize cmpS xs s = q at *
      by_cases hq : q < 0
      · go_wp2_with fail
        go_at_call 115
        refine HC.out.mono ?_
        rintro e w1 ⟨rfl, hb1⟩
        have HB1 := Lib.hid (HB.out.trans (hb1.out.mono HB.out.size))
        clear hb1 c0 c1 c2
        go_wp2_with fail
        go_roundw
        case rel => exact ⟨(lo + hi) / 2 + 1, hi, by go_num, rfl, by omega, by omega, HX1.out (HQ.out.1 hq), HH, HB1⟩
        case measure => simp [intOf]; omega
      · go_wp2_with fail
        go_at_call 115
        refine HC.out.mono ?_
        rintro e w1 ⟨rfl, hb1⟩
        have HB1 := Lib.hid (HB.out.trans (hb1.out.mono HB.out.size))
        clear hb1 c0 c1 c2
        go_wp2_with fail
        go_roundw
        case rel => exact ⟨lo, (lo + hi) / 2, rfl, by go_num, by omega, by omega, HL, HX2.out (by rw [← Bool.not_eq_true]; exact fun h => by have := HQ.out.2 h; omega), HB1⟩
        case measure => simp [intOf]; omega
    · obtain rfl : hi = lo := by omega
      have HLB := Lib.hid (lw_is (T := T) (s := s) (k := hi) (by rw [HN.out]; omega) (fun t ht => HL.out t ht _) (fun t h1 ht => HH.out t h1 ht))
      by_cases hn2 : hi < n
      · have hkl : hi < T.length := by rw [HN.out]; omega
        obtain ⟨b, off, rfl, hc⟩ := (HA.out.below HB.out) (by intro e; rw [e] at hkl; simp at hkl)
        obtain ⟨c0, c1, c2⟩ := hc _ hkl
        have HC := Lib.hid (wplOne_any T[hi].t T[hi].d T[hi].k s wr)
        have HQ := Lib.hid (cmpS_zero T[hi].t s)
        have HP := plW_at (T := T) (s := s) (by rw [HLB.out]; exact hkl)
        simp only [HLB.out] at HP
        have HP := Lib.hid HP
        clear hc
        generalize T[hi] = x at *
        obtain ⟨xs, xd, xk⟩ := x
        simp only at c0 c1 c2 HC HQ HP
        generalize cmpS xs s = q at *
        by_cases hq : q = 0
        · have HP2 : Hid (plW T s = true) := HP.out.trans (HQ.out.1 hq)
          go_wp2_with fail
          go_at_call 115
          refine HC.out.mono ?_
          rintro e w1 ⟨rfl, hb1⟩
          have HB1 := Lib.hid (HB.out.trans (hb1.out.mono HB.out.size))
          clear hb1 c0 c1 c2
          go_wp2_with fail
          go_ret2
          exact ⟨by rw [HLB.out, HP2.out]; try rfl, HB1⟩
        · have HP2 : Hid (plW T s = false) := HP.out.trans (by rw [← Bool.not_eq_true]; exact fun h => by have := HQ.out.2 h; omega)
          go_wp2_with fail
          go_at_call 115
          refine HC.out.mono ?_
          rintro e w1 ⟨rfl, hb1⟩
          have HB1 := Lib.hid (HB.out.trans (hb1.out.mono HB.out.size))
          clear hb1 c0 c1 c2
          go_wp2_with fail
          go_ret2
          have hqb : (q == 0) = false := by simp [hq]
          exact ⟨by rw [HLB.out, HP2.out]; show Ending.returned (.tuple #[.int .i64 (hi : Int), .bool (q == 0)]) = _; rw [hqb], HB1⟩
      · have HP2 := Lib.hid (plW_out (T := T) (s := s) (by rw [HLB.out, HN.out]; exact hn2))
        go_wp2_with fail
        go_ret2
        exact ⟨by rw [HLB.out, HP2.out]; try rfl, HB⟩
set_option maxHeartbeats 1000000 in
theorem wplace_any (A : Option Addr) (T : List Wk) (n c : Nat) (s : ByteArray) (w : World) (hn : T.length = n) (hl : n ≤ 1000) (hA : WRow w A T) (hS : SortW T) :
    Calls Tryd.prog 89 #[.slice A n c, .string s] w fun e w' => e = .returned (.tuple #[.int .i64 (lbW T s : Nat), .bool (plW T s)]) ∧ Hid (Below w.heap.size w w') := by
  have HC := fun W (hW : Hid (W = w)) => (wbsf_any A T n c s W hn hl (by rw [hW.out]; exact hA) hS)
  have HC := Lib.hid HC
  clear hn hA hS
  go_enter Tryd.func89, Tryd.ntmps89
  go_wp2_with fail
  refine (HC.out _ rfl).mono ?_
  rintro e w1 ⟨rfl, HB⟩
  go_wp2_with fail
  go_ret2
  exact ⟨rfl, HB⟩
end Go.Proofs.YtjkmbggaoinkdaaDoor
