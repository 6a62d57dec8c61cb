/-
  The place of a table's name among tables in order: the program's search.
-/
import Derived.Test.YtiefogofiajmnaaDoorTabP
namespace Go.Proofs.YtiefogofiajmnaaDoor
open Go.RowKit Dg
set_option maxRecDepth 100000
/-- The order of texts. -/
def cmpS (x y : ByteArray) : Int := if Op.bytesLess x.toList y.toList then -1 else if Op.bytesLess y.toList x.toList then 1 else 0
set_option maxHeartbeats 400000 in
theorem nan_any (x : ByteArray) (w : World) : Calls Tryd.prog 78 #[.string x] w fun e w' => e = .returned (.bool false) ∧ w = w' := by
  go_enter Tryd.func78, Tryd.ntmps78
  go_wp2_with fail
  go_ret
  exact ⟨rfl, rfl⟩
set_option maxHeartbeats 400000 in
theorem cmpS_any (x y : ByteArray) (w : World) : Calls Tryd.prog 56 #[.string x, .string y] w fun e w' => e = .returned (.int .i64 (cmpS x y)) ∧ w = w' := by
  have HN := Lib.hid nan_any
  cases h : Op.bytesLess x.toList y.toList
  · cases h2 : Op.bytesLess y.toList x.toList
    · have hq : (x.toList == y.toList) = true := by rw [less_total _ _ h h2]; simp
      go_enter Tryd.func56, Tryd.ntmps56
      go_wp2_with fail
      refine (HN.out _ _).mono ?_
      rintro e w1 ⟨rfl, rfl⟩
      go_wp2_with fail
      refine (HN.out _ _).mono ?_
      rintro e w1 ⟨rfl, rfl⟩
      go_wp2_with fail
      go_ret
      exact ⟨by simp [cmpS, h, h2], rfl⟩
    · have hq : (x.toList == y.toList) = false := by
        rw [beq_eq_false_iff_ne]
        intro e
        rw [e, less_irrefl] at h2
        cases h2
      go_enter Tryd.func56, Tryd.ntmps56
      go_wp2_with fail
      refine (HN.out _ _).mono ?_
      rintro e w1 ⟨rfl, rfl⟩
      go_wp2_with fail
      refine (HN.out _ _).mono ?_
      rintro e w1 ⟨rfl, rfl⟩
      go_wp2_with fail
      go_ret
      exact ⟨by simp [cmpS, h, h2], rfl⟩
  · go_enter Tryd.func56, Tryd.ntmps56
    go_wp2_with fail
    refine (HN.out _ _).mono ?_
    rintro e w1 ⟨rfl, rfl⟩
    go_wp2_with fail
    refine (HN.out _ _).mono ?_
    rintro e w1 ⟨rfl, rfl⟩
    go_wp2_with fail
    go_ret
    exact ⟨by simp [cmpS, h], rfl⟩
theorem cmpS_neg (x y : ByteArray) : cmpS x y < 0 ↔ Op.bytesLess x.toList y.toList = true := by
  unfold cmpS
  cases Op.bytesLess x.toList y.toList
  · cases Op.bytesLess y.toList x.toList <;> simp
  · simp
theorem cmpS_zero (x y : ByteArray) : cmpS x y = 0 ↔ (x.toList == y.toList) = true := by
  unfold cmpS
  rw [beq_iff_eq]
  cases h : Op.bytesLess x.toList y.toList
  · cases h2 : Op.bytesLess y.toList x.toList
    · simp [less_total _ _ h h2]
    · simp; intro e; rw [e, less_irrefl] at h2; cases h2
  · simp; intro e; rw [e, less_irrefl] at h; cases h
theorem less_trans : ∀ x y z : List UInt8, Op.bytesLess x y = true → Op.bytesLess y z = true → Op.bytesLess x z = true
  | [], [], _, h, _ => by simp [Op.bytesLess] at h
  | [], _ :: _, [], _, h => by simp [Op.bytesLess] at h
  | [], _ :: _, _ :: _, _, _ => rfl
  | _ :: _, [], _, h, _ => by simp [Op.bytesLess] at h
  | _ :: _, _ :: _, [], _, h => by simp [Op.bytesLess] at h
  | a :: x, b :: y, c :: z, h, h' => by
    simp only [Op.bytesLess, Bool.or_eq_true, decide_eq_true_eq, Bool.and_eq_true, beq_iff_eq, UInt8.lt_iff_toNat_lt] at h h' ⊢
    rcases h with h | ⟨h, h1⟩
    · rcases h' with h' | ⟨h', h2⟩
      · exact .inl (by omega)
      · subst h'; exact .inl h
    · subst h
      rcases h' with h' | ⟨h', h2⟩
      · exact .inl h'
      · exact .inr ⟨h', less_trans x y z h1 h2⟩
/-- Tables in order. -/
def SortT (T : List Tb) : Prop := ∀ i j (hij : i < j) (hj : j < T.length), Op.bytesLess T[i].nm.toList T[j].nm.toList = true
/-- Where a table of that name would stand. -/
def lbN (T : List Tb) (s : ByteArray) : Nat := T.findIdx fun x => !Op.bytesLess x.nm.toList s.toList
/-- Does one of that name stand there? -/
def plF (T : List Tb) (s : ByteArray) : Bool := match T[lbN T s]? with | some x => x.nm.toList == s.toList | none => false
theorem lb_le (T : List Tb) (s : ByteArray) : lbN T s ≤ T.length := List.findIdx_le_length
theorem lb_lo {T : List Tb} {s : ByteArray} {t : Nat} (h : t < lbN T s) (ht : t < T.length) : Op.bytesLess T[t].nm.toList s.toList = true := by
  have := List.not_of_lt_findIdx h
  simpa using this
theorem lb_hi {T : List Tb} {s : ByteArray} (hS : SortT T) {t : Nat} (h : lbN T s ≤ t) (ht : t < T.length) : Op.bytesLess T[t].nm.toList s.toList = false := by
  have hk : lbN T s < T.length := by omega
  have h0 : (!Op.bytesLess (T[lbN T s]'hk).nm.toList s.toList) = true := List.findIdx_getElem (w := hk)
  rw [Bool.not_eq_true'] at h0
  rcases Nat.lt_or_eq_of_le h with h1 | h1
  · cases h2 : Op.bytesLess T[t].nm.toList s.toList
    · rfl
    · have := less_trans _ _ _ (hS _ _ h1 ht) h2
      rw [h0] at this; cases this
  · subst h1; exact h0
theorem lb_is {T : List Tb} {s : ByteArray} {k : Nat} (hk : k ≤ T.length) (h1 : ∀ t (ht : t < k), Op.bytesLess (T[t]'(by omega)).nm.toList s.toList = true) (h2 : ∀ t (_ : k ≤ t) (ht : t < T.length), Op.bytesLess T[t].nm.toList s.toList = false) : lbN T s = k := by
  rcases Nat.lt_trichotomy (lbN T s) k with h | h | h
  · have hl : lbN T s < T.length := by omega
    have h0 : (!Op.bytesLess (T[lbN T s]'hl).nm.toList s.toList) = true := List.findIdx_getElem (w := hl)
    rw [h1 _ h] at h0; cases h0
  · exact h
  · have hl := lb_le T s
    have := lb_lo h (by omega)
    rw [h2 k (Nat.le_refl _) (by omega)] at this; cases this
theorem plF_at {T : List Tb} {s : ByteArray} (h : lbN T s < T.length) : plF T s = ((T[lbN T s]'h).nm.toList == s.toList) := by
  unfold plF; rw [List.getElem?_eq_getElem h]
theorem plF_out {T : List Tb} {s : ByteArray} (h : ¬ lbN T s < T.length) : plF T s = false := by
  unfold plF; rw [List.getElem?_eq_none (by omega)]
theorem plF_tat {T : List Tb} {s : ByteArray} (h : plF T s = true) : lbN T s < T.length ∧ tatN T s = lbN T s := by
  by_cases hl : lbN T s < T.length
  · rw [plF_at hl] at h
    refine ⟨hl, tatN_at hl h fun j hj => ?_⟩
    rw [beq_eq_false_iff_ne]
    intro e
    have h1 := lb_lo hj (by omega)
    rw [e, less_irrefl] at h1; cases h1
  · rw [plF_out hl] at h; cases h
theorem plF_tat' {T : List Tb} {s : ByteArray} (hS : SortT T) (h : plF T s = false) : ¬ tatN T s < T.length := by
  intro hl
  have he : (T[tatN T s].nm.toList == s.toList) = true := List.findIdx_getElem (w := hl)
  have hn : lbN T s = tatN T s := lb_is (Nat.le_of_lt hl) (fun t ht => by rw [← eq_of_beq he]; exact hS _ _ ht hl) (fun t h1 ht => by
    rw [← eq_of_beq he]
    rcases Nat.lt_or_eq_of_le h1 with h2 | h2
    · exact less_asymm _ _ (hS _ _ h2 ht)
    · subst h2; exact less_irrefl _)
  rw [plF_at (by rw [hn]; exact hl)] at h
  simp only [hn] at h
  rw [he] at h; cases h
set_option maxHeartbeats 1000000 in
theorem plOne_any (nm : ByteArray) (A : Option Addr) (n c : Nat) (K : Int) (s : ByteArray) (w : World) :
    Calls Tryd.prog 55 #[.agg #[.string nm, .slice A n c, .int .i64 K], .string s] w fun e w' => e = .returned (.int .i64 (cmpS nm s)) ∧ Hid (Below w.heap.size w w') := by
  have HB := Lib.hid ((Below.refl w.heap.size w).alloc (Nat.le_refl _) (.cells #[.string nm, .slice A n c, .int .i64 K] 30))
  go_enter Tryd.func55, Tryd.ntmps55
  go_wp2_with fail
  refine (cmpS_any nm s _).mono ?_
  rintro e w1 ⟨rfl, rfl⟩
  go_wp2_with fail
  go_ret
  exact ⟨rfl, HB⟩
set_option maxHeartbeats 4000000 in
theorem bsf_any (A : Option Addr) (T : List Tb) (n c : Nat) (s : ByteArray) (w : World) (hn : T.length = n) (hl : n ≤ 1000) (hA : TRow w A T) (hS : SortT T) :
    Calls Tryd.prog 54 #[.slice A n c, .string s, .func (.func 55) #[] #[]] w fun e w' => e = .returned (.tuple #[.int .i64 (lbN T s : Nat), .bool (plF T s)]) ∧ Hid (Below w.heap.size w w') := by
  have HN := Lib.hid hn
  have HA := Lib.hid hA
  have HS := Lib.hid hS
  clear hn hA hS
  go_enter Tryd.func54, Tryd.ntmps54
  go_wp2_with fail
  go_loopw [9, 10] (fun i j wr => ∃ lo hi : Nat, i = .int .i64 lo ∧ j = .int .i64 hi ∧ lo ≤ hi ∧ hi ≤ n ∧ Hid (∀ t (_ : t < lo) (ht : t < T.length), Op.bytesLess T[t].nm.toList s.toList = true) ∧ Hid (∀ t (_ : hi ≤ t) (ht : t < T.length), Op.bytesLess T[t].nm.toList s.toList = false) ∧ Hid (Below w.heap.size w wr)) (fun i j _ => (intOf j).toNat - (intOf i).toNat)
  case atStart => exact ⟨0, n, rfl, rfl, by omega, by omega, (fun t ht => absurd ht (by omega)), (fun t h1 h2 => absurd h2 (by rw [HN.out]; omega)), Below.refl _ _⟩
  case round =>
    obtain ⟨lo, hi, rfl, rfl, hlh, hin, HL, HH, HB⟩ := hrel
    by_cases hlt : lo < hi
    · have hkl : (lo + hi) / 2 < T.length := by rw [HN.out]; omega
      obtain ⟨b, off, rfl, hc⟩ := (HA.out.below HB.out) (by intro e; rw [e] at hkl; simp at hkl)
      obtain ⟨c0, c1, c2⟩ := hc _ hkl
      have hm1 : (lo + hi) / 2 < n := by omega
      have HC := Lib.hid (plOne_any T[(lo + hi) / 2].nm T[(lo + hi) / 2].A T[(lo + hi) / 2].n T[(lo + hi) / 2].c T[(lo + hi) / 2].K s wr)
      have HX1 : Hid (Op.bytesLess T[(lo + hi) / 2].nm.toList s.toList = true → ∀ t (_ : t < (lo + hi) / 2 + 1) (ht : t < T.length), Op.bytesLess T[t].nm.toList s.toList = true) := fun he t h1 ht => by
        rcases Nat.lt_or_eq_of_le (Nat.le_of_lt_succ h1) with h2 | h2
        · exact less_trans _ _ _ (HS.out _ _ h2 hkl) he
        · subst h2; exact he
      have HX2 : Hid (Op.bytesLess T[(lo + hi) / 2].nm.toList s.toList = false → ∀ t (_ : (lo + hi) / 2 ≤ t) (ht : t < T.length), Op.bytesLess T[t].nm.toList s.toList = false) := fun he t h1 ht => by
        rcases Nat.lt_or_eq_of_le h1 with h2 | h2
        · cases h3 : Op.bytesLess T[t].nm.toList s.toList
          · rfl
          · rw [less_trans _ _ _ (HS.out _ _ h2 ht) h3] at he; cases he
        · subst h2; exact he
      have HQ := Lib.hid (cmpS_neg T[(lo + hi) / 2].nm s)
      clear hc
      generalize T[(lo + hi) / 2] = x at *
      obtain ⟨xs, xA, xn, xc, xL, xK⟩ := x
      simp only at c0 c1 c2 HC HX1 HX2 HQ
      generalize cmpS xs s = q at *
      by_cases hq : q < 0
      · go_wp2_with fail
        go_at_call 55
        refine HC.out.mono ?_
        rintro e w1 ⟨rfl, hb1⟩
        have HB1 := Lib.hid (HB.out.trans (hb1.out.mono HB.out.size))
        clear hb1 c0 c1 c2
        go_wp2_with fail
        go_roundw
        case rel => exact ⟨(lo + hi) / 2 + 1, hi, by go_num, rfl, by omega, by omega, HX1.out (HQ.out.1 hq), HH, HB1⟩
        case measure => simp [intOf]; omega
      · go_wp2_with fail
        go_at_call 55
        refine HC.out.mono ?_
        rintro e w1 ⟨rfl, hb1⟩
        have HB1 := Lib.hid (HB.out.trans (hb1.out.mono HB.out.size))
        clear hb1 c0 c1 c2
        go_wp2_with fail
        go_roundw
        case rel => exact ⟨lo, (lo + hi) / 2, rfl, by go_num, by omega, by omega, HL, HX2.out (by rw [← Bool.not_eq_true]; exact fun h => by have := HQ.out.2 h; omega), HB1⟩
        case measure => simp [intOf]; omega
    · obtain rfl : hi = lo := by omega
      have HLB := Lib.hid (lb_is (T := T) (s := s) (k := hi) (by rw [HN.out]; omega) (fun t ht => HL.out t ht _) (fun t h1 ht => HH.out t h1 ht))
      by_cases hn2 : hi < n
      · have hkl : hi < T.length := by rw [HN.out]; omega
        obtain ⟨b, off, rfl, hc⟩ := (HA.out.below HB.out) (by intro e; rw [e] at hkl; simp at hkl)
        obtain ⟨c0, c1, c2⟩ := hc _ hkl
        have HC := Lib.hid (plOne_any T[hi].nm T[hi].A T[hi].n T[hi].c T[hi].K s wr)
        have HQ := Lib.hid (cmpS_zero T[hi].nm s)
        have HP := plF_at (T := T) (s := s) (by rw [HLB.out]; exact hkl)
        simp only [HLB.out] at HP
        have HP := Lib.hid HP
        clear hc
        generalize T[hi] = x at *
        obtain ⟨xs, xA, xn, xc, xL, xK⟩ := x
        simp only at c0 c1 c2 HC HQ HP
        generalize cmpS xs s = q at *
        by_cases hq : q = 0
        · have HP2 : Hid (plF T s = true) := HP.out.trans (HQ.out.1 hq)
          go_wp2_with fail
          go_at_call 55
          refine HC.out.mono ?_
          rintro e w1 ⟨rfl, hb1⟩
          have HB1 := Lib.hid (HB.out.trans (hb1.out.mono HB.out.size))
          clear hb1 c0 c1 c2
          go_wp2_with fail
          go_ret2
          exact ⟨by rw [HLB.out, HP2.out]; try rfl, HB1⟩
        · have HP2 : Hid (plF T s = false) := HP.out.trans (by rw [← Bool.not_eq_true]; exact fun h => by have := HQ.out.2 h; omega)
          go_wp2_with fail
          go_at_call 55
          refine HC.out.mono ?_
          rintro e w1 ⟨rfl, hb1⟩
          have HB1 := Lib.hid (HB.out.trans (hb1.out.mono HB.out.size))
          clear hb1 c0 c1 c2
          go_wp2_with fail
          go_ret2
          have hqb : (q == 0) = false := by simp [hq]
          exact ⟨by rw [HLB.out, HP2.out]; show Ending.returned (.tuple #[.int .i64 (hi : Int), .bool (q == 0)]) = _; rw [hqb], HB1⟩
      · have HP2 := Lib.hid (plF_out (T := T) (s := s) (by rw [HLB.out, HN.out]; exact hn2))
        go_wp2_with fail
        go_ret2
        exact ⟨by rw [HLB.out, HP2.out]; try rfl, HB⟩
set_option maxHeartbeats 1000000 in
theorem place_any (A : Option Addr) (T : List Tb) (n c : Nat) (s : ByteArray) (w : World) (hn : T.length = n) (hl : n ≤ 1000) (hA : TRow w A T) (hS : SortT T) :
    Calls Tryd.prog 33 #[.slice A n c, .string s] w fun e w' => e = .returned (.tuple #[.int .i64 (lbN T s : Nat), .bool (plF T s)]) ∧ Hid (Below w.heap.size w w') := by
  have HC := fun W (hW : Hid (W = w)) => (bsf_any A T n c s W hn hl (by rw [hW.out]; exact hA) hS)
  have HC := Lib.hid HC
  clear hn hA hS
  go_enter Tryd.func33, Tryd.ntmps33
  go_wp2_with fail
  refine (HC.out _ rfl).mono ?_
  rintro e w1 ⟨rfl, HB⟩
  go_wp2_with fail
  go_ret2
  exact ⟨rfl, HB⟩
end Go.Proofs.YtiefogofiajmnaaDoor
