/-
  Put together, as far as it is used: TabP, Qh, Qi.
-/
import Derived.Test.YtnpmgempkoeapaaGreatDoorPear
import Derived.Test.YtnpmgempkoeapaaGreatDoorPeah
import Derived.Deep.RegionHeld3
import Derived.Test.YtnpmgempkoeapaaGreatDoorPeaf
import Derived.Laws.ResultCell
import Derived.MapKept
set_option linter.unusedVariables false
set_option linter.unusedSimpArgs false
set_option linter.defProp false
namespace Go.Proofs.YtnpmgempkoeapaaGreatDoor
open Go.RowKit Dg
set_option maxRecDepth 100000
theorem less_irrefl : ∀ x : List UInt8, Op.bytesLess x x = false
 | [] => rfl
 | a :: x => by simp [Op.bytesLess, less_irrefl x]
theorem less_asymm : ∀ x y : List UInt8, Op.bytesLess x y = true → Op.bytesLess y x = false
 | [], [], h => by simp [Op.bytesLess] at h
 | [], _ :: _, _ => rfl
 | _ :: _, [], h => by simp [Op.bytesLess] at h
 | a :: x, b :: y, h => by
   simp only [Op.bytesLess, Bool.or_eq_true, decide_eq_true_eq, Bool.and_eq_true, beq_iff_eq] at h
   simp only [Op.bytesLess, Bool.or_eq_false_iff, decide_eq_false_iff_not, Bool.and_eq_false_iff, beq_eq_false_iff_ne]
   rcases h with h | ⟨h, h'⟩
   ·exact ⟨by rw [UInt8.lt_iff_toNat_lt] at h ⊢; omega, .inl (by intro e; subst e; rw [UInt8.lt_iff_toNat_lt] at h; omega)⟩
   ·subst h
    exact ⟨by rw [UInt8.lt_iff_toNat_lt]; omega, .inr (less_asymm x y h')⟩
theorem less_total : ∀ x y : List UInt8, Op.bytesLess x y = false → Op.bytesLess y x = false → x = y
 | [], [], _, _ => rfl
 | [], _ :: _, h, _ => by simp [Op.bytesLess] at h
 | _ :: _, [], _, h => by simp [Op.bytesLess] at h
 | a :: x, b :: y, h, h' => by
   simp only [Op.bytesLess, Bool.or_eq_false_iff, decide_eq_false_iff_not, Bool.and_eq_false_iff, beq_eq_false_iff_ne, UInt8.lt_iff_toNat_lt] at h h'
   have e : a = b := by
    apply UInt8.toNat_inj.1; omega
   subst e
   rw [less_total x y (h.2.resolve_left (by simp)) (h'.2.resolve_left (by simp))]
def cmpS (x y : ByteArray) : Int := if Op.bytesLess x.toList y.toList then -1 else if Op.bytesLess y.toList x.toList then 1 else 0
set_option maxHeartbeats 400000 in
theorem nan_any (x : ByteArray) (w : World) : Calls Tryz.prog 110 #[.string x] w fun e w' => e = .returned (.bool false) ∧ w = w' := by
 go_enter Tryz.func110, Tryz.ntmps110
 go_wp2_with fail
 go_ret
 exact ⟨rfl, rfl⟩
set_option maxHeartbeats 400000 in
theorem cmpS_any (x y : ByteArray) (w : World) : Calls Tryz.prog 90 #[.string x, .string y] w fun e w' => e = .returned (.int .i64 (cmpS x y)) ∧ w = w' := by
 have HN := Lib.hid nan_any
 cases h : Op.bytesLess x.toList y.toList
 ·cases h2 : Op.bytesLess y.toList x.toList
  ·have hq : (x.toList == y.toList) = true := by rw [less_total _ _ h h2]; simp
   go_enter Tryz.func90, Tryz.ntmps90
   go_wp2_with fail
   refine (HN.out _ _).mono ?_
   rintro e w1 ⟨rfl, rfl⟩
   go_wp2_with fail
   refine (HN.out _ _).mono ?_
   rintro e w1 ⟨rfl, rfl⟩
   go_wp2_with fail
   go_ret
   exact ⟨by simp [cmpS, h, h2], rfl⟩
  ·have hq : (x.toList == y.toList) = false := by
    rw [beq_eq_false_iff_ne]
    intro e
    rw [e, less_irrefl] at h2
    cases h2
   go_enter Tryz.func90, Tryz.ntmps90
   go_wp2_with fail
   refine (HN.out _ _).mono ?_
   rintro e w1 ⟨rfl, rfl⟩
   go_wp2_with fail
   refine (HN.out _ _).mono ?_
   rintro e w1 ⟨rfl, rfl⟩
   go_wp2_with fail
   go_ret
   exact ⟨by simp [cmpS, h, h2], rfl⟩
 ·go_enter Tryz.func90, Tryz.ntmps90
  go_wp2_with fail
  refine (HN.out _ _).mono ?_
  rintro e w1 ⟨rfl, rfl⟩
  go_wp2_with fail
  refine (HN.out _ _).mono ?_
  rintro e w1 ⟨rfl, rfl⟩
  go_wp2_with fail
  go_ret
  exact ⟨by simp [cmpS, h], rfl⟩
theorem cmpS_neg (x y : ByteArray) : cmpS x y < 0 ↔ Op.bytesLess x.toList y.toList = true := by
 unfold cmpS
 cases Op.bytesLess x.toList y.toList
 ·cases Op.bytesLess y.toList x.toList <;> simp
 ·simp
theorem cmpS_zero (x y : ByteArray) : cmpS x y = 0 ↔ (x.toList == y.toList) = true := by
 unfold cmpS
 rw [beq_iff_eq]
 cases h : Op.bytesLess x.toList y.toList
 ·cases h2 : Op.bytesLess y.toList x.toList
  ·simp [less_total _ _ h h2]
  ·simp; intro e; rw [e, less_irrefl] at h2; cases h2
 ·simp; intro e; rw [e, less_irrefl] at h; cases h
theorem less_trans : ∀ x y z : List UInt8, Op.bytesLess x y = true → Op.bytesLess y z = true → Op.bytesLess x z = true
 | [], [], _, h, _ => by simp [Op.bytesLess] at h
 | [], _ :: _, [], _, h => by simp [Op.bytesLess] at h
 | [], _ :: _, _ :: _, _, _ => rfl
 | _ :: _, [], _, h, _ => by simp [Op.bytesLess] at h
 | _ :: _, _ :: _, [], _, h => by simp [Op.bytesLess] at h
 | a :: x, b :: y, c :: z, h, h' => by
   simp only [Op.bytesLess, Bool.or_eq_true, decide_eq_true_eq, Bool.and_eq_true, beq_iff_eq, UInt8.lt_iff_toNat_lt] at h h' ⊢
   rcases h with h | ⟨h, h1⟩
   ·rcases h' with h' | ⟨h', h2⟩
    ·exact .inl (by omega)
    ·subst h'; exact .inl h
   ·subst h
    rcases h' with h' | ⟨h', h2⟩
    ·exact .inl h'
    ·exact .inr ⟨h', less_trans x y z h1 h2⟩
def SortT (T : List Tb) : Prop := ∀ i j (hij : i < j) (hj : j < T.length), Op.bytesLess T[i].nm.toList T[j].nm.toList = true
def lbN (T : List Tb) (s : ByteArray) : Nat := T.findIdx fun x => !Op.bytesLess x.nm.toList s.toList
def plF (T : List Tb) (s : ByteArray) : Bool := match T[lbN T s]? with | some x => x.nm.toList == s.toList | none => false
theorem lb_le (T : List Tb) (s : ByteArray) : lbN T s ≤ T.length := List.findIdx_le_length
theorem lb_lo {T : List Tb} {s : ByteArray} {t : Nat} (h : t < lbN T s) (ht : t < T.length) : Op.bytesLess T[t].nm.toList s.toList = true := by
 have := List.not_of_lt_findIdx h
 simpa using this
theorem lb_hi {T : List Tb} {s : ByteArray} (hS : SortT T) {t : Nat} (h : lbN T s ≤ t) (ht : t < T.length) : Op.bytesLess T[t].nm.toList s.toList = false := by
 have hk : lbN T s < T.length := by omega
 have h0 : (!Op.bytesLess (T[lbN T s]'hk).nm.toList s.toList) = true := List.findIdx_getElem (w := hk)
 rw [Bool.not_eq_true'] at h0
 rcases Nat.lt_or_eq_of_le h with h1 | h1
 ·cases h2 : Op.bytesLess T[t].nm.toList s.toList
  ·rfl
  ·have := less_trans _ _ _ (hS _ _ h1 ht) h2
   rw [h0] at this; cases this
 ·subst h1; exact h0
theorem lb_is {T : List Tb} {s : ByteArray} {k : Nat} (hk : k ≤ T.length) (h1 : ∀ t (ht : t < k), Op.bytesLess (T[t]'(by omega)).nm.toList s.toList = true) (h2 : ∀ t (_ : k ≤ t) (ht : t < T.length), Op.bytesLess T[t].nm.toList s.toList = false) : lbN T s = k := by
 rcases Nat.lt_trichotomy (lbN T s) k with h | h | h
 ·have hl : lbN T s < T.length := by omega
  have h0 : (!Op.bytesLess (T[lbN T s]'hl).nm.toList s.toList) = true := List.findIdx_getElem (w := hl)
  rw [h1 _ h] at h0; cases h0
 ·exact h
 ·have hl := lb_le T s
  have := lb_lo h (by omega)
  rw [h2 k (Nat.le_refl _) (by omega)] at this; cases this
theorem plF_at {T : List Tb} {s : ByteArray} (h : lbN T s < T.length) : plF T s = ((T[lbN T s]'h).nm.toList == s.toList) := by
 unfold plF; rw [List.getElem?_eq_getElem h]
theorem plF_out {T : List Tb} {s : ByteArray} (h : ¬ lbN T s < T.length) : plF T s = false := by
 unfold plF; rw [List.getElem?_eq_none (by omega)]
theorem plF_tat {T : List Tb} {s : ByteArray} (h : plF T s = true) : lbN T s < T.length ∧ tatN T s = lbN T s := by
 by_cases hl : lbN T s < T.length
 ·rw [plF_at hl] at h
  refine ⟨hl, tatN_at hl h fun j hj => ?_⟩
  rw [beq_eq_false_iff_ne]
  intro e
  have h1 := lb_lo hj (by omega)
  rw [e, less_irrefl] at h1; cases h1
 ·rw [plF_out hl] at h; cases h
theorem plF_tat' {T : List Tb} {s : ByteArray} (hS : SortT T) (h : plF T s = false) : ¬ tatN T s < T.length := by
 intro hl
 have he : (T[tatN T s].nm.toList == s.toList) = true := List.findIdx_getElem (w := hl)
 have hn : lbN T s = tatN T s := lb_is (Nat.le_of_lt hl) (fun t ht => by rw [← eq_of_beq he]; exact hS _ _ ht hl) (fun t h1 ht => by
  rw [← eq_of_beq he]
  rcases Nat.lt_or_eq_of_le h1 with h2 | h2
  ·exact less_asymm _ _ (hS _ _ h2 ht)
  ·subst h2; exact less_irrefl _)
 rw [plF_at (by rw [hn]; exact hl)] at h
 simp only [hn] at h
 rw [he] at h; cases h
set_option maxHeartbeats 1000000 in
theorem plOne_any (nm : ByteArray) (A : Option Addr) (n c : Nat) (K : Int) (s : ByteArray) (w : World) :
 Calls Tryz.prog 89 #[.agg #[.string nm, .slice A n c, .int .i64 K], .string s] w fun e w' => e = .returned (.int .i64 (cmpS nm s)) ∧ Hid (Below w.heap.size w w') := by
 have HB := Lib.hid ((Below.refl w.heap.size w).alloc (Nat.le_refl _) (.cells #[.string nm, .slice A n c, .int .i64 K] 52))
 go_enter Tryz.func89, Tryz.ntmps89
 go_wp2_with fail
 refine (cmpS_any nm s _).mono ?_
 rintro e w1 ⟨rfl, rfl⟩
 go_wp2_with fail
 go_ret
 exact ⟨rfl, HB⟩
set_option maxHeartbeats 4000000 in
theorem bsf_any (A : Option Addr) (T : List Tb) (n c : Nat) (s : ByteArray) (w : World) (hn : T.length = n) (hl : n ≤ 1000) (hA : TRow w A T) (hS : SortT T) :
 Calls Tryz.prog 88 #[.slice A n c, .string s, .func (.func 89) #[] #[]] w fun e w' => e = .returned (.tuple #[.int .i64 (lbN T s : Nat), .bool (plF T s)]) ∧ Hid (Below w.heap.size w w') := by
 have HN := Lib.hid hn
 have HA := Lib.hid hA
 have HS := Lib.hid hS
 clear hn hA hS
 go_enter Tryz.func88, Tryz.ntmps88
 go_wp2_with fail
 go_loopw [9, 10] (fun i j wr => ∃ lo hi : Nat, i = .int .i64 lo ∧ j = .int .i64 hi ∧ lo ≤ hi ∧ hi ≤ n ∧ Hid (∀ t (_ : t < lo) (ht : t < T.length), Op.bytesLess T[t].nm.toList s.toList = true) ∧ Hid (∀ t (_ : hi ≤ t) (ht : t < T.length), Op.bytesLess T[t].nm.toList s.toList = false) ∧ Hid (Below w.heap.size w wr)) (fun i j _ => (intOf j).toNat - (intOf i).toNat)
 case atStart => exact ⟨0, n, rfl, rfl, by omega, by omega, (fun t ht => absurd ht (by omega)), (fun t h1 h2 => absurd h2 (by rw [HN.out]; omega)), Below.refl _ _⟩
 case round =>
  obtain ⟨lo, hi, rfl, rfl, hlh, hin, HL, HH, HB⟩ := hrel
  by_cases hlt : lo < hi
  ·have hkl : (lo + hi) / 2 < T.length := by rw [HN.out]; omega
   obtain ⟨b, off, rfl, hc⟩ := (HA.out.below HB.out) (by intro e; rw [e] at hkl; simp at hkl)
   obtain ⟨c0, c1, c2⟩ := hc _ hkl
   have hm1 : (lo + hi) / 2 < n := by omega
   have HC := Lib.hid (plOne_any T[(lo + hi) / 2].nm T[(lo + hi) / 2].A T[(lo + hi) / 2].n T[(lo + hi) / 2].c T[(lo + hi) / 2].K s wr)
   have HX1 : Hid (Op.bytesLess T[(lo + hi) / 2].nm.toList s.toList = true → ∀ t (_ : t < (lo + hi) / 2 + 1) (ht : t < T.length), Op.bytesLess T[t].nm.toList s.toList = true) := fun he t h1 ht => by
    rcases Nat.lt_or_eq_of_le (Nat.le_of_lt_succ h1) with h2 | h2
    ·exact less_trans _ _ _ (HS.out _ _ h2 hkl) he
    ·subst h2; exact he
   have HX2 : Hid (Op.bytesLess T[(lo + hi) / 2].nm.toList s.toList = false → ∀ t (_ : (lo + hi) / 2 ≤ t) (ht : t < T.length), Op.bytesLess T[t].nm.toList s.toList = false) := fun he t h1 ht => by
    rcases Nat.lt_or_eq_of_le h1 with h2 | h2
    ·cases h3 : Op.bytesLess T[t].nm.toList s.toList
     ·rfl
     ·rw [less_trans _ _ _ (HS.out _ _ h2 ht) h3] at he; cases he
    ·subst h2; exact he
   have HQ := Lib.hid (cmpS_neg T[(lo + hi) / 2].nm s)
   clear hc
   generalize T[(lo + hi) / 2] = x at *
   obtain ⟨xs, xA, xn, xc, xL, xK⟩ := x
   simp only at c0 c1 c2 HC HX1 HX2 HQ
   generalize cmpS xs s = q at *
   by_cases hq : q < 0
   ·go_wp2_with fail
    go_at_call 89
    refine HC.out.mono ?_
    rintro e w1 ⟨rfl, hb1⟩
    have HB1 := Lib.hid (HB.out.trans (hb1.out.mono HB.out.size))
    clear hb1 c0 c1 c2
    go_wp2_with fail
    go_roundw
    case rel => exact ⟨(lo + hi) / 2 + 1, hi, by go_num, rfl, by omega, by omega, HX1.out (HQ.out.1 hq), HH, HB1⟩
    case measure => simp [intOf]; omega
   ·go_wp2_with fail
    go_at_call 89
    refine HC.out.mono ?_
    rintro e w1 ⟨rfl, hb1⟩
    have HB1 := Lib.hid (HB.out.trans (hb1.out.mono HB.out.size))
    clear hb1 c0 c1 c2
    go_wp2_with fail
    go_roundw
    case rel => exact ⟨lo, (lo + hi) / 2, rfl, by go_num, by omega, by omega, HL, HX2.out (by rw [← Bool.not_eq_true]; exact fun h => by have := HQ.out.2 h; omega), HB1⟩
    case measure => simp [intOf]; omega
  ·obtain rfl : hi = lo := by omega
   have HLB := Lib.hid (lb_is (T := T) (s := s) (k := hi) (by rw [HN.out]; omega) (fun t ht => HL.out t ht _) (fun t h1 ht => HH.out t h1 ht))
   by_cases hn2 : hi < n
   ·have hkl : hi < T.length := by rw [HN.out]; omega
    obtain ⟨b, off, rfl, hc⟩ := (HA.out.below HB.out) (by intro e; rw [e] at hkl; simp at hkl)
    obtain ⟨c0, c1, c2⟩ := hc _ hkl
    have HC := Lib.hid (plOne_any T[hi].nm T[hi].A T[hi].n T[hi].c T[hi].K s wr)
    have HQ := Lib.hid (cmpS_zero T[hi].nm s)
    have HP := plF_at (T := T) (s := s) (by rw [HLB.out]; exact hkl)
    simp only [HLB.out] at HP
    have HP := Lib.hid HP
    clear hc
    generalize T[hi] = x at *
    obtain ⟨xs, xA, xn, xc, xL, xK⟩ := x
    simp only at c0 c1 c2 HC HQ HP
    generalize cmpS xs s = q at *
    by_cases hq : q = 0
    ·have HP2 : Hid (plF T s = true) := HP.out.trans (HQ.out.1 hq)
     go_wp2_with fail
     go_at_call 89
     refine HC.out.mono ?_
     rintro e w1 ⟨rfl, hb1⟩
     have HB1 := Lib.hid (HB.out.trans (hb1.out.mono HB.out.size))
     clear hb1 c0 c1 c2
     go_wp2_with fail
     go_ret2
     exact ⟨by rw [HLB.out, HP2.out]; try rfl, HB1⟩
    ·have HP2 : Hid (plF T s = false) := HP.out.trans (by rw [← Bool.not_eq_true]; exact fun h => by have := HQ.out.2 h; omega)
     go_wp2_with fail
     go_at_call 89
     refine HC.out.mono ?_
     rintro e w1 ⟨rfl, hb1⟩
     have HB1 := Lib.hid (HB.out.trans (hb1.out.mono HB.out.size))
     clear hb1 c0 c1 c2
     go_wp2_with fail
     go_ret2
     have hqb : (q == 0) = false := by simp [hq]
     exact ⟨by rw [HLB.out, HP2.out]; show Ending.returned (.tuple #[.int .i64 (hi : Int), .bool (q == 0)]) = _; rw [hqb], HB1⟩
   ·have HP2 := Lib.hid (plF_out (T := T) (s := s) (by rw [HLB.out, HN.out]; exact hn2))
    go_wp2_with fail
    go_ret2
    exact ⟨by rw [HLB.out, HP2.out]; try rfl, HB⟩
set_option maxHeartbeats 1000000 in
theorem place_any (A : Option Addr) (T : List Tb) (n c : Nat) (s : ByteArray) (w : World) (hn : T.length = n) (hl : n ≤ 1000) (hA : TRow w A T) (hS : SortT T) :
 Calls Tryz.prog 55 #[.slice A n c, .string s] w fun e w' => e = .returned (.tuple #[.int .i64 (lbN T s : Nat), .bool (plF T s)]) ∧ Hid (Below w.heap.size w w') := by
 have HC := fun W (hW : Hid (W = w)) => (bsf_any A T n c s W hn hl (by rw [hW.out]; exact hA) hS)
 have HC := Lib.hid HC
 clear hn hA hS
 go_enter Tryz.func55, Tryz.ntmps55
 go_wp2_with fail
 refine (HC.out _ rfl).mono ?_
 rintro e w1 ⟨rfl, HB⟩
 go_wp2_with fail
 go_ret2
 exact ⟨rfl, HB⟩
structure Td where
 nm : ByteArray
 L : List Cl
 K : Int
def Tb.td (x : Tb) : Td := ⟨x.nm, x.L, x.K⟩
def tds (T : List Tb) : List Td := T.map Tb.td
def lbD (D : List Td) (s : ByteArray) : Nat := D.findIdx fun x => !Op.bytesLess x.nm.toList s.toList
def plD (D : List Td) (s : ByteArray) : Bool := match D[lbD D s]? with | some x => x.nm.toList == s.toList | none => false
theorem lbN_d (T : List Tb) (s : ByteArray) : lbN T s = lbD (tds T) s := by
 unfold lbN lbD tds
 rw [List.findIdx_map]
 rfl
theorem plF_d (T : List Tb) (s : ByteArray) : plF T s = plD (tds T) s := by
 unfold plF plD
 rw [lbN_d]
 unfold tds
 rw [List.getElem?_map]
 cases T[lbD (T.map Tb.td) s]? <;> rfl
theorem tds_len (T : List Tb) : (tds T).length = T.length := List.length_map _
theorem tds_get (T : List Tb) (i : Nat) (h : i < T.length) : (tds T)[i]'(by rw [tds_len]; exact h) = T[i].td := List.getElem_map _
theorem tds_ins (T : List Tb) (x : Tb) (i j : Nat) : tds (T.take i ++ [x] ++ T.drop j) = (tds T).take i ++ [x.td] ++ (tds T).drop j := by
 unfold tds; simp [List.map_append, List.map_take, List.map_drop]
def SortD (D : List Td) : Prop := D.Pairwise fun x y => Op.bytesLess x.nm.toList y.nm.toList = true
theorem sort_d (T : List Tb) : SortT T ↔ SortD (tds T) := by
 unfold SortT SortD
 rw [List.pairwise_iff_getElem]
 constructor
 ·intro h i j hi hj hij
  rw [tds_len] at hi hj
  rw [tds_get T i hi, tds_get T j hj]
  exact h i j hij hj
 ·intro h i j hij hj
  have := h i j (by rw [tds_len]; omega) (by rw [tds_len]; exact hj) hij
  rw [tds_get T i (by omega), tds_get T j hj] at this
  exact this
theorem sortD_ins {D : List Td} {x : Td} (h : SortD D) (hp : plD D x.nm = false) : SortD (D.take (lbD D x.nm) ++ [x] ++ D.drop (lbD D x.nm)) := by
 have hlo : ∀ y ∈ D.take (lbD D x.nm), Op.bytesLess y.nm.toList x.nm.toList = true := fun y hy => by
  obtain ⟨i, hi, rfl⟩ := List.getElem_of_mem hy
  rw [List.length_take] at hi
  rw [List.getElem_take]
  have := List.not_of_lt_findIdx (xs := D) (p := fun y => !Op.bytesLess y.nm.toList x.nm.toList) (show i < lbD D x.nm by omega)
  simpa using this
 have hhi : ∀ y ∈ D.drop (lbD D x.nm), Op.bytesLess x.nm.toList y.nm.toList = true := fun y hy => by
  obtain ⟨i, hi, rfl⟩ := List.getElem_of_mem hy
  rw [List.length_drop] at hi
  rw [List.getElem_drop]
  have hk : lbD D x.nm < D.length := by omega
  have h0 : (!Op.bytesLess (D[lbD D x.nm]'hk).nm.toList x.nm.toList) = true := List.findIdx_getElem (w := hk)
  rw [Bool.not_eq_true'] at h0
  have h1 : ((D[lbD D x.nm]'hk).nm.toList == x.nm.toList) = false := by
   unfold plD at hp; rw [List.getElem?_eq_getElem hk] at hp; exact hp
  have h2 : Op.bytesLess x.nm.toList (D[lbD D x.nm]'hk).nm.toList = true := by
   cases h3 : Op.bytesLess x.nm.toList (D[lbD D x.nm]'hk).nm.toList
   ·have := less_total _ _ h0 h3
    rw [this] at h1; simp at h1
   ·rfl
  rcases Nat.eq_zero_or_pos i with rfl | hi0
  ·simpa using h2
  ·exact less_trans _ _ _ h2 ((List.pairwise_iff_getElem.1 h) _ _ hk (by omega) (by omega))
 unfold SortD at *
 rw [List.append_assoc, List.pairwise_append]
 refine ⟨h.sublist (List.take_sublist _ _), ?_, ?_⟩
 ·rw [List.singleton_append, List.pairwise_cons]
  exact ⟨hhi, h.sublist (List.drop_sublist _ _)⟩
 ·intro a ha b hb
  rw [List.singleton_append, List.mem_cons] at hb
  rcases hb with rfl | hb
  ·exact hlo a ha
  ·exact less_trans _ _ _ (hlo a ha) (hhi b hb)
structure Dn where
 f : Nat
 t : Nat
 m : Nat
 e : Int
def Dn.val (d : Dn) : Value := .tuple #[.agg #[.int .i64 d.f, .int .i64 d.t, .int .i64 d.m], .int .i64 d.e]
def Dn.bad (e : Int) : Dn := ⟨0, 0, 0, e⟩
def Dn.ok (d : Dn) (n : Nat) : Prop := d.e = 0 → d.f ≤ d.t ∧ d.t ≤ n ∧ d.m ≤ 1
def fcE (T : List Tb) (tn : ByteArray) (L' : List Cl) (K' : Int) : Int :=
 if nameF tn = false then 6 else if plF T tn = true then 8 else if smayF L' K' = false then 1 else if 64 ≤ T.length then 13 else 0
section
variable {T : List Tb} {tn : ByteArray} {L' : List Cl} {K' : Int} {cn : ByteArray} {kd : Int} {no : Bool} {ck : Int}
theorem plF_lt (h : plF T tn = true) : lbN T tn < T.length := by
 apply Decidable.byContradiction
 intro hl
 rw [plF_out hl] at h; cases h
theorem fcE_name (h : nameF tn = false) : fcE T tn L' K' = 6 := by unfold fcE; rw [if_pos h]
theorem fcE_there (h : nameF tn = true) (hp : plF T tn = true) : fcE T tn L' K' = 8 := by unfold fcE; rw [if_neg (by rw [h]; simp), if_pos hp]
theorem fcE_may (h : nameF tn = true) (hp : plF T tn = false) (hm : smayF L' K' = false) : fcE T tn L' K' = 1 := by unfold fcE; rw [if_neg (by rw [h]; simp), if_neg (by rw [hp]; simp), if_pos hm]
theorem fcE_many (h : nameF tn = true) (hp : plF T tn = false) (hm : smayF L' K' = true) (h6 : 64 ≤ T.length) : fcE T tn L' K' = 13 := by unfold fcE; rw [if_neg (by rw [h]; simp), if_neg (by rw [hp]; simp), if_neg (by rw [hm]; simp), if_pos h6]
theorem fcE_ok (h : nameF tn = true) (hp : plF T tn = false) (hm : smayF L' K' = true) (h6 : T.length < 64) : fcE T tn L' K' = 0 := by unfold fcE; rw [if_neg (by rw [h]; simp), if_neg (by rw [hp]; simp), if_neg (by rw [hm]; simp), if_neg (by omega)]
end
end Go.Proofs.YtnpmgempkoeapaaGreatDoor
