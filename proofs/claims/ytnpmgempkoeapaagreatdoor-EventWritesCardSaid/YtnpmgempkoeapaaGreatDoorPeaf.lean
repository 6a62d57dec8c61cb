/-
  Put together, as far as it is used: Qa.
-/
import Derived.Test.YtnpmgempkoeapaaGreatDoorPeac
import Derived.Test.YtnpmgempkoeapaaGreatDoorPeae
import Derived.RegionTactic
import Derived.Deep.QuietTactic
import Derived.BigQuiet
set_option linter.unusedVariables false
set_option linter.unusedSimpArgs false
set_option linter.defProp false
namespace Go.Proofs.YtnpmgempkoeapaaGreatDoor
open Go.RowKit Dg
def findN (L : List Cl) (s : ByteArray) : Nat := L.findIdx fun c => c.nm.toList == s.toList
def findI (L : List Cl) (s : ByteArray) : Int := if findN L s < L.length then (findN L s : Int) else -1
theorem findN_at {L : List Cl} {s : ByteArray} {k : Nat} (h : k < L.length) (he : (L[k].nm.toList == s.toList) = true) (hb : ∀ j (hj : j < k), (L[j].nm.toList == s.toList) = false) : findN L s = k := by
 unfold findN
 rw [List.findIdx_eq h]
 exact ⟨he, fun j hj => hb j hj⟩
theorem findI_at {L : List Cl} {s : ByteArray} {k : Nat} (h : k < L.length) (he : (L[k].nm.toList == s.toList) = true) (hb : ∀ j (hj : j < k), (L[j].nm.toList == s.toList) = false) : findI L s = k := by
 unfold findI; rw [findN_at h he hb, if_pos h]
theorem findI_none {L : List Cl} {s : ByteArray} (hb : ∀ j (hj : j < L.length), (L[j].nm.toList == s.toList) = false) : findI L s = -1 := by
 unfold findI
 rw [if_neg]
 unfold findN
 have : L.findIdx (fun c => c.nm.toList == s.toList) = L.length := List.findIdx_eq_length.2 fun x hx => by
  obtain ⟨j, hj, rfl⟩ := List.getElem_of_mem hx
  exact hb j hj
 omega
def kindF (k : Int) : Bool := decide (1 ≤ k) && decide (k ≤ 4)
set_option maxHeartbeats 1000000 in
theorem ofColumn_any (k : Int) (w : World) : Calls Tryz.prog 96 #[.int .i64 k] w fun e w' => e = .returned (.bool (kindF k)) ∧ w' = w := by
 by_cases h : k = 1 ∨ k = 2 ∨ k = 3 ∨ k = 4
 ·rcases h with rfl | rfl | rfl | rfl
  all_goals
   go_enter Tryz.func96, Tryz.ntmps96
   go_wp2_with fail
   go_ret
   exact ⟨by rfl, by trivial⟩
 ·have HK : Hid (kindF k = false) := by
   show _ = _
   cases hh : kindF k
   ·rfl
   ·unfold kindF at hh; simp at hh; omega
  have h1 : (k == 1) = false := by simp; omega
  have h2 : (k == 2) = false := by simp; omega
  have h3 : (k == 3) = false := by simp; omega
  have h4 : (k == 4) = false := by simp; omega
  go_enter Tryz.func96, Tryz.ntmps96
  go_wp2_with fail
  go_ret
  exact ⟨by rw [HK.out]; rfl, by trivial⟩
set_option maxHeartbeats 1000000 in
theorem findOne_any (nm : ByteArray) (k : Int) (no : Bool) (s : ByteArray) (B : Nat) (w : World) (hs : w.cell? ⟨B, 0, none⟩ = some (.string s)) :
 Calls Tryz.prog 112 #[.agg #[.string nm, .int .i64 k, .bool no], .pointer (some ⟨B, 0, none⟩)] w fun e w' => e = .returned (.bool (nm.toList == s.toList)) ∧ Hid (Below w.heap.size w w') := by
 have HB := Lib.hid ((Below.refl w.heap.size w).alloc (Nat.le_refl _) (.cells #[.string nm, .int .i64 k, .bool no] 29))
 have hlt := World.block_lt_of_cell? w _ hs
 have h2 : (w.alloc (.cells #[.string nm, .int .i64 k, .bool no] 29)).cell? ⟨B, 0, none⟩ = some (.string s) := (HB.out.cell hlt).trans hs
 go_enter Tryz.func112, Tryz.ntmps112
 go_wp2_with fail
 go_ret
 exact ⟨by rfl, HB⟩
set_option maxHeartbeats 2000000 in
set_option maxRecDepth 100000 in
theorem index_any (A : Option Addr) (L : List Cl) (n c : Nat) (s : ByteArray) (B : Nat) (w : World) (hn : L.length = n) (hl : n ≤ 4398046511104) (hA : CRow w A L) (hs : w.cell? ⟨B, 0, none⟩ = some (.string s)) :
 Calls Tryz.prog 111 #[.slice A n c, .func (.func 112) #[] #[.pointer (some ⟨B, 0, none⟩)]] w fun e w' => e = .returned (.int .i64 (findI L s)) ∧ Hid (Below w.heap.size w w') := by
 have HN := Lib.hid hn
 have HA := Lib.hid hA
 have HS := Lib.hid hs
 have HL := Lib.hid (World.block_lt_of_cell? w _ hs)
 clear hn hA hs
 go_enter Tryz.func111, Tryz.ntmps111
 go_wp2_with fail
 go_loopw [8] (fun i wr => ∃ k : Nat, k ≤ n ∧ i = .int .i64 k ∧ Hid (∀ j (hj : j < k) (hj2 : j < L.length), (L[j].nm.toList == s.toList) = false) ∧ Hid (Below w.heap.size w wr)) (fun i _ => n - (intOf i).toNat)
 case atStart => exact ⟨0, by omega, rfl, (fun j hj => absurd hj (by omega)), Below.refl _ _⟩
 case round =>
  obtain ⟨k, hk, rfl, HF, HB⟩ := hrel
  by_cases hlt : k < n
  ·have hkl : k < L.length := by rw [HN.out]; exact hlt
   obtain ⟨b, off, rfl, hc⟩ := (HA.out.below HB.out) (by intro e; rw [e] at hkl; simp at hkl)
   obtain ⟨c0, c1, c2⟩ := hc k hkl
   have hcell : wr.cell? ⟨B, 0, none⟩ = some (.string s) := (HB.out.cell HL.out).trans HS.out
   have HC := Lib.hid (findOne_any L[k].nm L[k].k L[k].no s B wr hcell)
   have HAT := Lib.hid (fun he => findI_at (s := s) hkl he (fun j hj => HF.out j hj (by omega)))
   have HNX : Hid ((L[k].nm.toList == s.toList) = false → ∀ j (hj : j < k + 1) (hj2 : j < L.length), (L[j].nm.toList == s.toList) = false) := fun he j hj hj2 => by
    by_cases e : j = k
    ·subst e; exact he
    ·exact HF.out j (by omega) hj2
   clear hc hcell
   generalize L[k].nm = xa at *
   generalize L[k].k = xb at *
   generalize L[k].no = xc at *
   generalize (xa.toList == s.toList) = q at *
   go_wp2_with fail
   go_at_call 112
   refine HC.out.mono ?_
   rintro e w1 ⟨rfl, hb1⟩
   have HB1 := Lib.hid (HB.out.trans (hb1.out.mono HB.out.size))
   clear hb1 c0 c1 c2
   cases q
   ·go_wp2_with fail
    go_roundw
    case rel => exact ⟨k + 1, by omega, by go_num, HNX.out (by trivial), HB1⟩
    case measure => simp [intOf]; omega
   ·go_wp2_with fail
    go_ret
    exact ⟨by rw [HAT.out (by trivial)]; rfl, HB1⟩
  ·obtain rfl : k = n := by omega
   have HF2 := Lib.hid (findI_none (L := L) (s := s) (fun j hj => HF.out j (by rw [← HN.out]; exact hj) hj))
   go_wp2_with fail
   go_ret
   exact ⟨by rw [HF2.out]; rfl, HB⟩
set_option maxHeartbeats 1000000 in
theorem find_any (A : Option Addr) (L : List Cl) (n c : Nat) (K : Int) (s : ByteArray) (w : World) (hn : L.length = n) (hl : n ≤ 4398046511104) (hA : CRow w A L) :
 Calls Tryz.prog 95 #[.agg #[.slice A n c, .int .i64 K], .string s] w fun e w' => e = .returned (.int .i64 (findI L s)) ∧ Hid (Below w.heap.size w w') := by
 have HB := Lib.hid (((Below.refl w.heap.size w).alloc (Nat.le_refl _) (.cells #[.slice A n c, .int .i64 K] 27)).alloc (by simp) (.cells #[.string s] 9))
 have hc : ((w.alloc (.cells #[.slice A n c, .int .i64 K] 27)).alloc (.cells #[.string s] 9)).cell? ⟨w.heap.size + 1, 0, none⟩ = some (.string s) := by
  simp
 have HC := Lib.hid (index_any A L n c s (w.heap.size + 1) _ hn hl (hA.below HB.out) hc)
 clear hn hA hc
 go_enter Tryz.func95, Tryz.ntmps95
 go_wp2_with fail
 refine HC.out.mono ?_
 rintro e w1 ⟨rfl, hb1⟩
 have HB1 := Lib.hid (HB.out.trans (hb1.out.mono HB.out.size))
 clear hb1
 go_wp2_with fail
 go_ret
 exact ⟨rfl, HB1⟩
set_option maxHeartbeats 2000000 in
set_option maxRecDepth 100000 in
theorem refFind_any (A : Option Addr) (L : List Cl) (n c : Nat) (K : Int) (s : ByteArray) (w : World) (hn : L.length = n) (hl : n ≤ 4398046511104) (hA : CRow w A L) :
 Calls Tryz.prog 50 #[.agg #[.slice A n c, .int .i64 K], .string s] w fun e w' => e = .returned (.int .i64 (findI L s)) ∧ Hid (Below w.heap.size w w') := by
 have HN := Lib.hid hn
 have HA := Lib.hid hA
 have HB := Lib.hid ((Below.refl w.heap.size w).alloc (Nat.le_refl _) (.cells #[.slice A n c, .int .i64 K] 27))
 clear hn hA
 go_enter Tryz.func50, Tryz.ntmps50
 go_wp2_with fail
 go_loopw [5] (fun i wr => ∃ k : Nat, k ≤ n ∧ i = .int .i64 k ∧ Hid (∀ j (hj : j < k) (hj2 : j < L.length), (L[j].nm.toList == s.toList) = false) ∧ wr = w.alloc (.cells #[.slice A n c, .int .i64 K] 27)) (fun i _ => n - (intOf i).toNat)
 case atStart => exact ⟨0, by omega, rfl, (fun j hj => absurd hj (by omega)), rfl⟩
 case round =>
  obtain ⟨k, hk, rfl, HF, rfl⟩ := hrel
  by_cases hlt : k < n
  ·have hkl : k < L.length := by rw [HN.out]; exact hlt
   obtain ⟨b, off, rfl, hc⟩ := (HA.out.below HB.out) (by intro e; rw [e] at hkl; simp at hkl)
   obtain ⟨c0, c1, c2⟩ := hc k hkl
   have HAT := Lib.hid (fun he => findI_at (s := s) hkl he (fun j hj => HF.out j hj (by omega)))
   have HNX : Hid ((L[k].nm.toList == s.toList) = false → ∀ j (hj : j < k + 1) (hj2 : j < L.length), (L[j].nm.toList == s.toList) = false) := fun he j hj hj2 => by
    by_cases e : j = k
    ·subst e; exact he
    ·exact HF.out j (by omega) hj2
   clear hc c1 c2
   generalize L[k].nm = xa at *
   cases q : (xa.toList == s.toList)
   ·go_wp2_with fail
    go_roundw
    case rel => exact ⟨k + 1, by omega, by go_num, HNX.out q, by trivial⟩
    case measure => simp [intOf]; omega
   ·go_wp2_with fail
    go_ret
    exact ⟨by rw [HAT.out q]; rfl, HB⟩
  ·obtain rfl : k = n := by omega
   have HF2 := Lib.hid (findI_none (L := L) (s := s) (fun j hj => HF.out j (by rw [← HN.out]; exact hj) hj))
   go_wp2_with fail
   go_ret
   exact ⟨by rw [HF2.out]; rfl, HB⟩
def colOk (L : List Cl) (K : Int) (i : Nat) : Bool := match L[i]? with
 | some c => nameF c.nm && (findI L c.nm == (i : Int)) && kindF c.k && !(c.no && decide ((i : Int) < K))
 | none => true
def colsTo (L : List Cl) (K : Int) (k : Nat) : Bool := (List.range k).all fun i => colOk L K i
theorem colsTo_succ (L : List Cl) (K : Int) (k : Nat) : colsTo L K (k + 1) = (colsTo L K k && colOk L K k) := by
 unfold colsTo; rw [List.range_succ, List.all_append]; simp
theorem colsTo_false (L : List Cl) (K : Int) (k n : Nat) (hk : k < n) (h : colOk L K k = false) : colsTo L K n = false := by
 unfold colsTo; rw [List.all_eq_false]
 exact ⟨k, List.mem_range.2 hk, by simp [h]⟩
theorem colOk_at (L : List Cl) (K : Int) (k : Nat) (h : k < L.length) : colOk L K k = (nameF L[k].nm && (findI L L[k].nm == (k : Int)) && kindF L[k].k && !(L[k].no && decide ((k : Int) < K))) := by
 unfold colOk; rw [List.getElem?_eq_getElem h]
def smayF (L : List Cl) (K : Int) : Bool := decide (1 ≤ L.length) && decide (L.length ≤ 16) && decide (1 ≤ K) && decide (K ≤ 4) && decide (K ≤ L.length) && colsTo L K L.length
theorem smayF_yes {L : List Cl} {K : Int} (h0 : 1 ≤ L.length) (h1 : L.length ≤ 16) (h2 : 1 ≤ K) (h3 : K ≤ 4) (h4 : K ≤ L.length) : smayF L K = colsTo L K L.length := by
 unfold smayF; simp [h0, h1, h2, h3, h4]
theorem smayF_no {L : List Cl} {K : Int} (h : ¬ (1 ≤ L.length ∧ L.length ≤ 16 ∧ 1 ≤ K ∧ K ≤ 4 ∧ K ≤ L.length)) : smayF L K = false := by
 cases e : smayF L K
 ·rfl
 ·unfold smayF at e; simp at e; omega
theorem findI_early {L : List Cl} {s : ByteArray} {j k : Nat} (hjk : j < k) (hk : k < L.length) (he : (L[j].nm.toList == s.toList) = true) : (findI L s == (k : Int)) = false := by
 have h : findN L s ≤ j := by
  by_cases hh : findN L s ≤ j
  ·exact hh
  ·have := List.not_of_lt_findIdx (p := fun c : Cl => c.nm.toList == s.toList) (xs := L) (i := j) (by unfold findN at hh; omega)
   rw [he] at this; cases this
 unfold findI
 split
 ·simp; omega
 ·simp
set_option maxHeartbeats 4000000 in
set_option maxRecDepth 100000 in
theorem smay_any (A : Option Addr) (L : List Cl) (n c : Nat) (K : Int) (w : World) (hn : L.length = n) (hl : n ≤ 4398046511104) (hA : CRow w A L) (hf : ∀ x ∈ L, x.fit) :
 Calls Tryz.prog 68 #[.agg #[.slice A n c, .int .i64 K]] w fun e w' => e = .returned (.bool (smayF L K)) ∧ Hid (Below w.heap.size w w') := by
 have HN := Lib.hid hn
 have HA := Lib.hid hA
 have HF := Lib.hid hf
 have HB0 := Lib.hid ((Below.refl w.heap.size w).alloc (Nat.le_refl _) (.cells #[.slice A n c, .int .i64 K] 27))
 have HH0 := Lib.hid (Has.new w 27 #[.slice A n c, .int .i64 K])
 have HY := Lib.hid (@smayF_yes L K)
 have HNO := Lib.hid (@smayF_no L K)
 rw [hn] at HY HNO
 clear hn hA hf
 by_cases h1 : 1 ≤ n
 ·by_cases h2 : n ≤ 16
  ·by_cases h3 : 1 ≤ K
   ·by_cases h4 : K ≤ 4
    ·by_cases h5 : K ≤ n
     ·have HY2 := Lib.hid (HY.out h1 h2 h3 h4 h5)
      clear HY HNO
      go_enter Tryz.func68, Tryz.ntmps68
      go_wp2_with fail
      go_loopw [34] (fun i wr => ∃ k : Nat, k ≤ n ∧ i = .int .i64 k ∧ Hid (colsTo L K k = true) ∧ Hid (Below w.heap.size w wr) ∧ Hid (Has wr w.heap.size 27 #[.slice A n c, .int .i64 K])) (fun i _ => n - (intOf i).toNat)
      case atStart => exact ⟨0, by omega, rfl, rfl, HB0.out, HH0.out⟩
      case round =>
       obtain ⟨k, hk, rfl, HT, HB, HH⟩ := hrel
       by_cases hlt : k < n
       ·have hkl : k < L.length := by rw [HN.out]; exact hlt
        have HR := Lib.hid (HA.out.below HB.out)
        obtain ⟨b, off, rfl, hc⟩ := HR.out (by intro e; rw [e] at hkl; simp at hkl)
        obtain ⟨c0, c1, c2⟩ := hc k hkl
        have hfit := (HF.out L[k] (List.getElem_mem hkl)).1
        have HFA := Lib.hid (colsTo_false L K k n hlt)
        have HT2 : Hid (colsTo L K (k + 1) = colOk L K k) := by show _ = _; rw [colsTo_succ, HT.out, Bool.true_and]
        have HOK := Lib.hid (colOk_at L K k hkl)
        generalize L[k].nm = xa at *
        generalize L[k].k = xb at *
        generalize L[k].no = xc at *
        generalize colOk L K k = ok at *
        have HW : Hid (Below w.heap.size w (wr.alloc (.cells #[.string xa, .int .i64 xb, .bool xc] 29))) := HB.out.alloc HB.out.size _
        have HR1 : Hid (CRow (wr.alloc (.cells #[.string xa, .int .i64 xb, .bool xc] 29)) (some ⟨b, off, none⟩) L) := HR.out.below ((Below.refl _ wr).alloc (Nat.le_refl _) _)
        have HX : Hid (Has (wr.alloc (.cells #[.string xa, .int .i64 xb, .bool xc] 29)) wr.heap.size 29 #[.string xa, .int .i64 xb, .bool xc]) := Has.new _ _ _
        have HH1 : Hid (Has (wr.alloc (.cells #[.string xa, .int .i64 xb, .bool xc] 29)) w.heap.size 27 #[.slice (some ⟨b, off, none⟩) n c, .int .i64 K]) := HH.out.alloc _
        have a0 := HH.out.cell 0
        have a1 := HH.out.cell 1
        simp at a0 a1
        clear hc HR
        go_wp2_with fail
        refine (name_any xa _ hfit).mono ?_
        rintro e w1 ⟨rfl, hb1⟩
        have HB1 := Lib.hid (HW.out.trans (hb1.out.mono HW.out.size))
        have HX1 := Lib.hid (HX.out.below hb1.out HX.out.lt)
        have HH2 := Lib.hid (HH1.out.below hb1.out HH1.out.lt)
        have HR2 := Lib.hid (HR1.out.below hb1.out)
        clear hb1 HX HH1 HR1 HW c0 c1 c2 a0 a1
        have a0 := HH2.out.cell 0
        have a1 := HH2.out.cell 1
        have c0 := HX1.out.cell 0
        have c1 := HX1.out.cell 1
        have c2 := HX1.out.cell 2
        simp at a0 a1 c0 c1 c2
        generalize nameF xa = q1 at *
        cases q1
        ·have HO : Hid (ok = false) := by show _ = _; rw [HOK.out]; simp
         go_wp2_with fail
         go_ret
         exact ⟨by rw [HY2.out, HFA.out HO.out]; rfl, HB1⟩
        ·go_wp2_with fail
         refine (find_any (some ⟨b, off, none⟩) L n c K xa w1 HN.out hl HR2.out).mono ?_
         rintro e w2 ⟨rfl, hb2⟩
         have HB2 := Lib.hid (HB1.out.trans (hb2.out.mono HB1.out.size))
         have HX2 := Lib.hid (HX1.out.below hb2.out HX1.out.lt)
         have HH3 := Lib.hid (HH2.out.below hb2.out HH2.out.lt)
         clear hb2 HX1 HH2 HR2 HB1 c0 c1 c2 a0 a1
         have a0 := HH3.out.cell 0
         have a1 := HH3.out.cell 1
         have c0 := HX2.out.cell 0
         have c1 := HX2.out.cell 1
         have c2 := HX2.out.cell 2
         simp at a0 a1 c0 c1 c2
         generalize findI L xa = fi at *
         by_cases hq : fi = (k : Int)
         ·subst hq
          go_wp2_with fail
          refine (ofColumn_any xb w2).mono ?_
          rintro e w3 ⟨rfl, rfl⟩
          generalize kindF xb = q3 at *
          cases q3
          ·have HO : Hid (ok = false) := by show _ = _; rw [HOK.out]; simp
           go_wp2_with fail
           go_ret
           exact ⟨by rw [HY2.out, HFA.out HO.out]; rfl, HB2⟩
          ·cases xc
           ·have HO : Hid (ok = true) := by show _ = _; rw [HOK.out]; simp
            go_wp2_with fail
            go_roundw
            case rel => exact ⟨k + 1, by omega, by go_num, by rw [HT2.out]; exact HO, HB2, HH3⟩
            case measure => simp [intOf]; omega
           ·by_cases hkk : (k : Int) < K
            ·have HO : Hid (ok = false) := by show _ = _; rw [HOK.out]; simp; omega
             go_wp2_with fail
             go_ret
             exact ⟨by rw [HY2.out, HFA.out HO.out]; rfl, HB2⟩
            ·have HO : Hid (ok = true) := by show _ = _; rw [HOK.out]; simp; omega
             go_wp2_with fail
             go_roundw
             case rel => exact ⟨k + 1, by omega, by go_num, by rw [HT2.out]; exact HO, HB2, HH3⟩
             case measure => simp [intOf]; omega
         ·have HO : Hid (ok = false) := by show _ = _; rw [HOK.out]; simp [hq]
          have hqb : (fi != (k : Int)) = true := by simp [hq]
          go_wp2_with fail
          go_ret
          exact ⟨by rw [HY2.out, HFA.out HO.out]; rfl, HB2⟩
       ·obtain rfl : k = n := by omega
        go_wp2_with fail
        go_ret
        exact ⟨by rw [HY2.out, HT.out]; rfl, HB⟩
     ·have HO := Lib.hid (HNO.out (by omega))
      clear HY HNO
      have h5' : (n : Int) < K := by omega
      go_enter Tryz.func68, Tryz.ntmps68
      go_wp2_with fail
      go_ret
      exact ⟨by rw [HO.out]; rfl, HB0⟩
    ·have HO := Lib.hid (HNO.out (by omega))
     clear HY HNO
     have h4' : 4 < K := by omega
     go_enter Tryz.func68, Tryz.ntmps68
     go_wp2_with fail
     go_ret
     exact ⟨by rw [HO.out]; rfl, HB0⟩
   ·have HO := Lib.hid (HNO.out (by omega))
    clear HY HNO
    have h3' : K < 1 := by omega
    go_enter Tryz.func68, Tryz.ntmps68
    go_wp2_with fail
    go_ret
    exact ⟨by rw [HO.out]; rfl, HB0⟩
  ·have HO := Lib.hid (HNO.out (by omega))
   clear HY HNO
   have h2' : 16 < (n : Int) := by omega
   go_enter Tryz.func68, Tryz.ntmps68
   go_wp2_with fail
   go_ret
   exact ⟨by rw [HO.out]; rfl, HB0⟩
 ·have HO := Lib.hid (HNO.out (by omega))
  clear HY HNO
  have h1' : (n : Int) < 1 := by omega
  go_enter Tryz.func68, Tryz.ntmps68
  go_wp2_with fail
  go_ret
  exact ⟨by rw [HO.out]; rfl, HB0⟩
theorem cflat_set (L : List Cl) (i j : Nat) (u : Value) (x : Cl) (hi : i < L.length) (hj : j < 3) (hx : x.cells = L[i].cells.set j u) : (L.flatMap Cl.cells).set (i * 3 + j) u = (L.set i x).flatMap Cl.cells := by
 induction L generalizing i with
 | nil => simp at hi
 | cons y L ih =>
   rcases i with _ | i
   ·simp only [zC] at hx
    rw [List.flatMap_cons, List.set_cons_zero, List.flatMap_cons, hx, Nat.zero_mul, Nat.zero_add]
    rw [List.set_append_left _ _ (by simp [Cl.cells]; omega)]
   ·simp only [zB] at hx
    rw [List.flatMap_cons, List.set_cons_succ, List.flatMap_cons, ← ih i (by simpa using hi) hx]
    rw [List.set_append_right _ _ (by simp [Cl.cells]; omega)]
    have e : (i + 1) * 3 + j - y.cells.length = i * 3 + j := by simp [Cl.cells]; omega
    rw [e]
theorem ownC_put {B : Nat} {w : World} {v : Value} {L : List Cl} (h : OwnC B w v L) (i : Nat) (hi : i < L.length) (j : Nat) (hj : j < 3) (u : Value) (x : Cl) (hx : x.cells = L[i].cells.set j u) :
 ∃ g c, v = .slice (some ⟨g, 0, none⟩) L.length c ∧ B ≤ g ∧ L.length ≤ c ∧ w.frozen? ⟨g, i * 3 + j, none⟩ = false ∧ w.cell? ⟨g, i * 3 + j, none⟩ = L[i].cells[j]? ∧ OwnC B (w.setCell ⟨g, i * 3 + j, none⟩ u) v (L.set i x) := by
 rcases h.2 with ⟨hv, hn⟩ | ⟨g, cap, cur, hv, hg, hh, hc, hcm, hsz, ht⟩
 ·omega
 ·refine ⟨g, cap, hv, hg, hc, Has.free (t := 29) (cs := cur) hh _, ?_, ?_⟩
  ·rw [Has.cell (t := 29) (cs := cur) hh, ← cflat_get L i j hi hj, ← ht, List.getElem?_take, if_pos (by omega)]
   simp
  ·refine ⟨by rw [cflat_len], .inr ⟨g, cap, cur.setIfInBounds (i * 3 + j) u, by rw [List.length_set]; exact hv, hg, Has.put (t := 29) (cs := cur) hh (i * 3 + j) u, by rw [List.length_set]; exact hc, hcm, by simpa using hsz, ?_⟩⟩
   rw [List.length_set, ← cflat_set L i j u x hi hj hx, ← ht, Array.toList_setIfInBounds, List.take_set]
theorem findI_lt0 (L : List Cl) (s : ByteArray) : findI L s < L.length := by
 unfold findI; split <;> omega
def pool (i : Nat) : ByteArray := if i = 0 then ⟨#[105, 100]⟩ else if i = 1 then ⟨#[110, 97, 109, 101]⟩ else if i = 2 then ⟨#[110]⟩ else if i = 3 then ⟨#[102, 108, 97, 103]⟩ else if i = 4 then ⟨#[114, 97, 119]⟩ else ⟨#[120]⟩
theorem pool_name (i : Nat) : nameF (pool i) = true := by
 unfold pool
 split
 ·decide +kernel
 split
 ·decide +kernel
 split
 ·decide +kernel
 split
 ·decide +kernel
 split
 ·decide +kernel
 ·decide +kernel
def kind4 (k : Int) : Int := (if k < 0 then -(k + 1) else k) % 4
theorem kind4_range (k : Int) : 0 ≤ kind4 k ∧ kind4 k ≤ 3 := by unfold kind4; split <;> omega
theorem kind4_neg {k : Int} (h : k < 0) : -((k + 1).tmod 4) = kind4 k := by
 unfold kind4
 rw [if_pos h, ← Int.neg_tmod, Int.tmod_eq_emod_of_nonneg (by omega)]
theorem kind4_pos {k : Int} (h : ¬ k < 0) : k.tmod 4 = kind4 k := by
 unfold kind4
 rw [if_neg h, Int.tmod_eq_emod_of_nonneg (by omega)]
def gName (out : List Cl) (c : Cl) (i : Nat) : ByteArray := if nameF c.nm = true ∧ findI out c.nm < 0 then c.nm else pool i
def gStep (out : List Cl) (c : Cl) (i : Nat) : List Cl := if findI out (gName out c i) < 0 then out ++ [⟨gName out c i, 1 + kind4 c.k, c.no⟩] else out
def gTo (L : List Cl) : Nat → List Cl
 | 0 => []
 | k + 1 => match L[k]? with
   | some c => gStep (gTo L k) c k
   | none => gTo L k
theorem gTo_succ (L : List Cl) (k : Nat) (h : k < L.length) : gTo L (k + 1) = gStep (gTo L k) L[k] k := by
 have e : gTo L (k + 1) = match L[k]? with | some c => gStep (gTo L k) c k | none => gTo L k := rfl
 rw [e, List.getElem?_eq_getElem h]
def gOne : List Cl := [⟨⟨#[105, 100]⟩, 2, false⟩]
def gCols (L : List Cl) : List Cl := if (gTo L (min L.length 6)).length = 0 then gOne else gTo L (min L.length 6)
def absK (K : Int) : Int := if K < 0 then -(K + 1) else K
def gKeys (m : Nat) (K : Int) : Nat := (1 + absK K % (min m 3 : Nat)).toNat
def clr (M : List Cl) (k : Nat) : List Cl := (M.take k).map (fun c => ⟨c.nm, c.k, false⟩) ++ M.drop k
def gdC (L : List Cl) (K : Int) : List Cl := clr (gCols L) (gKeys (gCols L).length K)
def gdK (L : List Cl) (K : Int) : Nat := gKeys (gCols L).length K
theorem clr_zero (M : List Cl) : clr M 0 = M := by simp [clr]
theorem clr_len (M : List Cl) (k : Nat) : (clr M k).length = M.length := by simp [clr]; omega
theorem clr_get (M : List Cl) (k i : Nat) (h : i < M.length) : (clr M k)[i]'(by rw [clr_len]; exact h) = if i < k then ⟨M[i].nm, M[i].k, false⟩ else M[i] := by
 unfold clr
 by_cases hk : i < k
 ·rw [if_pos hk, List.getElem_append_left (by simp; omega)]
  simp
 ·rw [if_neg hk, List.getElem_append_right (by simp; omega)]
  simp only [List.getElem_drop, List.length_map, List.length_take]
  congr 1
  omega
theorem clr_set (M : List Cl) (k : Nat) (h : k < M.length) : (clr M k).set k ⟨M[k].nm, M[k].k, false⟩ = clr M (k + 1) := by
 apply List.ext_getElem
 ·rw [List.length_set, clr_len, clr_len]
 ·intro i h1 h2
  rw [List.length_set, clr_len] at h1
  rw [List.getElem_set, clr_get M (k + 1) i h1]
  by_cases e : k = i
  ·subst e; rw [if_pos rfl, if_pos (by omega)]
  ·rw [if_neg e, clr_get M k i h1]
   by_cases hk : i < k
   ·rw [if_pos hk, if_pos (by omega)]
   ·rw [if_neg hk, if_neg (by omega)]
theorem findI_neg {L : List Cl} {s : ByteArray} (h : findI L s < 0) (j : Nat) (hj : j < L.length) : (L[j].nm.toList == s.toList) = false := by
 unfold findI at h
 split at h
 ·omega
 ·rename_i hn
  have e : L.findIdx (fun c => c.nm.toList == s.toList) = L.length := by
   have := List.findIdx_le_length (p := fun c : Cl => c.nm.toList == s.toList) (xs := L)
   unfold findN at hn; omega
  exact List.findIdx_eq_length.1 e L[j] (List.getElem_mem hj)
theorem findI_first {L : List Cl} {i : Nat} (hi : i < L.length) (h : findI L L[i].nm = i) (j : Nat) (hj : j < i) : (L[j].nm.toList == L[i].nm.toList) = false := by
 cases hh : (L[j].nm.toList == L[i].nm.toList)
 ·rfl
 ·have := findI_early hj hi hh
  rw [h] at this; simp at this
def Cols (M : List Cl) : Prop := ∀ i (h : i < M.length), nameF M[i].nm = true ∧ findI M M[i].nm = i ∧ kindF M[i].k = true
theorem cols_snoc {M : List Cl} {x : Cl} (h : Cols M) (hn : nameF x.nm = true) (hf : findI M x.nm < 0) (hk : kindF x.k = true) : Cols (M ++ [x]) := by
 intro i hi
 by_cases hl : i < M.length
 ·rw [List.getElem_append_left hl]
  obtain ⟨h1, h2, h3⟩ := h i hl
  refine ⟨h1, ?_, h3⟩
  have e : (M ++ [x])[i].nm = M[i].nm := by rw [List.getElem_append_left hl]
  refine findI_at (by simp; omega) (by rw [e]; simp) fun j hj => ?_
  rw [List.getElem_append_left (by omega)]
  exact findI_first hl h2 j hj
 ·have e : i = M.length := by simp at hi; omega
  subst e
  rw [List.getElem_append_right (by omega)]
  simp only [Nat.sub_self, zC]
  refine ⟨hn, ?_, hk⟩
  refine findI_at (by simp) (by rw [List.getElem_append_right (by omega)]; simp) fun j hj => ?_
  rw [List.getElem_append_left hj]
  exact findI_neg hf j hj
theorem kind_ok (k : Int) : kindF (1 + kind4 k) = true := by
 have := kind4_range k
 simp [kindF]; omega
theorem gTo_cols (L : List Cl) : ∀ k, Cols (gTo L k) ∧ (gTo L k).length ≤ k
 | 0 => ⟨fun i h => absurd h (by simp [gTo]), by simp [gTo]⟩
 | k + 1 => by
   obtain ⟨h1, h2⟩ := gTo_cols L k
   unfold gTo
   cases L[k]? with
   | none => exact ⟨h1, by simp only; omega⟩
   | some c =>
     simp only
     unfold gStep
     split
     ·rename_i hf
      refine ⟨cols_snoc h1 ?_ hf (kind_ok _), by simp; omega⟩
      simp only
      unfold gName
      split
      ·rename_i hh; exact hh.1
      ·exact pool_name k
     ·exact ⟨h1, by omega⟩
theorem gOne_cols : Cols gOne := fun i h => by
 obtain rfl : i = 0 := by simp [gOne] at h; omega
 show nameF (⟨#[105, 100]⟩ : ByteArray) = true ∧ findI gOne ⟨#[105, 100]⟩ = (0 : Nat) ∧ kindF 2 = true
 exact ⟨by decide +kernel, by decide +kernel, by decide +kernel⟩
theorem gCols_cols (L : List Cl) : Cols (gCols L) ∧ 1 ≤ (gCols L).length ∧ (gCols L).length ≤ 6 := by
 have h := gTo_cols L (min L.length 6)
 unfold gCols
 split
 ·exact ⟨gOne_cols, by simp [gOne], by simp [gOne]⟩
 ·exact ⟨h.1, by omega, by omega⟩
theorem gKeys_range (m : Nat) (K : Int) (h : 1 ≤ m) : 1 ≤ gKeys m K ∧ gKeys m K ≤ m ∧ gKeys m K ≤ 3 := by
 unfold gKeys
 have h1 := Int.emod_nonneg (absK K) (b := ((min m 3 : Nat) : Int)) (by omega)
 have h2 := Int.emod_lt_of_pos (absK K) (b := ((min m 3 : Nat) : Int)) (by omega)
 omega
theorem findI_congr {L M : List Cl} (hl : L.length = M.length) (h : ∀ i (h1 : i < L.length) (h2 : i < M.length), L[i].nm = M[i].nm) (s : ByteArray) : findI L s = findI M s := by
 by_cases hh : findI M s < 0
 ·rw [findI_none (L := L) (s := s) fun j hj => by rw [h j hj (by omega)]; exact findI_neg hh j (by omega)]
  have := findI_neg hh
  rw [findI_none fun j hj => this j hj]
 ·have hlt := findI_lt0 M s
  obtain ⟨k, hk⟩ : ∃ k : Nat, findI M s = k := ⟨(findI M s).toNat, by omega⟩
  have hkl : k < M.length := by omega
  rw [hk]
  refine findI_at (by omega) ?_ fun j hj => ?_
  ·rw [h k (by omega) hkl]
   have : findN M s = k := by
    unfold findI at hk; split at hk <;> omega
   unfold findN at this
   have h3 := List.findIdx_getElem (p := fun c : Cl => c.nm.toList == s.toList) (xs := M) (w := by omega)
   simp only [this] at h3
   exact h3
  ·rw [h j (by omega) (by omega)]
   have : findN M s = k := by
    unfold findI at hk; split at hk <;> omega
   exact List.not_of_lt_findIdx (p := fun c : Cl => c.nm.toList == s.toList) (xs := M) (by unfold findN at this; omega)
theorem gd_get (L : List Cl) (K : Int) (i : Nat) (h : i < (gdC L K).length) (h' : i < (gCols L).length) : (gdC L K)[i] = if i < gdK L K then ⟨(gCols L)[i].nm, (gCols L)[i].k, false⟩ else (gCols L)[i] := clr_get _ _ _ h'
structure GoodS (M : List Cl) (k : Nat) : Prop where
 cols : Cols M
 len : 1 ≤ M.length ∧ M.length ≤ 6
 keys : 1 ≤ k ∧ k ≤ M.length ∧ k ≤ 3
 none : ∀ i (h : i < M.length), i < k → M[i].no = false
theorem goodS_is (L : List Cl) (K : Int) : GoodS (gdC L K) (gdK L K) := by
 obtain ⟨h1, h2, h3⟩ := gCols_cols L
 have hk := gKeys_range (gCols L).length K h2
 have hn : ∀ i (h1 : i < (gdC L K).length) (h2 : i < (gCols L).length), (gdC L K)[i].nm = (gCols L)[i].nm := fun i h h' => by
  rw [gd_get L K i h h']; split <;> rfl
 have hl : (gdC L K).length = (gCols L).length := clr_len _ _
 refine ⟨fun i h => ?_, by rw [hl]; exact ⟨h2, h3⟩, by rw [hl]; exact hk, fun i h hik => ?_⟩
 ·have h' : i < (gCols L).length := by omega
  obtain ⟨q1, q2, q3⟩ := h1 i h'
  rw [findI_congr hl hn, hn i h h']
  refine ⟨q1, q2, ?_⟩
  have e : (gdC L K)[i].k = (gCols L)[i].k := by rw [gd_get L K i h h']; split <;> rfl
  rw [e]; exact q3
 ·have h' : i < (gCols L).length := by omega
  rw [gd_get L K i h h', if_pos hik]
theorem goodS_may (M : List Cl) (k : Nat) (h : GoodS M k) : smayF M k = true := by
 have h1 := h.len
 have h2 := h.keys
 rw [smayF_yes h1.1 (by omega) (by omega) (by omega) (by omega)]
 unfold colsTo
 rw [List.all_eq_true]
 intro i hi
 have hi' : i < M.length := List.mem_range.1 hi
 obtain ⟨q1, q2, q3⟩ := h.cols i hi'
 rw [colOk_at M k i hi', q1, q2, q3]
 by_cases hk : i < k
 ·rw [h.none i hi' hk]; simp
 ·simp; omega
theorem goodS_fit (M : List Cl) (k : Nat) (h : GoodS M k) : ∀ x ∈ M, x.nm.size ≤ 32 ∧ 1 ≤ x.k ∧ x.k ≤ 4 ∧ x.fit := fun x hx => by
 obtain ⟨i, hi, rfl⟩ := List.getElem_of_mem hx
 obtain ⟨q1, q2, q3⟩ := h.cols i hi
 have hs := nameF_size q1
 have hk : 1 ≤ M[i].k ∧ M[i].k ≤ 4 := by simpa [kindF] using q3
 exact ⟨hs.2, hk.1, hk.2, by omega, by omega, by omega⟩
end Go.Proofs.YtnpmgempkoeapaaGreatDoor
