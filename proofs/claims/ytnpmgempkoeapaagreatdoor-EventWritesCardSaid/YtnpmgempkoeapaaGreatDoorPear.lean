/-
  Put together, as far as it is used: Qf.
-/
import Derived.Test.YtnpmgempkoeapaaGreatDoorPeaf
import Derived.Test.YtnpmgempkoeapaaGreatDoorPeaj
import Derived.Laws.ResultCell
set_option linter.unusedVariables false
set_option linter.unusedSimpArgs false
set_option linter.defProp false
namespace Go.Proofs.YtnpmgempkoeapaaGreatDoor
open Go.RowKit Dg
set_option maxHeartbeats 4000000 in
set_option maxRecDepth 100000 in
theorem rmay_any (A : Option Addr) (L : List Cl) (n c : Nat) (K : Int) (w : World) (hn : L.length = n) (hl : n ≤ 4398046511104) (hA : CRow w A L) :
 Calls Tryz.prog 48 #[.agg #[.slice A n c, .int .i64 K]] w fun e w' => e = .returned (.bool (smayF L K)) ∧ Hid (Below w.heap.size w w') := by
 have HN := Lib.hid hn
 have HA := Lib.hid hA
 have HB0 := Lib.hid ((Below.refl w.heap.size w).alloc (Nat.le_refl _) (.cells #[.slice A n c, .int .i64 K] 27))
 have HH0 := Lib.hid (Has.new w 27 #[.slice A n c, .int .i64 K])
 have HY := Lib.hid (@smayF_yes L K)
 have HNO := Lib.hid (@smayF_no L K)
 rw [hn] at HY HNO
 clear hn hA
 by_cases h1 : 1 ≤ n
 ·by_cases h2 : n ≤ 16
  ·by_cases h3 : 1 ≤ K
   ·by_cases h4 : K ≤ 4
    ·by_cases h5 : K ≤ n
     ·have HY2 := Lib.hid (HY.out h1 h2 h3 h4 h5)
      clear HY HNO
      go_enter Tryz.func48, Tryz.ntmps48
      go_wp2_with fail
      go_loopw [4] (fun i wr => ∃ k : Nat, k ≤ n ∧ i = .int .i64 k ∧ Hid (colsTo L K k = true) ∧ Hid (Below w.heap.size w wr) ∧ Hid (Has wr w.heap.size 27 #[.slice A n c, .int .i64 K])) (fun i _ => n - (intOf i).toNat)
      case atStart => exact ⟨0, by omega, rfl, rfl, HB0.out, HH0.out⟩
      case round =>
       obtain ⟨k, hk, rfl, HT, HB, HH⟩ := hrel
       by_cases hlt : k < n
       ·have hkl : k < L.length := by rw [HN.out]; exact hlt
        have HR := Lib.hid (HA.out.below HB.out)
        obtain ⟨b, off, rfl, hc⟩ := HR.out (by intro e; rw [e] at hkl; simp at hkl)
        obtain ⟨c0, c1, c2⟩ := hc k hkl
        have HFA := Lib.hid (colsTo_false L K k n hlt)
        have HT2 : Hid (colsTo L K (k + 1) = colOk L K k) := by show _ = _; rw [colsTo_succ, HT.out, Bool.true_and]
        have HOK := Lib.hid (colOk_at L K k hkl)
        have HFE : Hid (∀ j (hj : j < k), (L[j].nm.toList == L[k].nm.toList) = true → (findI L L[k].nm == (k : Int)) = false) := fun j hj he => findI_early hj hkl he
        have HFI : Hid ((∀ j (hj : j < k), (L[j].nm.toList == L[k].nm.toList) = false) → findI L L[k].nm = (k : Int)) := fun h => findI_at hkl (by simp) h
        generalize hxa : L[k].nm = xa at *
        generalize L[k].k = xb at *
        generalize L[k].no = xc at *
        generalize colOk L K k = ok at *
        have HW : Hid (Below w.heap.size w (wr.alloc (.cells #[.string xa, .int .i64 xb, .bool xc] 29))) := HB.out.alloc HB.out.size _
        have HR1 : Hid (CRow (wr.alloc (.cells #[.string xa, .int .i64 xb, .bool xc] 29)) (some ⟨b, off, none⟩) L) := HR.out.below ((Below.refl _ wr).alloc (Nat.le_refl _) _)
        have HX : Hid (Has (wr.alloc (.cells #[.string xa, .int .i64 xb, .bool xc] 29)) wr.heap.size 29 #[.string xa, .int .i64 xb, .bool xc]) := Has.new _ _ _
        have HH1 : Hid (Has (wr.alloc (.cells #[.string xa, .int .i64 xb, .bool xc] 29)) w.heap.size 27 #[.slice (some ⟨b, off, none⟩) n c, .int .i64 K]) := HH.out.alloc _
        have a0 := HH.out.cell 0
        have a1 := HH.out.cell 1
        simp at a0 a1
        clear hc HR hxa
        go_wp2_with fail
        refine (refName_any xa _).mono ?_
        rintro e w1 ⟨rfl, rfl⟩
        clear c0 c1 c2 a0 a1
        obtain ⟨w1, hw1⟩ : ∃ w1, w1 = wr.alloc (.cells #[.string xa, .int .i64 xb, .bool xc] 29) := ⟨_, rfl⟩
        rw [← hw1] at HW HR1 HX HH1 ⊢
        have hzz : wr.heap.size < w1.heap.size := by rw [hw1]; simp
        clear hw1
        have a0 := HH1.out.cell 0
        have a1 := HH1.out.cell 1
        have c0 := HX.out.cell 0
        have c1 := HX.out.cell 1
        have c2 := HX.out.cell 2
        simp at a0 a1 c0 c1 c2
        generalize nameF xa = q1 at *
        cases q1
        ·have HO : Hid (ok = false) := by show _ = _; rw [HOK.out]; simp
         go_wp2_with fail
         go_ret
         exact ⟨by rw [HY2.out, HFA.out HO.out]; rfl, HW⟩
        ·by_cases hb1 : 1 ≤ xb
         ·by_cases hb2 : xb ≤ 4
          ·have hkd : kindF xb = true := by simp [kindF, hb1, hb2]
           rw [hkd] at HOK
           clear hkd
           by_cases hno : xc = true ∧ (k : Int) < K
           ·obtain ⟨rfl, hkk⟩ := hno
            have HO : Hid (ok = false) := by show _ = _; rw [HOK.out]; simp; omega
            go_wp2_with fail
            go_ret
            exact ⟨by rw [HY2.out, HFA.out HO.out]; rfl, HW⟩
           ·have HNOB : Hid ((xc && decide ((k : Int) < K)) = false) := by
             show _ = _
             cases xc
             ·rfl
             ·simp at hno ⊢; omega
            have hkk : (xc = false ∧ (k : Int) < K) ∨ ¬ (k : Int) < K := by
             by_cases hh : (k : Int) < K
             ·left
              cases xc
              ·exact ⟨rfl, hh⟩
              ·exact absurd ⟨rfl, hh⟩ hno
             ·exact .inr hh
            clear hno
            rcases hkk with ⟨rfl, hkk⟩ | hkk
            all_goals
             go_wp2_with fail
             go_loopw [7] (fun i wq => ∃ j : Nat, j ≤ k ∧ i = .int .i64 j ∧ Hid (∀ j' (hj' : j' < j) (hl' : j' < L.length), (L[j'].nm.toList == xa.toList) = false) ∧ Hid (Below w1.heap.size w1 wq)) (fun i _ => k - (intOf i).toNat)
             case atStart => exact ⟨0, by omega, rfl, (fun j hj => absurd hj (by omega)), Below.refl _ _⟩
             case round =>
              obtain ⟨j, hj, rfl, HNE, HBQ⟩ := hrel
              have HBW := Lib.hid (HW.out.trans (HBQ.out.mono HW.out.size))
              by_cases hjk : j < k
              ·have hjl : j < L.length := by omega
               obtain ⟨b', off', hbe, hc⟩ := (HR1.out.below HBQ.out) (by intro e; rw [e] at hkl; simp at hkl)
               injection hbe with hbe
               injection hbe with hb1' hb2'
               subst hb1' hb2'
               obtain ⟨d0, d1, d2⟩ := hc j hjl
               have e0 := (HH1.out.below HBQ.out HH1.out.lt).cell 0
               have f0 := (HX.out.below HBQ.out HX.out.lt).cell 0
               simp at e0 f0
               have HEJ := Lib.hid (HFE.out j hjk)
               have HNX : Hid ((L[j].nm.toList == xa.toList) = false → ∀ j' (hj' : j' < j + 1) (hl' : j' < L.length), (L[j'].nm.toList == xa.toList) = false) := fun he j' hj' hl' => by
                by_cases e : j' = j
                ·subst e; exact he
                ·exact HNE.out j' (by omega) hl'
               generalize L[j].nm = ya at *
               clear hc d1 d2 a0 a1 c0 c1 c2
               have hjz : (j : Int) < (n : Int) := by omega
               have hj0 : (0 : Int) ≤ (j : Int) := by omega
               cases hq : (ya.toList == xa.toList)
               ·go_wp2_with fail
                go_region
                all_goals
                 go_wp2_with fail
                 go_roundw
                 case rel => exact ⟨j + 1, by omega, by go_num, HNX.out hq, HBQ.out.drew⟩
                 case measure => simp [intOf]; omega
               ·have HO : Hid (ok = false) := by show _ = _; rw [HOK.out, HEJ.out hq]; simp
                go_wp2_with fail
                go_region
                all_goals
                 go_wp2_with fail
                 go_ret
                 exact ⟨by rw [HY2.out, HFA.out HO.out]; rfl, HBW.out.drew⟩
              ·obtain rfl : j = k := by omega
               have HO : Hid (ok = true) := by show _ = _; rw [HOK.out, HFI.out (fun j' hj' => HNE.out j' hj' (by omega)), HNOB.out]; simp
               go_wp2_with fail
               go_roundw
               case rel => exact ⟨j + 1, by omega, by go_num, by rw [HT2.out]; exact HO, HBW, HH1.out.below HBQ.out HH1.out.lt⟩
               case measure => simp [intOf]; omega
          ·have HO : Hid (ok = false) := by show _ = _; rw [HOK.out, show kindF xb = false by simp [kindF]; omega]; simp
           have hb2' : 4 < xb := by omega
           go_wp2_with fail
           go_ret
           exact ⟨by rw [HY2.out, HFA.out HO.out]; rfl, HW⟩
         ·have HO : Hid (ok = false) := by show _ = _; rw [HOK.out, show kindF xb = false by simp [kindF]; omega]; simp
          have hb1' : xb < 1 := by omega
          go_wp2_with fail
          go_ret
          exact ⟨by rw [HY2.out, HFA.out HO.out]; rfl, HW⟩
       ·obtain rfl : k = n := by omega
        have a0 := HH.out.cell 0
        have a1 := HH.out.cell 1
        simp at a0 a1
        go_wp2_with fail
        go_ret
        exact ⟨by rw [HY2.out, HT.out]; rfl, HB⟩
     ·have HO := Lib.hid (HNO.out (by omega))
      clear HY HNO
      have h5' : (n : Int) < K := by omega
      go_enter Tryz.func48, Tryz.ntmps48
      go_wp2_with fail
      go_ret
      exact ⟨by rw [HO.out]; rfl, HB0⟩
    ·have HO := Lib.hid (HNO.out (by omega))
     clear HY HNO
     have h4' : 4 < K := by omega
     go_enter Tryz.func48, Tryz.ntmps48
     go_wp2_with fail
     go_ret
     exact ⟨by rw [HO.out]; rfl, HB0⟩
   ·have HO := Lib.hid (HNO.out (by omega))
    clear HY HNO
    have h3' : K < 1 := by omega
    go_enter Tryz.func48, Tryz.ntmps48
    go_wp2_with fail
    go_ret
    exact ⟨by rw [HO.out]; rfl, HB0⟩
  ·have HO := Lib.hid (HNO.out (by omega))
   clear HY HNO
   have h2' : 16 < (n : Int) := by omega
   go_enter Tryz.func48, Tryz.ntmps48
   go_wp2_with fail
   go_ret
   exact ⟨by rw [HO.out]; rfl, HB0⟩
 ·have HO := Lib.hid (HNO.out (by omega))
  clear HY HNO
  have h1' : (n : Int) < 1 := by omega
  go_enter Tryz.func48, Tryz.ntmps48
  go_wp2_with fail
  go_ret
  exact ⟨by rw [HO.out]; rfl, HB0⟩
set_option maxRecDepth 100000
structure Tb where
 nm : ByteArray
 A : Option Addr
 n : Nat
 c : Nat
 L : List Cl
 K : Int
def TRow (w : World) (A : Option Addr) (T : List Tb) : Prop :=
 T ≠ [] → ∃ b off, A = some ⟨b, off, none⟩ ∧ ∀ i (h : i < T.length), w.cell? ⟨b, off + i * 3, none⟩ = some (.string T[i].nm) ∧ w.cell? ⟨b, off + i * 3 + 1, none⟩ = some (.slice T[i].A T[i].n T[i].c) ∧ w.cell? ⟨b, off + i * 3 + 2, none⟩ = some (.int .i64 T[i].K)
def TIn (w : World) (T : List Tb) : Prop := ∀ x ∈ T, x.L.length = x.n ∧ x.n ≤ x.c ∧ x.c ≤ maxLen ∧ CRow w x.A x.L
theorem TRow.below {w w' : World} {A : Option Addr} {T : List Tb} (h : TRow w A T) (hb : Below w.heap.size w w') : TRow w' A T := fun hne => by
 obtain ⟨b, off, e, hc⟩ := h hne
 have k := fun (a : Addr) (v : Value) (h : w.cell? a = some v) => (hb.cell (World.block_lt_of_cell? _ _ h)).trans h
 exact ⟨b, off, e, fun i hi => ⟨k _ _ (hc i hi).1, k _ _ (hc i hi).2.1, k _ _ (hc i hi).2.2⟩⟩
theorem TIn.below {w w' : World} {T : List Tb} (h : TIn w T) (hb : Below w.heap.size w w') : TIn w' T := fun x hx =>
 ⟨(h x hx).1, (h x hx).2.1, (h x hx).2.2.1, (h x hx).2.2.2.below hb⟩
def tatN (T : List Tb) (s : ByteArray) : Nat := T.findIdx fun x => x.nm.toList == s.toList
def tatI (T : List Tb) (s : ByteArray) : Int := if tatN T s < T.length then (tatN T s : Int) else -1
theorem tatN_at {T : List Tb} {s : ByteArray} {k : Nat} (h : k < T.length) (he : (T[k].nm.toList == s.toList) = true) (hb : ∀ j (hj : j < k), (T[j].nm.toList == s.toList) = false) : tatN T s = k := by
 unfold tatN
 rw [List.findIdx_eq h]
 exact ⟨he, fun j hj => hb j hj⟩
theorem tatI_at {T : List Tb} {s : ByteArray} {k : Nat} (h : k < T.length) (he : (T[k].nm.toList == s.toList) = true) (hb : ∀ j (hj : j < k), (T[j].nm.toList == s.toList) = false) : tatI T s = k := by
 unfold tatI; rw [tatN_at h he hb, if_pos h]
theorem tatI_none {T : List Tb} {s : ByteArray} (hb : ∀ j (hj : j < T.length), (T[j].nm.toList == s.toList) = false) : tatI T s = -1 := by
 unfold tatI
 rw [if_neg]
 unfold tatN
 have : T.findIdx (fun x => x.nm.toList == s.toList) = T.length := List.findIdx_eq_length.2 fun x hx => by
  obtain ⟨j, hj, rfl⟩ := List.getElem_of_mem hx
  exact hb j hj
 omega
set_option maxHeartbeats 2000000 in
theorem at_any (A : Option Addr) (T : List Tb) (n c : Nat) (s : ByteArray) (w : World) (hn : T.length = n) (hl : n ≤ 1000) (hA : TRow w A T) :
 Calls Tryz.prog 47 #[.slice A n c, .string s] w fun e w' => e = .returned (.int .i64 (tatI T s)) ∧ w' = w := by
 have HN := Lib.hid hn
 have HA := Lib.hid hA
 clear hn hA
 go_enter Tryz.func47, Tryz.ntmps47
 go_wp2_with fail
 go_loopw [5] (fun i wr => ∃ k : Nat, k ≤ n ∧ i = .int .i64 k ∧ Hid (∀ j (hj : j < k) (hj2 : j < T.length), (T[j].nm.toList == s.toList) = false) ∧ wr = w) (fun i _ => n - (intOf i).toNat)
 case atStart => exact ⟨0, by omega, rfl, (fun j hj => absurd hj (by omega)), rfl⟩
 case round =>
  obtain ⟨k, hk, rfl, HF, rfl⟩ := hrel
  by_cases hlt : k < n
  ·have hkl : k < T.length := by rw [HN.out]; exact hlt
   obtain ⟨b, off, rfl, hc⟩ := HA.out (by intro e; rw [e] at hkl; simp at hkl)
   obtain ⟨c0, c1, c2⟩ := hc k hkl
   have HAT := Lib.hid (fun he => tatI_at (s := s) hkl he (fun j hj => HF.out j hj (by omega)))
   have HNX : Hid ((T[k].nm.toList == s.toList) = false → ∀ j (hj : j < k + 1) (hj2 : j < T.length), (T[j].nm.toList == s.toList) = false) := fun he j hj hj2 => by
    by_cases e : j = k
    ·subst e; exact he
    ·exact HF.out j (by omega) hj2
   clear hc c1 c2
   generalize T[k].nm = xa at *
   have hkz : (k : Int) < (n : Int) := by omega
   cases q : (xa.toList == s.toList)
   ·go_wp2_with fail
    go_roundw
    case rel => exact ⟨k + 1, by omega, by go_num, HNX.out q, by trivial⟩
    case measure => simp [intOf]; omega
   ·go_wp2_with fail
    go_ret
    exact ⟨by rw [HAT.out q]; rfl, by trivial⟩
  ·obtain rfl : k = n := by omega
   have HF2 := Lib.hid (tatI_none (T := T) (s := s) (fun j hj => HF.out j (by rw [← HN.out]; exact hj) hj))
   go_wp2_with fail
   go_ret
   exact ⟨by rw [HF2.out]; rfl, by trivial⟩
def tfV (T : List Tb) (s : ByteArray) : Value := match T[tatN T s]? with
 | some x => .tuple #[.agg #[.slice x.A x.n x.c, .int .i64 x.K], .bool true]
 | none => .tuple #[.agg #[.slice none 0 0, .int .i64 0], .bool false]
theorem schEnd6 {fn : Func} {p u : Tmp} (h : fn.results = #[.cell p 27, .tmp u]) (w' : World) (g : Nat) (c0 c1 : Value) (tmps : Array Value) (hp : tmps.getD p undef = .pointer (some ⟨g, 0, none⟩)) (hh : Has w' g 27 #[c0, c1]) :
 (results fn tmps).run Tryz.prog w' = .ok (.tuple #[.agg #[c0, c1], tmps.getD u undef]) w' := by
 rw [results_cell_tmp h, hp]
 simp only [asAddr, Sem.run_pure, Result.andThen_ok]
 rw [run_loadVar_row w' g 27 27 #[c0, c1] (0, 0) _ hh Tryz.underlying27 rfl (by kernel_rfl)]
 rfl
set_option maxHeartbeats 2000000 in
theorem find6_any (A : Option Addr) (T : List Tb) (n c : Nat) (s : ByteArray) (w : World) (hn : T.length = n) (hl : n ≤ 1000) (hA : TRow w A T) :
 Calls Tryz.prog 21 #[.slice A n c, .string s] w fun e w' => e = .returned (tfV T s) ∧ Hid (Below w.heap.size w w') := by
 have HB := Lib.hid ((Below.refl w.heap.size w).alloc (Nat.le_refl _) (.cells #[.slice none 0 0, .int .i64 0] 27))
 have HC := Lib.hid (at_any A T n c s _ hn hl (hA.below HB.out))
 have HN := Lib.hid hn
 have HA := Lib.hid (hA.below HB.out)
 have HG := Lib.hid (Has.new w 27 #[.slice none 0 0, .int .i64 0])
 have g0 := HG.out.cell 0
 have g1 := HG.out.cell 1
 have f0 := HG.out.free 0
 have f1 := HG.out.free 1
 simp at g0 g1
 clear hn hA
 go_enter Tryz.func21, Tryz.ntmps21
 go_wp2_with fail
 refine HC.out.mono ?_
 rintro e w1 ⟨rfl, rfl⟩
 by_cases hk : tatN T s < T.length
 ·obtain ⟨k, hkk⟩ : ∃ k, tatN T s = k := ⟨_, rfl⟩
  have hTI : tatI T s = (k : Int) := by unfold tatI; rw [if_pos hk, hkk]
  rw [hTI]
  rw [hkk] at hk
  have HV : Hid (tfV T s = .tuple #[.agg #[.slice T[k].A T[k].n T[k].c, .int .i64 T[k].K], .bool true]) := by
   show _ = _
   unfold tfV
   rw [hkk, List.getElem?_eq_getElem hk]
  obtain ⟨b, off, rfl, hc⟩ := HA.out (by intro e; rw [e] at hk; simp at hk)
  obtain ⟨c0, c1, c2⟩ := hc k hk
  have hkz : (k : Int) < (n : Int) := by rw [← HN.out]; omega
  clear hTI hkk hc HC c0 HN
  generalize T[k] = x at *
  obtain ⟨xs, xA, xn, xc, xL, xK⟩ := x
  simp only at c1 c2 HV
  clear HG g0 g1 f0 f1
  go_wp2_with fail
  exact bodyPost_ret (schEnd6 rfl _ w.heap.size _ _ _ rfl (Has.new w 27 #[.slice xA xn xc, .int .i64 xK])) rfl ⟨by rw [HV.out]; rfl, (Below.refl w.heap.size w).alloc (Nat.le_refl _) _⟩
 ·have hTI : tatI T s = -1 := by unfold tatI; rw [if_neg hk]
  rw [hTI]
  have HV : Hid (tfV T s = .tuple #[.agg #[.slice none 0 0, .int .i64 0], .bool false]) := by
   show _ = _
   unfold tfV
   rw [List.getElem?_eq_none (by omega)]
  clear hTI hk HC
  go_wp2_with fail
  exact bodyPost_ret (schEnd6 rfl _ w.heap.size _ _ _ rfl HG.out) rfl ⟨by rw [HV.out]; rfl, HB⟩
set_option maxHeartbeats 1000000 in
theorem rmay_all (A : Option Addr) (L : List Cl) (n c : Nat) (K : Int) (w : World) (hn : L.length = n) (hA : CRow w A L) :
 Calls Tryz.prog 48 #[.agg #[.slice A n c, .int .i64 K]] w fun e w' => e = .returned (.bool (smayF L K)) ∧ Hid (Below w.heap.size w w') := by
 by_cases hl : n ≤ 1000
 ·exact rmay_any A L n c K w hn (by omega) hA
 ·have HB0 := Lib.hid ((Below.refl w.heap.size w).alloc (Nat.le_refl _) (.cells #[.slice A n c, .int .i64 K] 27))
  have HNO := Lib.hid (@smayF_no L K (by omega))
  have h1 : ¬ ((n : Int) < 1) := by omega
  have h2 : 16 < (n : Int) := by omega
  clear hn hA hl
  go_enter Tryz.func48, Tryz.ntmps48
  go_wp2_with fail
  go_ret
  exact ⟨by rw [HNO.out]; rfl, HB0⟩
end Go.Proofs.YtnpmgempkoeapaaGreatDoor
