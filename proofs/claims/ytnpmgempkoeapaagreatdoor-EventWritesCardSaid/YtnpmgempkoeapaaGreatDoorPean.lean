/-
  Put together, as far as it is used: ImgW.
-/
import Derived.Test.YtnpmgempkoeapaaGreatDoorPeam
import Derived.Deep.RegionHeld3
set_option linter.unusedVariables false
set_option linter.unusedSimpArgs false
set_option linter.defProp false
namespace Go.Proofs.YtnpmgempkoeapaaGreatDoor
open Go.RowKit Dg
theorem own_set {B : Nat} {w : World} {g n c : Nat} {l : List Nat} (h : Own B w (.slice (some ⟨g, 0, none⟩) n c) l) (i y : Nat) : Own B (w.setCell ⟨g, i, none⟩ (.int .u8 (y : Nat))) (.slice (some ⟨g, 0, none⟩) n c) (l.set i y) := by
 obtain ⟨h1, h2⟩ := h
 rcases h2 with ⟨h2, _⟩ | ⟨g', cap, cur, e, hg, hh, hc, hm, hs, ht⟩
 ·cases h2
 ·injection e with e1 e2 e3
  injection e1 with e1
  injection e1 with e1
  subst e1; subst e2; subst e3
  refine ⟨by rw [List.length_set, ← h1]; simp, .inr ⟨g, c, cur.setIfInBounds i (.int .u8 (y : Nat)), by rw [List.length_set], hg, heap_setCell_same w g i cur 5 _ hh, by rw [List.length_set]; exact hc, hm, by simpa using hs, ?_⟩⟩
  rw [List.length_set]
  have hb : bv y = Value.int .u8 (y : Nat) := rfl
  rw [List.map_set, ← ht, hb, Array.toList_setIfInBounds, List.take_set]
theorem own_cell {B : Nat} {w : World} {g n c : Nat} {l : List Nat} (h : Own B w (.slice (some ⟨g, 0, none⟩) n c) l) (i : Nat) (hi : i < l.length) : w.cell? ⟨g, i, none⟩ = some (.int .u8 (l[i] : Nat)) ∧ w.frozen? ⟨g, i, none⟩ = false := by
 obtain ⟨h1, h2⟩ := h
 rcases h2 with ⟨h2, _⟩ | ⟨g', cap, cur, e, hg, hh, hc, hm, hs, ht⟩
 ·cases h2
 ·injection e with e1 e2 e3
  injection e1 with e1
  injection e1 with e1
  subst e1
  refine ⟨?_, frozen_of_row w g i cur 5 hh⟩
  rw [cell_of_row w g i cur 5 _ hh]
  have h1 : (l.map bv)[i]? = some (bv l[i]) := by simp [hi]
  rw [← ht, List.getElem?_take, if_pos (by omega)] at h1
  simpa [bv] using h1
theorem own_some {B : Nat} {w : World} {v : Value} {x : Nat} {l : List Nat} (h : Own B w v (x :: l)) : ∃ g n c, v = .slice (some ⟨g, 0, none⟩) n c ∧ n = l.length + 1 ∧ n ≤ c ∧ B ≤ g := by
 rcases h.2 with ⟨_, hn⟩ | ⟨g, cap, cur, hv, hg, _, hc, _, _, _⟩
 ·simp at hn
 ·exact ⟨g, _, cap, hv, by simp, by simpa using hc, hg⟩
theorem parts2 (W : World) (A A2 : Option Addr) (l m : List Nat) (n c k d : Nat) (hn : l.length = n) (hk : m.length = k) (h1 : Rd W A l) (h2 : Rd W A2 m) (z1 : A = none → c = 0) (z2 : A2 = none → d = 0) :
 Parts (W.alloc (.cells #[.slice A n c, .slice A2 k d] 37)) W.heap.size [(A, l, c), (A2, m, d)] := by
 subst hn hk
 have hb : Below W.heap.size W (W.alloc (.cells #[.slice A l.length c, .slice A2 m.length d] 37)) := (Below.refl _ _).alloc (Nat.le_refl _) _
 have hc := Has.new W 37 #[.slice A l.length c, .slice A2 m.length d]
 intro i hi
 have hi' : i = 0 ∨ i = 1 := by simp at hi; omega
 rcases hi' with rfl | rfl
 ·exact ⟨by rw [hc.cell]; rfl, h1.below hb, z1⟩
 ·exact ⟨by rw [hc.cell]; rfl, h2.below hb, z2⟩
theorem cat2 (A A2 : Option Addr) (l m : List Nat) (c d : Nat) : cat [(A, l, c), (A2, m, d)] 2 = l ++ m := by simp [cat]
theorem two_any (W : World) (w : World) (hb : Below w.heap.size w W) (A A2 : Option Addr) (l m : List Nat) (n c k d : Nat) (hn : l.length = n) (hk : m.length = k) (h1 : Rd W A l) (h2 : Rd W A2 m) (z1 : A = none → c = 0) (z2 : A2 = none → d = 0) (hs : n + k ≤ 100000) :
 Calls Tryz.prog 58 #[.slice (some ⟨W.heap.size, 0, none⟩) 2 2] (W.alloc (.cells #[.slice A n c, .slice A2 k d] 37)) fun e w' => ∃ v, e = .returned v ∧ Hid (Own w.heap.size w' v (l ++ m)) ∧ Hid (Below w.heap.size w w') := by
 have hP := parts2 W A A2 l m n c k d hn hk h1 h2 z1 z2
 have hC := concat_any W.heap.size _ 2 2 _ rfl (by omega) hP (by rw [cat2, List.length_append, hn, hk]; omega)
 rw [cat2] at hC
 have hB : Below w.heap.size w (W.alloc (.cells #[.slice A n c, .slice A2 k d] 37)) := hb.alloc hb.size _
 exact hC.mono fun e w' ⟨v, he, hv, hb3⟩ => ⟨v, he, own_down hv hB.size, hB.trans (hb3.mono hB.size)⟩
theorem own_lit {B g : Nat} {w : World} {ds : List Nat} (h : Has w g 5 (ds.map bv).toArray) (hB : B ≤ g) (hl : ds.length ≤ 1000) (hp : 0 < ds.length) : Own B w (.slice (some ⟨g, 0, none⟩) ds.length ds.length) ds := by
 refine ⟨by simp, .inr ⟨g, ds.length, (ds.map bv).toArray, rfl, hB, h, Nat.le_refl _, by unfold maxLen; omega, by simp, ?_⟩⟩
 simp only
 rw [List.take_of_length_le (by simp)]
theorem nbits_snoc : ∀ (R : List Vl) (v : Vl), nbits (R ++ [v]) = nbits R + (if v.k = 0 then 2 ^ R.length else 0)
 | [], v => by simp [nbits]
 | x :: R, v => by
   simp only [List.cons_append, nbits, nbits_snoc R v, List.length_cons]
   split <;> split <;> omega
theorem nbits_lt : ∀ (R : List Vl), nbits R < 2 ^ R.length
 | [] => by simp [nbits]
 | x :: R => by
   have := nbits_lt R
   simp only [nbits, List.length_cons, Nat.pow_succ]
   split <;> omega
theorem imgF_snoc (R : List Vl) (v : Vl) : imgF (R ++ [v]) = (imgF R).set 0 (nbits R + (if v.k = 0 then 2 ^ R.length else 0)) ++ plB v := by
 unfold imgF; rw [nbits_snoc, List.flatMap_append]; simp
theorem or_tab : ∀ x : Fin 256, ∀ k : Fin 8, bits .or .u8 (x.val : Int) ((2 ^ k.val : Nat) : Int) = ((x.val ||| 2 ^ k.val : Nat) : Int) := by decide +kernel
theorem or_bit (x k : Nat) (hx : x < 2 ^ k) (hk : k < 8) : bits .or .u8 (x : Int) ((2 ^ k : Nat) : Int) = ((x + 2 ^ k : Nat) : Int) := by
 have h1 : 2 ^ k ≤ 128 := by
  have : k ≤ 7 := by omega
  calc 2 ^ k ≤ 2 ^ 7 := Nat.pow_le_pow_right (by omega) this
   _ = 128 := rfl
 have h2 : x ||| 2 ^ k = x + 2 ^ k := by
  have h := Nat.two_pow_add_eq_or_of_lt hx 1
  rw [Nat.mul_one] at h
  rw [Nat.or_comm, ← h]; omega
 have h3 : x < 256 := Nat.lt_of_lt_of_le hx (by omega)
 have h4 := or_tab ⟨x, h3⟩ ⟨k, hk⟩
 simp only at h4
 rw [h4, h2]
theorem plb_len : ∀ (R : List Vl), (∀ x ∈ R, (plB x).length ≤ 1020) → (R.flatMap plB).length ≤ 1020 * R.length
 | [], _ => by simp
 | x :: R, h => by
   rw [List.flatMap_cons, List.length_append, List.length_cons]
   have := plb_len R (fun y hy => h y (by simp [hy]))
   have := h x (by simp)
   omega
theorem plB_len (x : Vl) (h : x.s.size ≤ 1000) (h0 : -9223372036854775808 ≤ x.n) (h1 : x.n ≤ 9223372036854775807) : (plB x).length ≤ 1020 := by
 unfold plB
 split
 ·simp
 ·split
  ·have := digs_le_ten (zig x.n) (zig_lt x.n h0 h1); omega
  ·split
   ·unfold txt; rw [List.length_append, sb_length]; have := digs_le_ten x.s.size (by omega); omega
   ·simp
theorem own_openZ {B : Nat} {w : World} {v : Value} {l : List Nat} (h : Own B w v l) : ∃ A n c, v = .slice A n c ∧ Hid (l.length = n) ∧ n ≤ c ∧ Hid (Rd w A l) ∧ Hid (A = none → c = 0) := by
 rcases h.2 with ⟨hv, hn⟩ | ⟨g, cap, cur, hv, _, hh, hc, hm, _, ht⟩
 ·obtain rfl := List.eq_nil_of_length_eq_zero hn
  exact ⟨none, 0, 0, hv, rfl, Nat.le_refl _, Rd.nil _ _, fun _ => rfl⟩
 ·subst hv
  exact ⟨_, _, _, rfl, rfl, hc, Rd.of_has (t := 5) (cs := cur) hh fun i hi => by
   have h1 : (l.map bv)[i]? = some (bv l[i]) := by simp [hi]
   rw [← ht, List.getElem?_take, if_pos (by omega)] at h1
   simpa using h1, fun e => by cases e⟩
theorem imgF_same (R : List Vl) : (imgF R).set 0 (nbits R) = imgF R := by unfold imgF; simp
set_option maxHeartbeats 4000000 in
set_option maxRecDepth 100000 in
theorem write_any (Ab : Option Addr) (lb : List Nat) (nb cb : Nat) (A : Option Addr) (n c : Nat) (K : Int) (Ar : Option Addr) (R : List Vl) (nr cr m : Nat) (w : World) (hb : lb.length = nb) (hbl : nb ≤ 1000) (hbb : Rd w Ab lb) (hz : Ab = none → cb = 0) (hm : min n nr = m) (h1 : 1 ≤ m) (h8 : m ≤ 8) (_hn9 : n ≤ 1000) (hnr : R.length = nr) (hncr : nr ≤ cr) (_hcm : nr ≤ 1000) (hR : VRow w Ar R) (hmay : ∀ x ∈ R, x.may = true) (hfit : ∀ x ∈ R, x.fits) (hsz : ∀ x ∈ R, x.s.size ≤ 1000) :
 Calls Tryz.prog 25 #[.slice Ab nb cb, .agg #[.slice A n c, .int .i64 K], .slice Ar nr cr] w fun e w' => ∃ v, e = .returned v ∧ Hid (Own w.heap.size w' v (lb ++ imgF (R.take m))) ∧ Hid (Below w.heap.size w w') := by
 have HLB := Lib.hid hb
 have HBB := Lib.hid hbb
 have HZ := Lib.hid hz
 have HNR := Lib.hid hnr
 have HR := Lib.hid hR
 have HMY := Lib.hid hmay
 have HFT := Lib.hid hfit
 have HSZ := Lib.hid hsz
 have hmr : m ≤ nr := by omega
 have HB0 := Lib.hid ((Below.refl w.heap.size w).alloc (Nat.le_refl _) (.cells #[.slice A n c, .int .i64 K] 27))
 have hmin : ∀ ts t W, Sem.run Tryz.prog (Builtin.min_ ts t #[.int .i64 n, .int .i64 nr]) W = .ok (.int .i64 (m : Nat)) W := fun ts t W => by
  rw [run_min_int2]
  congr 2
  split <;> omega
 have hz0 : (0 : Int) ≤ (m : Int) := by omega
 have hz1 : (m : Int) ≤ (cr : Int) := by omega
 have HMK : Hid (Sem.run Tryz.prog (Instr.makeSlice 37 (.int .i64 1) (.int .i64 1)) (w.alloc (.cells #[.slice A n c, .int .i64 K] 27)) = .ok (.slice (some ⟨w.heap.size + 1, 0, none⟩) 1 1) ((w.alloc (.cells #[.slice A n c, .int .i64 K] 27)).alloc (.cells #[.int .u8 0] 5))) := by
  obtain ⟨i0, hi, hz0, hz1, hz2⟩ := info_parts info5
  have h := run_make (P := Tryz.prog) (w.alloc (.cells #[.slice A n c, .int .i64 K] 27)) 37 5 i0 (.int .u8 0) Tryz.underlying37 hi hz0 .i64 .i64 1 1 (by omega) (by omega) (by rw [hz2]; omega) (by omega)
  have e : madeCells (Value.int .u8 0).cells ((1 : Int).toNat * i0.size) = #[.int .u8 0] := by
   rw [hz1, show (1 : Int).toNat = 1 from rfl, arr_zero 0 1]
   rfl
  rw [e] at h
  rw [show (w.alloc (.cells #[.slice A n c, .int .i64 K] 27)).heap.size = w.heap.size + 1 by simp] at h
  exact h
 clear hb hbb hz hnr hR hmay hfit hsz hm
 go_enter Tryz.func25, Tryz.ntmps25
 go_wp2_with fail
 refine (eighths_any m _ h1 h8).mono ?_
 rintro e w' ⟨rfl, hw⟩
 subst hw
 clear hmin
 go_wp2_with fail
 rw [HMK.out]
 have HB1 := Lib.hid (HB0.out.alloc HB0.out.size (.cells #[.int .u8 0] 5))
 have ho := own_lit (B := w.heap.size + 1) (ds := [0]) (Has.new (w.alloc (.cells #[.slice A n c, .int .i64 K] 27)) 5 #[.int .u8 0]) (by simp) (by simp) (by simp)
 rw [show (w.alloc (.cells #[.slice A n c, .int .i64 K] 27)).heap.size = w.heap.size + 1 by simp] at ho
 have HO1 : Hid (Own (w.heap.size + 1) ((w.alloc (.cells #[.slice A n c, .int .i64 K] 27)).alloc (.cells #[.int .u8 0] 5)) (.slice (some ⟨w.heap.size + 1, 0, none⟩) 1 1) (imgF (R.take 0))) := ho
 have HZ1 : Hid (w.heap.size + 1 ≤ ((w.alloc (.cells #[.slice A n c, .int .i64 K] 27)).alloc (.cells #[.int .u8 0] 5)).heap.size) := by show _ ≤ _; simp
 clear ho HMK
 go_wp2_with fail
 go_loopw [8, 24] (fun x i wr => ∃ (k : Nat) (u : Value), k ≤ m ∧ i = .int .i64 k ∧ u = x ∧ Hid (Own (w.heap.size + 1) wr u (imgF (R.take k))) ∧ Hid (Below w.heap.size w wr) ∧ Hid (w.heap.size + 1 ≤ wr.heap.size)) (fun _ i _ => m - (intOf i).toNat)
 case atStart => exact ⟨0, _, by omega, rfl, rfl, HO1, HB1, HZ1⟩
 case round =>
  obtain ⟨k, u, hk, rfl, rfl, HO, HB, HW⟩ := hrel
  clear HO1 HB1 HZ1
  by_cases hlt : k < m
  ·have hkr : k < R.length := by rw [HNR.out]; omega
   obtain ⟨b, off, rfl, hc⟩ := (HR.out.below HB.out) (by intro e; rw [e] at hkr; simp at hkr)
   obtain ⟨d0, d1, d2⟩ := hc k hkr
   have hmy := HMY.out R[k] (List.getElem_mem hkr)
   have hft := HFT.out R[k] (List.getElem_mem hkr)
   have hsz := HSZ.out R[k] (List.getElem_mem hkr)
   have HT : Hid (imgF (R.take (k + 1)) = (imgF (R.take k)).set 0 (nbits (R.take k) + (if R[k].k = 0 then 2 ^ k else 0)) ++ plB R[k]) := by
    show _ = _
    have e := imgF_snoc (R.take k) R[k]
    rw [List.length_take, Nat.min_eq_left (by omega)] at e
    rw [List.take_succ_eq_append_getElem hkr]; exact e
   have hnl := nbits_lt (R.take k)
   rw [List.length_take, Nat.min_eq_left (by omega)] at hnl
   obtain ⟨g, n2, c2, rfl, hn2, hnc2, hBg⟩ := own_some (x := nbits (R.take k)) (l := (R.take k).flatMap plB) HO.out
   have HN2 := Lib.hid hn2
   have hc0 := own_cell HO.out 0 (by unfold imgF; simp)
   have hcx : (imgF (R.take k))[0]'(by unfold imgF; simp) = nbits (R.take k) := rfl
   rw [hcx] at hc0
   obtain ⟨hcc, hfz⟩ := hc0
   clear hc hn2 hcx
   generalize R[k] = y at *
   obtain ⟨yk, yn, ys⟩ := y
   simp only at d0 d1 d2
   obtain ⟨nb0, hnb⟩ : ∃ q, nbits (R.take k) = q := ⟨_, rfl⟩
   rw [hnb] at hnl hcc
   have HNB := Lib.hid hnb
   clear hnb
   have hkz : (k : Int) < (m : Int) := by omega
   have hk0 : (0 : Int) ≤ (k : Int) := by omega
   have HLI : Hid ((imgF (R.take k)).length ≤ 9000) := by
    have h1 := plb_len (R.take k) (fun x hx => plB_len x (HSZ.out x (List.mem_of_mem_take hx)) (HFT.out x (List.mem_of_mem_take hx)).1.1 (HFT.out x (List.mem_of_mem_take hx)).1.2.1)
    show _ ≤ _
    unfold imgF
    rw [List.length_cons]
    have h2 : (R.take k).length ≤ 8 := by rw [List.length_take]; omega
    have h3 := Nat.mul_le_mul_left 1020 h2
    omega
   obtain ⟨I, hI⟩ : ∃ I, imgF (R.take k) = I := ⟨_, rfl⟩
   have HSM := Lib.hid (imgF_same (R.take k))
   rw [hI] at HO HT HLI HSM
   clear hI
   have hbb := hft.1
   by_cases hy0 : yk = 0
   ·subst hy0
    have HBA := Lib.hid ((Below.refl _ wr).alloc (Nat.le_refl _) (.cells #[.int .i64 0, .int .i64 yn, .string ys] 87))
    have HVB := Lib.hid (Has.new wr 87 #[.int .i64 0, .int .i64 yn, .string ys])
    have hn20 : (0 : Int) < (n2 : Int) := by have := HN2.out; omega
    have hng : g ≠ wr.heap.size := by
     have := World.block_lt_of_cell? wr _ hcc
     show g ≠ _
     simp only at this; omega
    go_wp2_with fail
    obtain ⟨W9, hW9⟩ : ∃ W9, W9 = wr.alloc (.cells #[.int .i64 0, .int .i64 yn, .string ys] 87) := ⟨_, rfl⟩
    rw [← hW9] at HBA HVB ⊢
    have gc : W9.cell? ⟨g, k / 8, none⟩ = some (.int .u8 (nb0 : Nat)) := by rw [show k / 8 = 0 by omega, hW9]; exact keepA _ hcc
    have gf : W9.frozen? ⟨g, k / 8, none⟩ = false := by
     rw [show k / 8 = 0 by omega]
     exact (HBA.out.frozen (p := ⟨g, 0, none⟩) (World.block_lt_of_cell? wr _ hcc)).trans hfz
    clear hW9 hcc hfz
    go_region
    have hor : bits .or .u8 (nb0 : Int) (2 ^ (k % 8) % 256) = ((nb0 + 2 ^ k : Nat) : Int) := by
     have h2 : (2 ^ k : Nat) < 256 := by
      have : 2 ^ k ≤ 2 ^ 7 := Nat.pow_le_pow_right (by omega) (by omega)
      omega
     have h3 : ((2 : Int) ^ (k % 8) % 256) = ((2 ^ k : Nat) : Int) := by
      rw [show k % 8 = k by omega]
      have : ((2 ^ k : Nat) : Int) = (2 : Int) ^ k := by simp
      rw [← this]; omega
     rw [h3]; exact or_bit nb0 k hnl (by omega)
    rw [hor, show k / 8 = 0 by omega]
    have HBS := Lib.hid (((HB.out.trans (HBA.out.mono HB.out.size)).setCell (p := ⟨g, 0, none⟩) (by show w.heap.size ≤ g; omega) (.int .u8 ((nb0 + 2 ^ k : Nat) : Int))).drew)
    have HOS := Lib.hid ((own_set (HO.out.below HBA.out) 0 (nb0 + 2 ^ k)).below ((Below.refl _ _).drew))
    have HVS := Lib.hid ((HVB.out.far (p := ⟨g, 0, none⟩) (by show wr.heap.size ≠ g; omega) (.int .u8 ((nb0 + 2 ^ k : Nat) : Int))).drew)
    have HZS : Hid (w.heap.size + 1 ≤ (W9.setCell ⟨g, 0, none⟩ (.int .u8 ((nb0 + 2 ^ k : Nat) : Int))).drew.heap.size) := by
     have := HBA.out.size
     have := HW.out
     show _ ≤ (W9.setCell _ _).heap.size
     rw [size_set]; omega
    have HT2 : Hid (imgF (R.take (k + 1)) = I.set 0 (nb0 + 2 ^ k) ++ plB ⟨0, yn, ys⟩) := by
     show _ = _
     rw [HT.out, HNB.out]; simp
    have HLS : Hid ((I.set 0 (nb0 + 2 ^ k)).length ≤ 9000) := by show _ ≤ _; rw [List.length_set]; exact HLI.out
    clear hor gc gf HBA HVB
    generalize I.set 0 (nb0 + 2 ^ k) = I2 at *
    obtain ⟨W10, hW10⟩ : ∃ W10, W10 = (W9.setCell ⟨g, 0, none⟩ (.int .u8 ((nb0 + 2 ^ k : Nat) : Int))).drew := ⟨_, rfl⟩
    rw [← hW10] at HBS HOS HVS HZS ⊢
    clear hW10
    have y0 : W10.cell? ⟨wr.heap.size, 0, none⟩ = some (.int .i64 0) := HVS.out.cell 0
    have y1 : W10.cell? ⟨wr.heap.size, 1, none⟩ = some (.int .i64 yn) := HVS.out.cell 1
    have y2 : W10.cell? ⟨wr.heap.size, 2, none⟩ = some (.string ys) := HVS.out.cell 2
    go_wp2_with fail
    refine (plain_any 0 yn ys _ hmy hsz hbb.1 hbb.2.1).mono ?_
    rintro e w5 hp
    have HP := Lib.hid hp
    clear hp
    obtain ⟨A5, m5, c5, rfl, hl5, hr5, hz5, hb5⟩ := HP.out
    have HB5 := Lib.hid hb5
    have HO5 := Lib.hid (HOS.out.below HB5.out)
    have HAP := Lib.hid (own_app w5 (w.heap.size + 1) (.slice (some ⟨g, 0, none⟩) n2 c2) I2 HO5.out (Nat.le_trans HZS.out HB5.out.size) A5 (plB ⟨0, yn, ys⟩) m5 c5 hl5 hr5 (by have h1 := HLS.out; have h2 := plB_len ⟨0, yn, ys⟩ hsz hbb.1 hbb.2.1; omega) hz5)
    clear hl5 hr5 hz5 hb5 HP y0 y1 y2
    go_wp2_with (at_builtin; refine wpList_app rfl _ _ 37 37 rfl (.slice (some ⟨g, 0, none⟩) n2 c2) (.slice A5 m5 c5) rfl rfl ?_; obtain ⟨R9, W', hrun, hmade⟩ := HAP.out; refine ⟨R9, W', hrun, ?_⟩; have HM := Lib.hid hmade; clear hrun hmade HAP)
    go_roundw
    case rel => exact ⟨k + 1, R9, by omega, by go_num, rfl, by rw [HT2.out]; exact HM.out.1, (HBS.out.trans (HB5.out.mono HBS.out.size)).trans (HM.out.2.mono (by omega)), Nat.le_trans (Nat.le_trans HZS.out HB5.out.size) HM.out.2.size⟩
    case measure => simp [intOf]; omega
   ·have hq : (yk == 0) = false := by simp [hy0]
    have HBA := Lib.hid ((Below.refl _ wr).alloc (Nat.le_refl _) (.cells #[.int .i64 yk, .int .i64 yn, .string ys] 87))
    have y0 : (wr.alloc (.cells #[.int .i64 yk, .int .i64 yn, .string ys] 87)).cell? ⟨wr.heap.size, 0, none⟩ = some (.int .i64 yk) := (Has.new wr 87 #[.int .i64 yk, .int .i64 yn, .string ys]).cell 0
    go_wp2_with fail
    refine (plain_any yk yn ys _ hmy hsz hbb.1 hbb.2.1).mono ?_
    rintro e w5 hp
    have HP := Lib.hid hp
    clear hp
    obtain ⟨A5, m5, c5, rfl, hl5, hr5, hz5, hb5⟩ := HP.out
    have HB5 := Lib.hid (HBA.out.trans (hb5.mono HBA.out.size))
    have HO5 := Lib.hid (HO.out.below HB5.out)
    have HAP := Lib.hid (own_app w5 (w.heap.size + 1) (.slice (some ⟨g, 0, none⟩) n2 c2) I HO5.out (Nat.le_trans HW.out HB5.out.size) A5 (plB ⟨yk, yn, ys⟩) m5 c5 hl5 hr5 (by have h1 := HLI.out; have h2 := plB_len ⟨yk, yn, ys⟩ hsz hbb.1 hbb.2.1; omega) hz5)
    have HT2 : Hid (imgF (R.take (k + 1)) = I ++ plB ⟨yk, yn, ys⟩) := by
     show _ = _
     rw [HT.out, if_neg hy0, Nat.add_zero, HSM.out]
    clear hl5 hr5 hz5 hb5 HP y0
    go_wp2_with (at_builtin; refine wpList_app rfl _ _ 37 37 rfl (.slice (some ⟨g, 0, none⟩) n2 c2) (.slice A5 m5 c5) rfl rfl ?_; obtain ⟨R9, W', hrun, hmade⟩ := HAP.out; refine ⟨R9, W', hrun, ?_⟩; have HM := Lib.hid hmade; clear hrun hmade HAP)
    go_roundw
    case rel => exact ⟨k + 1, R9, by omega, by go_num, rfl, by rw [HT2.out]; exact HM.out.1, (HB.out.trans (HB5.out.mono HB.out.size)).trans (HM.out.2.mono (by omega)), Nat.le_trans (Nat.le_trans HW.out HB5.out.size) HM.out.2.size⟩
    case measure => simp [intOf]; omega
  ·obtain rfl : k = m := by omega
   obtain ⟨A9, n9, c9, rfl, HN9, hnc9, HR9, HZ9⟩ := own_openZ HO.out
   have hL : n9 ≤ 9000 := by
    have h1 := plb_len (R.take k) (fun x hx => plB_len x (HSZ.out x (List.mem_of_mem_take hx)) (HFT.out x (List.mem_of_mem_take hx)).1.1 (HFT.out x (List.mem_of_mem_take hx)).1.2.1)
    rw [← HN9.out]
    unfold imgF
    rw [List.length_cons]
    have h2 : (R.take k).length ≤ 8 := by rw [List.length_take]; omega
    have h3 := Nat.mul_le_mul_left 1020 h2
    omega
   go_wp2_with fail
   refine (two_any wr w HB.out Ab A9 lb (imgF (R.take k)) nb cb n9 c9 HLB.out HN9.out (HBB.out.below HB.out) HR9.out HZ.out HZ9.out (by omega)).mono ?_
   rintro e w5 ⟨v, rfl, ho, hb⟩
   go_wp2_with fail
   go_ret
   exact ⟨v, rfl, ho, hb⟩
end Go.Proofs.YtnpmgempkoeapaaGreatDoor
