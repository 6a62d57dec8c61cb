/-
  The law ValueBytes walked: a value's bytes, behind others, are the document's, and are read as it was.
-/
import Derived.Test.YtlkhijccjjpbbaaDoorVread
import Derived.Test.YtlkhijccjjpbbaaDoorGoods
import Derived.Test.YtlkhijccjjpbbaaDoorLives
import Derived.Deep.RegionWith
import Derived.Deep.Cut
namespace Go.Proofs.YtlkhijccjjpbbaaDoor.valueBytes
open Go.RowKit Dg
theorem good_kind (x : Vl) : x.good.k = 0 ∨ x.good.k = 1 ∨ x.good.k = 2 ∨ x.good.k = 3 ∨ x.good.k = 4 := by
  unfold Vl.good
  rcases kind5_cases x.k with h | h | h | h | h <;> simp [h]
theorem hid_drew {B : Nat} {w W : World} (h : Hid (Below B w W)) : Hid (Below B w W.drew) := h.out.drew
theorem hid_trans {B : Nat} {a b c : World} (h : Hid (Below B a b)) (k : Hid (Below b.heap.size b c)) (hB : B ≤ b.heap.size := by first | exact Nat.le_refl _ | exact Below.size (Hid.out (by assumption))) : Hid (Below B a c) := h.out.trans (k.out.mono hB)
set_option maxHeartbeats 8000000 in
set_option maxRecDepth 100000 in
theorem walk (k n : Int) (s : ByteArray) (A : Option Addr) (bn bc : Nat) (l : List Nat) (w : World) (hf : Vl.fits ⟨k, n, s⟩) (hn : l.length = bn) (hnc : bn ≤ bc) (hcm : bc ≤ maxLen) (hl : ∀ x ∈ l, x < 256) (hA : Rd w A l) (hz : A = none → bc = 0) (hT : Tabs w) :
    Calls Tryd.prog 7 #[.agg #[.int .i64 k, .int .i64 n, .string s], .slice A bn bc] w fun e w' => e = .returned (.bool true) ∧ Below w.heap.size w w' := by
  have HT := Lib.hid hT
  obtain ⟨⟨f0, f1, f2⟩, f3, f4⟩ := hf
  simp only at f0 f1 f2 f3 f4
  have hmay := good_may ⟨k, n, s⟩
  have hfit := good_fits ⟨k, n, s⟩ ⟨⟨f0, f1, f2⟩, f3, f4⟩
  have hsz := good_size ⟨k, n, s⟩
  have hkd := good_kind ⟨k, n, s⟩
  have HGA := Lib.hid (fun W => good_any k n s W f2 f3 f4)
  generalize Vl.good ⟨k, n, s⟩ = y at *
  obtain ⟨yk, yn, ys⟩ := y
  obtain ⟨⟨g0, g1, g2⟩, _, _⟩ := hfit
  have hmay' : mayF yk yn ys = true := hmay
  simp only at g0 g1 g2 hsz hkd
  unfold Vl.val at HGA
  simp only at HGA
  have hc63 : (bc : Int) ≤ 9223372036854775807 := by unfold maxLen at hcm; omega
  have HMAY := Lib.hid hmay'
  clear hmay hmay' hT
  have HB0 := Lib.hid ((Below.refl w.heap.size w).alloc (Nat.le_refl _) (.cells #[.int .i64 k, .int .i64 n, .string s] 23))
  by_cases h20 : 20 < bn
  · have h20z : (20 : Int) < (bn : Int) := by omega
    have h20c : (20 : Int) ≤ (bc : Int) := by omega
    have HN : Hid ((l.take 20).length = 20) := by show _ = _; rw [List.length_take]; omega
    have HA : Hid (Rd w A (l.take 20)) := hA.take 20
    have HZ := Lib.hid hz
    have HL : Hid (∀ x ∈ l.take 20, x < 256) := fun x hx => hl x (List.mem_of_mem_take hx)
    generalize l.take 20 = b at *
    clear hA hz hl hn
    go_enter Tryd.func7, Tryd.ntmps7
    go_wp2_with fail
    refine (HGA.out _).mono ?_
    rintro e w1 ⟨rfl, hb1⟩
    have HB1 := Lib.hid (HB0.out.trans (hb1.out.mono HB0.out.size))
    have HB2 : Hid (Below w.heap.size w (w1.alloc (.cells #[.int .i64 yk, .int .i64 yn, .string ys] 23))) := HB1.out.alloc HB1.out.size _
    have HY2 : Hid (Has (w1.alloc (.cells #[.int .i64 yk, .int .i64 yn, .string ys] 23)) w1.heap.size 23 #[.int .i64 yk, .int .i64 yn, .string ys]) := Has.new _ _ _
    have hw1 := HB1.out.size
    clear hb1 HGA HB0
    go_wp2_with fail
    refine (write_any A b 20 bc yk yn ys _ HN.out (by omega) (HA.out.below HB2.out) HZ.out hkd (by omega) g0 g1).mono ?_
    rintro e w3 ⟨xv, rfl, HX, HB3'⟩
    have HB3 := Lib.hid (HB2.out.trans (HB3'.out.mono HB2.out.size))
    have HY3 := Lib.hid (HY2.out.below HB3'.out HY2.out.lt)
    have hwr : (wrV yk yn ys).length ≤ 300 := wr_len yk yn ys (by omega) g0 g1
    obtain ⟨Ax, nx, cx, rfl, HNX, hcx, hcmx, HRX⟩ := own_open HX.out
    obtain ⟨bx, ox, rfl, _⟩ := HRX.out (by intro e; have := wr_pos yk yn ys; rw [List.append_eq_nil_iff] at e; exact this e.2)
    have HNX2 : Hid (nx = 20 + (wrV yk yn ys).length) := by show _ = _; have h1 := HNX.out; rw [List.length_append, HN.out] at h1; exact h1.symm
    have hwp : 0 < (wrV yk yn ys).length := List.length_pos_iff.2 (wr_pos yk yn ys)
    have hnx1 : 20 < nx := by have := HNX2.out; omega
    have hnx2 : nx ≤ 400 := by have := HNX2.out; omega
    have hcx2 : (cx : Int) ≤ 9223372036854775807 := by unfold maxLen at hcmx; omega
    have HRF := Lib.hid (fun W => refWrite_any yk yn ys W hkd (by omega) g0 g1)
    have HA3 := Lib.hid (HA.out.below HB3.out)
    have HBS : Hid (bs (b ++ wrV yk yn ys) = bs b ++ bs (wrV yk yn ys)) := bs_append _ _
    have hsb1 : (bs b).size ≤ 20 := by rw [bs_size, HN.out]; omega
    have hsb2 : (bs (wrV yk yn ys)).size ≤ 300 := by rw [bs_size]; omega
    clear HX HB3' HB2 HY2
    have d0 := HY3.out.cell 0
    have d1 := HY3.out.cell 1
    have d2 := HY3.out.cell 2
    simp at d0 d1 d2
    have CX : ∀ W, Below w3.heap.size w3 W → Sem.run Tryd.prog (convert 39 9 (.slice (some ⟨bx, ox, none⟩) nx cx)) W = .ok (.string (bs b ++ bs (wrV yk yn ys))) W := fun W hW => by
      rw [← HBS.out]
      exact conv_len W _ _ nx cx HNX.out (HRX.out.below hW)
    have CB : ∀ W, Below w3.heap.size w3 W → Sem.run Tryd.prog (convert 39 9 (.slice A 20 bc)) W = .ok (.string (bs b)) W := fun W hW => conv_len W A b 20 bc HN.out (HA3.out.below hW)
    have HCX := Lib.hid CX
    have HCB := Lib.hid CB
    have cx0 := CX w3.drew (Below.refl _ w3).drew
    have cb0 := CB w3.drew (Below.refl _ w3).drew
    clear CX CB
    generalize hSW : bs (wrV yk yn ys) = SW at *
    have HSW := Lib.hid hSW
    clear hSW hwp hwr
    generalize bs b = SB at *
    go_wp2_with fail
    go_cut [28] from 10 (fun s28 W => s28 = Go.Value.bool false ∧ Hid (Below w3.heap.size w3 W))
    case' first =>
      go_region_with (first | (go_at_call 22; refine (HRF.out _).mono ?_; rintro e x1 ⟨v1, rfl, ho1, hb1⟩; obtain ⟨A1, n1, c1, rfl, HN1, cv1⟩ := own_conv ho1.out; have HBX : Hid (Below w3.heap.size w3 x1) := hid_trans (hid_drew (Lib.hid (Below.refl _ w3))) hb1; rw [HSW.out] at cv1; have cx1 := HCX.out _ HBX.out; have cb1 := HCB.out _ HBX.out; clear ho1 hb1))
      all_goals (go_wp2_with fail)
      all_goals go_meet
      all_goals exact ⟨rfl, by assumption⟩
    case rest =>
      obtain ⟨rfl, HBX⟩ := hcut
      have HB5 := Lib.hid (HB3.out.trans (HBX.out.mono HB3.out.size))
      have HY5 := Lib.hid (HY3.out.below HBX.out HY3.out.lt)
      have HRW : Hid (Rd wc (some ⟨bx, ox + 20, none⟩) (wrV yk yn ys)) := by
        have h := (HRX.out.below HBX.out).drop 20
        have e : (b ++ wrV yk yn ys).drop 20 = wrV yk yn ys := by rw [← HN.out]; exact List.drop_left
        rw [e] at h
        exact h
      have HRD := Lib.hid (Read_len (some ⟨bx, ox + 20, none⟩) (wrV yk yn ys) (nx - 20) (cx - 20) wc (by have := HNX2.out; omega) HRW.out (by omega))
      have hy1 := HY5.out.lt
      have hb1n : (20 : Int) < (nx : Int) := by omega
      have hb2n : (20 : Int) ≤ (cx : Int) := by omega
      have hb3n : ¬ (cx = 20) := by omega
      clear cx0 cb0 d0 d1 d2 HCX HCB
      go_wp2_with fail
      refine HRD.out.mono ?_
      rintro e w5 ⟨g, rfl, hgge, HRR, HB6'⟩
      have HB6 := Lib.hid (HB5.out.trans (HB6'.out.mono HB5.out.size))
      have HY6 := Lib.hid (HY5.out.below HB6'.out HY5.out.lt)
      clear HB6' HRD HRW
      go_wp2_with fail
      refine (vread_any g yk yn ys w5 HRR.out HMAY.out hkd (by omega) g0 g1 (HT.out.below HB6.out)).mono ?_
      rintro e w6 ⟨rfl, HR6, HG6⟩
      have HY7 := Lib.hid (HY6.out.grown HG6.out (by omega))
      have HB7 : Hid (Below w.heap.size w w6) := HB6.out.grown HG6.out HB6.out.size (fun k hk => by injection hk with hk; have := HB5.out.size; omega)
      have d0 := HY7.out.cell 0
      have d1 := HY7.out.cell 1
      have d2 := HY7.out.cell 2
      simp at d0 d1 d2
      have eq := eqV
      have HY8 := Lib.hid (HY7.out.alloc (.cells #[.int .i64 yk, .int .i64 yn, .string ys] 23))
      have p0 := HY8.out.cell 0
      have p1 := HY8.out.cell 1
      have p2 := HY8.out.cell 2
      simp only [List.getElem?_toArray, List.getElem?_cons_zero, List.getElem?_cons_succ] at p0 p1 p2
      have HR8 := Lib.hid (HR6.out.below ((Below.refl _ w6).alloc (Nat.le_refl _) (.cells #[.int .i64 yk, .int .i64 yn, .string ys] 23)))
      have HE8 := Lib.hid (End_get g [] 0 _ HR8.out (by simp))
      have HB8 : Hid (Below w.heap.size w (w6.alloc (.cells #[.int .i64 yk, .int .i64 yn, .string ys] 23))) := HB7.out.alloc HB7.out.size _
      go_wp2_with fail
      refine HE8.out.mono ?_
      rintro e w8 ⟨rfl, rfl⟩
      rw [endF_nil]
      go_wp2_with fail
      refine (lives_any _ (HT.out.below HB8.out)).mono ?_
      rintro e w9 ⟨rfl, hb9⟩
      have HB9 := Lib.hid (HB8.out.trans (hb9.mono HB8.out.size))
      clear hb9
      go_wp2_with fail
      go_ret
      exact ⟨rfl, HB9.out⟩
  · have h20z : (bn : Int) ≤ 20 := by omega
    have HN := Lib.hid hn
    have HA := Lib.hid hA
    have HZ := Lib.hid hz
    have HL := Lib.hid hl
    obtain ⟨b, hb⟩ : ∃ b, b = l := ⟨_, rfl⟩
    rw [← hb] at HN HA HL
    clear hA hz hl hn hb
    go_enter Tryd.func7, Tryd.ntmps7
    go_wp2_with fail
    refine (HGA.out _).mono ?_
    rintro e w1 ⟨rfl, hb1⟩
    have HB1 := Lib.hid (HB0.out.trans (hb1.out.mono HB0.out.size))
    have HB2 : Hid (Below w.heap.size w (w1.alloc (.cells #[.int .i64 yk, .int .i64 yn, .string ys] 23))) := HB1.out.alloc HB1.out.size _
    have HY2 : Hid (Has (w1.alloc (.cells #[.int .i64 yk, .int .i64 yn, .string ys] 23)) w1.heap.size 23 #[.int .i64 yk, .int .i64 yn, .string ys]) := Has.new _ _ _
    have hw1 := HB1.out.size
    clear hb1 HGA HB0
    go_wp2_with fail
    refine (write_any A b bn bc yk yn ys _ HN.out (by omega) (HA.out.below HB2.out) HZ.out hkd (by omega) g0 g1).mono ?_
    rintro e w3 ⟨xv, rfl, HX, HB3'⟩
    have HB3 := Lib.hid (HB2.out.trans (HB3'.out.mono HB2.out.size))
    have HY3 := Lib.hid (HY2.out.below HB3'.out HY2.out.lt)
    have hwr : (wrV yk yn ys).length ≤ 300 := wr_len yk yn ys (by omega) g0 g1
    obtain ⟨Ax, nx, cx, rfl, HNX, hcx, hcmx, HRX⟩ := own_open HX.out
    obtain ⟨bx, ox, rfl, _⟩ := HRX.out (by intro e; have := wr_pos yk yn ys; rw [List.append_eq_nil_iff] at e; exact this e.2)
    have HNX2 : Hid (nx = bn + (wrV yk yn ys).length) := by show _ = _; have h1 := HNX.out; rw [List.length_append, HN.out] at h1; exact h1.symm
    have hwp : 0 < (wrV yk yn ys).length := List.length_pos_iff.2 (wr_pos yk yn ys)
    have hnx1 : bn < nx := by have := HNX2.out; omega
    have hnx2 : nx ≤ 400 := by have := HNX2.out; omega
    have hcx2 : (cx : Int) ≤ 9223372036854775807 := by unfold maxLen at hcmx; omega
    have HRF := Lib.hid (fun W => refWrite_any yk yn ys W hkd (by omega) g0 g1)
    have HA3 := Lib.hid (HA.out.below HB3.out)
    have HBS : Hid (bs (b ++ wrV yk yn ys) = bs b ++ bs (wrV yk yn ys)) := bs_append _ _
    have hsb1 : (bs b).size ≤ 20 := by rw [bs_size, HN.out]; omega
    have hsb2 : (bs (wrV yk yn ys)).size ≤ 300 := by rw [bs_size]; omega
    clear HX HB3' HB2 HY2
    have d0 := HY3.out.cell 0
    have d1 := HY3.out.cell 1
    have d2 := HY3.out.cell 2
    simp at d0 d1 d2
    have CX : ∀ W, Below w3.heap.size w3 W → Sem.run Tryd.prog (convert 39 9 (.slice (some ⟨bx, ox, none⟩) nx cx)) W = .ok (.string (bs b ++ bs (wrV yk yn ys))) W := fun W hW => by
      rw [← HBS.out]
      exact conv_len W _ _ nx cx HNX.out (HRX.out.below hW)
    have CB : ∀ W, Below w3.heap.size w3 W → Sem.run Tryd.prog (convert 39 9 (.slice A bn bc)) W = .ok (.string (bs b)) W := fun W hW => conv_len W A b bn bc HN.out (HA3.out.below hW)
    have HCX := Lib.hid CX
    have HCB := Lib.hid CB
    have cx0 := CX w3.drew (Below.refl _ w3).drew
    have cb0 := CB w3.drew (Below.refl _ w3).drew
    clear CX CB
    generalize hSW : bs (wrV yk yn ys) = SW at *
    have HSW := Lib.hid hSW
    clear hSW hwp hwr
    generalize bs b = SB at *
    go_wp2_with fail
    go_cut [28] from 10 (fun s28 W => s28 = Go.Value.bool false ∧ Hid (Below w3.heap.size w3 W))
    case' first =>
      go_region_with (first | (go_at_call 22; refine (HRF.out _).mono ?_; rintro e x1 ⟨v1, rfl, ho1, hb1⟩; obtain ⟨A1, n1, c1, rfl, HN1, cv1⟩ := own_conv ho1.out; have HBX : Hid (Below w3.heap.size w3 x1) := hid_trans (hid_drew (Lib.hid (Below.refl _ w3))) hb1; rw [HSW.out] at cv1; have cx1 := HCX.out _ HBX.out; have cb1 := HCB.out _ HBX.out; clear ho1 hb1))
      all_goals (go_wp2_with fail)
      all_goals go_meet
      all_goals exact ⟨rfl, by assumption⟩
    case rest =>
      obtain ⟨rfl, HBX⟩ := hcut
      have HB5 := Lib.hid (HB3.out.trans (HBX.out.mono HB3.out.size))
      have HY5 := Lib.hid (HY3.out.below HBX.out HY3.out.lt)
      have HRW : Hid (Rd wc (some ⟨bx, ox + bn, none⟩) (wrV yk yn ys)) := by
        have h := (HRX.out.below HBX.out).drop bn
        have e : (b ++ wrV yk yn ys).drop bn = wrV yk yn ys := by rw [← HN.out]; exact List.drop_left
        rw [e] at h
        exact h
      have HRD := Lib.hid (Read_len (some ⟨bx, ox + bn, none⟩) (wrV yk yn ys) (nx - bn) (cx - bn) wc (by have := HNX2.out; omega) HRW.out (by omega))
      have hy1 := HY5.out.lt
      have hb1n : (bn : Int) < (nx : Int) := by omega
      have hb2n : (bn : Int) ≤ (cx : Int) := by omega
      have hb3n : ¬ (cx = bn) := by omega
      clear cx0 cb0 d0 d1 d2 HCX HCB
      go_wp2_with fail
      refine HRD.out.mono ?_
      rintro e w5 ⟨g, rfl, hgge, HRR, HB6'⟩
      have HB6 := Lib.hid (HB5.out.trans (HB6'.out.mono HB5.out.size))
      have HY6 := Lib.hid (HY5.out.below HB6'.out HY5.out.lt)
      clear HB6' HRD HRW
      go_wp2_with fail
      refine (vread_any g yk yn ys w5 HRR.out HMAY.out hkd (by omega) g0 g1 (HT.out.below HB6.out)).mono ?_
      rintro e w6 ⟨rfl, HR6, HG6⟩
      have HY7 := Lib.hid (HY6.out.grown HG6.out (by omega))
      have HB7 : Hid (Below w.heap.size w w6) := HB6.out.grown HG6.out HB6.out.size (fun k hk => by injection hk with hk; have := HB5.out.size; omega)
      have d0 := HY7.out.cell 0
      have d1 := HY7.out.cell 1
      have d2 := HY7.out.cell 2
      simp at d0 d1 d2
      have eq := eqV
      have HY8 := Lib.hid (HY7.out.alloc (.cells #[.int .i64 yk, .int .i64 yn, .string ys] 23))
      have p0 := HY8.out.cell 0
      have p1 := HY8.out.cell 1
      have p2 := HY8.out.cell 2
      simp only [List.getElem?_toArray, List.getElem?_cons_zero, List.getElem?_cons_succ] at p0 p1 p2
      have HR8 := Lib.hid (HR6.out.below ((Below.refl _ w6).alloc (Nat.le_refl _) (.cells #[.int .i64 yk, .int .i64 yn, .string ys] 23)))
      have HE8 := Lib.hid (End_get g [] 0 _ HR8.out (by simp))
      have HB8 : Hid (Below w.heap.size w (w6.alloc (.cells #[.int .i64 yk, .int .i64 yn, .string ys] 23))) := HB7.out.alloc HB7.out.size _
      go_wp2_with fail
      refine HE8.out.mono ?_
      rintro e w8 ⟨rfl, rfl⟩
      rw [endF_nil]
      go_wp2_with fail
      refine (lives_any _ (HT.out.below HB8.out)).mono ?_
      rintro e w9 ⟨rfl, hb9⟩
      have HB9 := Lib.hid (HB8.out.trans (hb9.mono HB8.out.size))
      clear hb9
      go_wp2_with fail
      go_ret
      exact ⟨rfl, HB9.out⟩
end Go.Proofs.YtlkhijccjjpbbaaDoor.valueBytes
