/-
  Put together, as far as it is used: EwR1, EwR2, EwR3.
-/
import Derived.Test.YtnpmgempkoeapaaGreatDoorPebd
import Derived.Test.YtnpmgempkoeapaaGreatDoorPebe
import Derived.Test.YtnpmgempkoeapaaGreatDoorPebb
set_option linter.unusedVariables false
set_option linter.unusedSimpArgs false
set_option linter.defProp false
namespace Go.Proofs.YtnpmgempkoeapaaGreatDoor
open Go.RowKit Go.Maps Dg
set_option maxRecDepth 100000
theorem results_ct {fn : Func} {p0 p1 : Tmp} {ty : TypeId} (h : fn.results = #[.cell p0 ty, .tmp p1]) (tmps : Array Value) (P : Program) (w : World) :
 (results fn tmps).run P w = ((asAddr (tmps.getD p0 undef)).run P w).andThen fun a w₁ => ((loadVar ty a).run P w₁).andThen fun v w₂ => .ok (.tuple #[v, tmps.getD p1 undef]) w₂ := by
 simp only [results, h]
 simp [Sem.run_bind, Result.andThen]
theorem colEnd {fn : Func} {p u : Tmp} (h : fn.results = #[.cell p 29, .tmp u]) (w' : World) (g : Nat) (u0 u1 u2 : Value) (tmps : Array Value) (hp : tmps.getD p undef = .pointer (some ⟨g, 0, none⟩)) (hh : Has w' g 29 #[u0, u1, u2]) :
 (results fn tmps).run Tryz.prog w' = .ok (.tuple #[.agg #[u0, u1, u2], tmps.getD u undef]) w' := by
 rw [results_ct h, hp]
 simp only [asAddr, Sem.run_pure, Result.andThen_ok]
 rw [run_loadVar_row w' g 29 29 #[u0, u1, u2] (0, 0) _ hh Tryz.underlying29 rfl (by kernel_rfl)]
 rfl
set_option maxHeartbeats 16000000 in
theorem rcolumn_any {D : Nat} (g : Nat) (At : Option Addr) (nt ctt : Nat) (s : ByteArray) (k : Nat) (no : Bool) (rest : List Nat) (w : World) (h : RdrD D w g (colB s k no ++ rest) 0) (hg : g < D) (hD : D ≤ w.heap.size) (hs : s.size ≤ 32) (hl : ∀ x ∈ colB s k no ++ rest, x < 256) (hb : (colB s k no ++ rest).length ≤ 1000000) :
 Calls Tryz.prog 104 #[.agg #[.pointer (some ⟨g, 0, none⟩), .slice At nt ctt]] w fun e w' => e = .returned (.tuple #[.agg #[.string s, .int .i64 (k : Int), .bool no], .bool true]) ∧ Hid (RdrD D w' g rest 0) ∧ Hid (w.grownBy w' (some g)) := by
 obtain ⟨y, hy⟩ : ∃ y : Nat, (if no then 1 else 0) = y := ⟨_, rfl⟩
 have hwk : colB s k no ++ rest = ytxt s ++ (k :: y :: rest) := by
  unfold colB
  rw [hy]
  simp
 rw [hwk] at h hl hb
 have hl1 : ∀ x ∈ k :: y :: rest, x < 256 := fun x hx => hl x (List.mem_append_right _ hx)
 have hl2 : ∀ x ∈ y :: rest, x < 256 := fun x hx => hl1 x (List.mem_cons_of_mem _ hx)
 have hb1 : (k :: y :: rest).length ≤ 1000000 := by rw [List.length_append] at hb; omega
 have hb2 : (y :: rest).length ≤ 1000000 := by rw [List.length_cons] at hb1; omega
 have HT1 := Lib.hid (fun W (hr : RdrD D W g (ytxt s ++ (k :: y :: rest)) 0) => txtD_put g 32 s (k :: y :: rest) W hr (by omega) (by omega) hl hb)
 have HK := Lib.hid (fun W (hr : RdrD D W g (k :: y :: rest) 0) => byteD_put g k (y :: rest) W hr hl1 hb1)
 have HY := Lib.hid (fun W (hr : RdrD D W g (y :: rest) 0) => byteD_put g y rest W hr hl2 hb2)
 obtain ⟨q, hq⟩ : ∃ q, w.heap.size = q := ⟨_, rfl⟩
 obtain ⟨W1, hW1⟩ : ∃ W, (w.alloc (.cells #[.pointer (some ⟨g, 0, none⟩), .slice At nt ctt] 73)).alloc (.cells #[.string ⟨#[]⟩, .int .i64 0, .bool false] 29) = W := ⟨_, rfl⟩
 have hba : Below w.heap.size w (w.alloc (.cells #[.pointer (some ⟨g, 0, none⟩), .slice At nt ctt] 73)) := (Below.refl _ w).alloc (Nat.le_refl _) _
 have hbb : Below w.heap.size w W1 := by rw [← hW1]; exact hba.alloc (by simp) _
 have hs1 : W1.heap.size = q + 2 := by rw [← hW1]; simp; omega
 have hz0 : q < W1.heap.size := by omega
 have hz1 : q + 1 < W1.heap.size := by omega
 have HX1 : Hid (Has W1 q 73 #[.pointer (some ⟨g, 0, none⟩), .slice At nt ctt]) := by rw [← hW1, ← hq]; exact (Has.new _ _ _).alloc _
 have HQ1 : Hid (Has W1 (q + 1) 29 #[.string ⟨#[]⟩, .int .i64 0, .bool false]) := by
  have h := Has.new (w.alloc (.cells #[.pointer (some ⟨g, 0, none⟩), .slice At nt ctt] 73)) 29 #[.string ⟨#[]⟩, .int .i64 0, .bool false]
  rw [World.size_alloc, hq, hW1] at h
  exact h
 have HR1 := Lib.hid (h.keep hg (hbb.mono hD))
 have HG1 := Lib.hid (grn_below (grown_refl w g) hbb)
 have x1 : W1.cell? ⟨q, 0, none⟩ = some (.pointer (some ⟨g, 0, none⟩)) := HX1.out.cell 0
 rw [hq] at hD
 have hgq : g < q := by omega
 clear h hwk hl hb hl1 hl2 hb1 hb2 hba hbb
 go_enter Tryz.func104, Tryz.ntmps104
 go_wp2_with fail
 clear x1 hW1
 refine (HT1.out _ HR1.out).mono ?_
 rintro e w2 ⟨rfl, hr, hg2⟩
 have HX2 := Lib.hid (HX1.out.grn hg2.out (by omega))
 have HQ2 := Lib.hid (HQ1.out.grn hg2.out (by omega))
 have HG2 := Lib.hid (grown_trans HG1.out hg2.out)
 have HR2 := hr
 have hzq_2 : q < w2.heap.size := Nat.lt_of_lt_of_le hz0 hg2.out.size
 have hzqp1_2 : q + 1 < w2.heap.size := Nat.lt_of_lt_of_le hz1 hg2.out.size
 clear HX1 HQ1 HG1 HR1 hz0 hz1 hr hg2
 have HR2 := Lib.hid HR2.out
 obtain ⟨W3, hW3⟩ : ∃ W, W = w2.alloc (.cells #[.string s, .int .i64 0, .bool false] 29) := ⟨_, rfl⟩
 have hbl : Below w2.heap.size w2 W3 := by rw [hW3]; exact (Below.refl _ _).alloc (Nat.le_refl _) _
 have hnew : Has W3 w2.heap.size 29 #[.string s, .int .i64 0, .bool false] := by rw [hW3]; exact Has.new _ _ _
 have HX3 := Lib.hid (HX2.out.below hbl HX2.out.lt)
 have HQ3 := Lib.hid (HQ2.out.below hbl HQ2.out.lt)
 have HG3 := Lib.hid (grn_below HG2.out hbl)
 have HR3 := Lib.hid (HR2.out.keep hg (hbl.mono (by omega)))
 have hzq_3 : q < W3.heap.size := Nat.lt_of_lt_of_le hzq_2 hbl.size
 have hlt_q_q2 : q < w2.heap.size := hzq_2
 have hzqp1_3 : q + 1 < W3.heap.size := Nat.lt_of_lt_of_le hzqp1_2 hbl.size
 have hlt_qp1_q2 : q + 1 < w2.heap.size := hzqp1_2
 have HB3 := Lib.hid hnew
 have hzq2_3 : w2.heap.size < W3.heap.size := hnew.lt
 clear HX2 HQ2 HG2 HR2 hzq_2 hzqp1_2 hbl hnew
 have x0l : (w2.alloc (.cells #[.string s, .int .i64 0, .bool false] 29)).cell? ⟨q, 0, none⟩ = some (.pointer (some ⟨g, 0, none⟩)) := by rw [← hW3]; exact HX3.out.cell 0
 go_wp2_with fail
 clear x0l
 (try rw [← hW3])
 clear hW3
 generalize w2.heap.size = q2 at *
 refine (HK.out _ HR3.out).mono ?_
 rintro e w4 ⟨rfl, hr, hg4⟩
 have HX4 := Lib.hid (HX3.out.grn hg4.out (by omega))
 have HQ4 := Lib.hid (HQ3.out.grn hg4.out (by omega))
 have HB4 := Lib.hid (HB3.out.grn hg4.out (by omega))
 have HG4 := Lib.hid (grown_trans HG3.out hg4.out)
 have HR4 := hr
 have hzq_4 : q < w4.heap.size := Nat.lt_of_lt_of_le hzq_3 hg4.out.size
 have hzqp1_4 : q + 1 < w4.heap.size := Nat.lt_of_lt_of_le hzqp1_3 hg4.out.size
 have hzq2_4 : q2 < w4.heap.size := Nat.lt_of_lt_of_le hzq2_3 hg4.out.size
 clear HX3 HQ3 HB3 HG3 HR3 hzq_3 hzqp1_3 hzq2_3 hr hg4
 have c1w4 : w4.cell? ⟨q2, 1, none⟩ = some (.int .i64 0) := HB4.out.cell 1
 have f1w4 : w4.frozen? ⟨q2, 1, none⟩ = false := HB4.out.free 1
 obtain ⟨W5, hW5⟩ : ∃ W, (w4.setCell ⟨q2, 1, none⟩ (.int .i64 k)) = W := ⟨_, rfl⟩
 have HX5 : Hid (Has W5 (q) 73 #[.pointer (some ⟨g, 0, none⟩), .slice At nt ctt]) := by rw [← hW5]; exact (HX4.out.far (p := ⟨q2, 1, none⟩) (by show q ≠ q2; omega) (.int .i64 k))
 have HQ5 : Hid (Has W5 (q + 1) 29 #[.string ⟨#[]⟩, .int .i64 0, .bool false]) := by rw [← hW5]; exact (HQ4.out.far (p := ⟨q2, 1, none⟩) (by show q + 1 ≠ q2; omega) (.int .i64 k))
 have HB5 : Hid (Has W5 (q2) 29 #[.string s, .int .i64 k, .bool false]) := by rw [← hW5]; exact (HB4.out.put 1 (.int .i64 k))
 have HG5 : Hid (w.grownBy W5 (some g)) := by rw [← hW5]; exact (grn_set HG4.out (p := ⟨q2, 1, none⟩) (by show w.heap.size ≤ q2; omega) (.int .i64 k))
 have HR5 : Hid (RdrD D W5 g (y :: rest) 0) := by rw [← hW5]; exact HR4.out.keep hg ((Below.refl D w4).setCell (p := ⟨q2, 1, none⟩) (by show D ≤ q2; omega) (.int .i64 k))
 have hzq_5 : q < W5.heap.size := by rw [← hW5]; simpa using hzq_4
 have hzqp1_5 : q + 1 < W5.heap.size := by rw [← hW5]; simpa using hzqp1_4
 have hzq2_5 : q2 < W5.heap.size := by rw [← hW5]; simpa using hzq2_4
 clear HX4 HQ4 HB4 HG4 HR4 hzq_4 hzqp1_4 hzq2_4
 have x0W5 : W5.cell? ⟨q, 0, none⟩ = some (.pointer (some ⟨g, 0, none⟩)) := HX5.out.cell 0
 go_wp2_with fail
 clear hW5 x0W5 c1w4 f1w4
 refine (HY.out _ HR5.out).mono ?_
 rintro e w6 ⟨rfl, hr, hg6⟩
 have HX6 := Lib.hid (HX5.out.grn hg6.out (by omega))
 have HQ6 := Lib.hid (HQ5.out.grn hg6.out (by omega))
 have HB6 := Lib.hid (HB5.out.grn hg6.out (by omega))
 have HG6 := Lib.hid (grown_trans HG5.out hg6.out)
 have HR6 := hr
 have hzq_6 : q < w6.heap.size := Nat.lt_of_lt_of_le hzq_5 hg6.out.size
 have hzqp1_6 : q + 1 < w6.heap.size := Nat.lt_of_lt_of_le hzqp1_5 hg6.out.size
 have hzq2_6 : q2 < w6.heap.size := Nat.lt_of_lt_of_le hzq2_5 hg6.out.size
 clear HX5 HQ5 HB5 HG5 HR5 hzq_5 hzqp1_5 hzq2_5 hr hg6
 have hyd : ((y : Int) == 1) = no := by rw [← hy]; cases no <;> rfl
 have hyl : (y : Int) ≤ 1 := by rw [← hy]; cases no <;> simp
 have c2w6 : w6.cell? ⟨q2, 2, none⟩ = some (.bool false) := HB6.out.cell 2
 have f2w6 : w6.frozen? ⟨q2, 2, none⟩ = false := HB6.out.free 2
 obtain ⟨W7, hW7⟩ : ∃ W, (w6.setCell ⟨q2, 2, none⟩ (.bool no)) = W := ⟨_, rfl⟩
 have HX7 : Hid (Has W7 (q) 73 #[.pointer (some ⟨g, 0, none⟩), .slice At nt ctt]) := by rw [← hW7]; exact (HX6.out.far (p := ⟨q2, 2, none⟩) (by show q ≠ q2; omega) (.bool no))
 have HQ7 : Hid (Has W7 (q + 1) 29 #[.string ⟨#[]⟩, .int .i64 0, .bool false]) := by rw [← hW7]; exact (HQ6.out.far (p := ⟨q2, 2, none⟩) (by show q + 1 ≠ q2; omega) (.bool no))
 have HB7 : Hid (Has W7 (q2) 29 #[.string s, .int .i64 k, .bool no]) := by rw [← hW7]; exact (HB6.out.put 2 (.bool no))
 have HG7 : Hid (w.grownBy W7 (some g)) := by rw [← hW7]; exact (grn_set HG6.out (p := ⟨q2, 2, none⟩) (by show w.heap.size ≤ q2; omega) (.bool no))
 have HR7 : Hid (RdrD D W7 g (rest) 0) := by rw [← hW7]; exact HR6.out.keep hg ((Below.refl D w6).setCell (p := ⟨q2, 2, none⟩) (by show D ≤ q2; omega) (.bool no))
 have hzq_7 : q < W7.heap.size := by rw [← hW7]; simpa using hzq_6
 have hzqp1_7 : q + 1 < W7.heap.size := by rw [← hW7]; simpa using hzqp1_6
 have hzq2_7 : q2 < W7.heap.size := by rw [← hW7]; simpa using hzq2_6
 clear HX6 HQ6 HB6 HG6 HR6 hzq_6 hzqp1_6 hzq2_6
 have d0W7 : W7.cell? ⟨q2, 0, none⟩ = some (.string s) := HB7.out.cell 0
 have d1W7 : W7.cell? ⟨q2, 1, none⟩ = some (.int .i64 k) := HB7.out.cell 1
 have d2W7 : W7.cell? ⟨q2, 2, none⟩ = some (.bool no) := HB7.out.cell 2
 have c0W7 : W7.cell? ⟨q + 1, 0, none⟩ = some (.string ⟨#[]⟩) := HQ7.out.cell 0
 have c1W7 : W7.cell? ⟨q + 1, 1, none⟩ = some (.int .i64 0) := HQ7.out.cell 1
 have c2W7 : W7.cell? ⟨q + 1, 2, none⟩ = some (.bool false) := HQ7.out.cell 2
 have f0W7 : W7.frozen? ⟨q + 1, 0, none⟩ = false := HQ7.out.free 0
 have f1W7 : W7.frozen? ⟨q + 1, 1, none⟩ = false := HQ7.out.free 1
 have f2W7 : W7.frozen? ⟨q + 1, 2, none⟩ = false := HQ7.out.free 2
 obtain ⟨W8, hW8⟩ : ∃ W, (((W7.setCell ⟨q + 1, 0, none⟩ (.string s)).setCell ⟨q + 1, 1, none⟩ (.int .i64 k)).setCell ⟨q + 1, 2, none⟩ (.bool no)) = W := ⟨_, rfl⟩
 have HX8 : Hid (Has W8 (q) 73 #[.pointer (some ⟨g, 0, none⟩), .slice At nt ctt]) := by rw [← hW8]; exact (((HX7.out.far (p := ⟨q + 1, 0, none⟩) (by show q ≠ q + 1; omega) (.string s)).far (p := ⟨q + 1, 1, none⟩) (by show q ≠ q + 1; omega) (.int .i64 k)).far (p := ⟨q + 1, 2, none⟩) (by show q ≠ q + 1; omega) (.bool no))
 have HQ8 : Hid (Has W8 (q + 1) 29 #[.string s, .int .i64 k, .bool no]) := by rw [← hW8]; exact (((HQ7.out.put 0 (.string s)).put 1 (.int .i64 k)).put 2 (.bool no))
 have HB8 : Hid (Has W8 (q2) 29 #[.string s, .int .i64 k, .bool no]) := by rw [← hW8]; exact (((HB7.out.far (p := ⟨q + 1, 0, none⟩) (by show q2 ≠ q + 1; omega) (.string s)).far (p := ⟨q + 1, 1, none⟩) (by show q2 ≠ q + 1; omega) (.int .i64 k)).far (p := ⟨q + 1, 2, none⟩) (by show q2 ≠ q + 1; omega) (.bool no))
 have HG8 : Hid (w.grownBy W8 (some g)) := by rw [← hW8]; exact (grn_set (grn_set (grn_set HG7.out (p := ⟨q + 1, 0, none⟩) (by show w.heap.size ≤ q + 1; omega) (.string s)) (p := ⟨q + 1, 1, none⟩) (by show w.heap.size ≤ q + 1; omega) (.int .i64 k)) (p := ⟨q + 1, 2, none⟩) (by show w.heap.size ≤ q + 1; omega) (.bool no))
 have HR8 : Hid (RdrD D W8 g (rest) 0) := by rw [← hW8]; exact HR7.out.keep hg ((((Below.refl D W7).setCell (p := ⟨q + 1, 0, none⟩) (by show D ≤ q + 1; omega) (.string s)).setCell (p := ⟨q + 1, 1, none⟩) (by show D ≤ q + 1; omega) (.int .i64 k)).setCell (p := ⟨q + 1, 2, none⟩) (by show D ≤ q + 1; omega) (.bool no))
 have hzq_8 : q < W8.heap.size := by rw [← hW8]; simpa using hzq_7
 have hzqp1_8 : q + 1 < W8.heap.size := by rw [← hW8]; simpa using hzqp1_7
 have hzq2_8 : q2 < W8.heap.size := by rw [← hW8]; simpa using hzq2_7
 clear HX7 HQ7 HB7 HG7 HR7 hzq_7 hzqp1_7 hzq2_7
 go_wp2_with fail
 exact bodyPost_ret (colEnd rfl _ (q + 1) _ _ _ _ rfl HQ8.out) rfl ⟨by simp, HR8, HG8⟩
def colsD (L : List Cl) (k : Nat) (rest : List Nat) : List Nat := (L.drop k).flatMap colC ++ rest
theorem colsD_succ (L : List Cl) (k : Nat) (rest : List Nat) (h : k < L.length) : colsD L k rest = colC L[k] ++ colsD L (k + 1) rest := by
 unfold colsD
 rw [List.drop_eq_getElem_cons h, List.flatMap_cons, List.append_assoc]
theorem colsD_end (L : List Cl) (rest : List Nat) : colsD L L.length rest = rest := by
 unfold colsD; rw [List.drop_length]; rfl
theorem colsD_all (L : List Cl) (rest : List Nat) : colsB L L.length ++ rest = colsD L 0 rest := by
 unfold colsB colsD; rw [List.take_length, List.drop_zero]
theorem colsD_tail (L : List Cl) (rest : List Nat) : ∀ k, ∃ pre, colsD L 0 rest = pre ++ colsD L k rest
 | 0 => ⟨[], rfl⟩
 | k + 1 => by
   obtain ⟨pre, h⟩ := colsD_tail L rest k
   by_cases hk : k < L.length
   ·exact ⟨pre ++ colC L[k], by rw [h, colsD_succ L k rest hk, List.append_assoc]⟩
   ·refine ⟨pre, ?_⟩
    have e : colsD L (k + 1) rest = colsD L k rest := by unfold colsD; rw [List.drop_eq_nil_of_le (by omega), List.drop_eq_nil_of_le (by omega)]
    rw [e]; exact h
theorem OwnC.grR {B : Nat} {w w' : World} {g : Nat} {v : Value} {L : List Cl} (h : OwnC B w v L) (hg : w.grownBy w' (some g)) (hlt : g < B) : OwnC B w' v L := by
 rcases h.2 with ⟨hv, hn⟩ | ⟨b, cap, cur, hv, hB, hh, hc, hcm, hsz, ht⟩
 ·exact ⟨h.1, .inl ⟨hv, hn⟩⟩
 ·exact ⟨h.1, .inr ⟨b, cap, cur, hv, hB, Has.grn (t := 29) (cs := cur) hh hg (by omega), hc, hcm, hsz, ht⟩⟩
theorem OwnC.setR {B : Nat} {w : World} {v : Value} {L : List Cl} (h : OwnC B w v L) {p : Addr} (hp : p.block < B) (u : Value) : OwnC B (w.setCell p u) v L := by
 rcases h.2 with ⟨hv, hn⟩ | ⟨g, cap, cur, hv, hg, hh, hc, hcm, hsz, ht⟩
 ·exact ⟨h.1, .inl ⟨hv, hn⟩⟩
 ·exact ⟨h.1, .inr ⟨g, cap, cur, hv, hg, Has.far (t := 29) (cs := cur) hh (by omega) u, hc, hcm, hsz, ht⟩⟩
theorem OwnC.downR {B B' : Nat} {w : World} {v : Value} {L : List Cl} (h : OwnC B w v L) (hb : B' ≤ B) : OwnC B' w v L := by
 obtain ⟨h1, h2⟩ := h
 refine ⟨h1, ?_⟩
 rcases h2 with h2 | ⟨g, cap, cur, e, hg, r⟩
 ·exact .inl h2
 ·exact .inr ⟨g, cap, cur, e, Nat.le_trans hb hg, r⟩
theorem schEndR {fn : Func} {p u : Tmp} (h : fn.results = #[.cell p 27, .tmp u]) (w' : World) (g : Nat) (u0 u1 : Value) (tmps : Array Value) (hp : tmps.getD p undef = .pointer (some ⟨g, 0, none⟩)) (hh : Has w' g 27 #[u0, u1]) :
 (results fn tmps).run Tryz.prog w' = .ok (.tuple #[.agg #[u0, u1], tmps.getD u undef]) w' := by
 rw [results_ct h, hp]
 simp only [asAddr, Sem.run_pure, Result.andThen_ok]
 rw [run_loadVar_row w' g 27 27 #[u0, u1] (0, 0) _ hh Tryz.underlying27 rfl (by kernel_rfl)]
 rfl
theorem Has.lowB {w w' : World} {g B : Nat} {t : TypeId} {cs : Array Value} (h : Has w g t cs) (hb : Below B w w') (hg : g < B) : Has w' g t cs := (hb.block g hg).trans h
theorem grn_lowB {w x y : World} {g B : Nat} (h : w.grownBy x (some g)) (hb : Below B x y) (hB : w.heap.size ≤ B) (hs : B ≤ x.heap.size) : w.grownBy y (some g) :=
 ⟨hb.os.trans h.os, hb.tape.trans h.tape, hb.output.trans h.output, Nat.le_trans h.size hb.size, fun b hlt hne => (hb.block b (by omega)).trans (h.block b hlt hne)⟩
set_option maxHeartbeats 16000000 in
theorem rschema_any {D : Nat} (g : Nat) (At : Option Addr) (nt ctt : Nat) (K : Nat) (L : List Cl) (rest : List Nat) (w : World) (h : RdrD D w g (K :: L.length :: colsD L 0 rest) 0) (hg : g < D) (hD : D ≤ w.heap.size) (hL : L.length ≤ 16) (hLc : ∀ x ∈ L, x.nm.size ≤ 32 ∧ ∃ k : Nat, x.k = (k : Int) ∧ k < 256) (hl : ∀ x ∈ K :: L.length :: colsD L 0 rest, x < 256) (hb : (K :: L.length :: colsD L 0 rest).length ≤ 1000000) :
 Calls Tryz.prog 103 #[.agg #[.pointer (some ⟨g, 0, none⟩), .slice At nt ctt]] w fun e w' => (∃ v, e = .returned (.tuple #[.agg #[v, .int .i64 (K : Int)], .bool true]) ∧ Hid (OwnC w.heap.size w' v L)) ∧ Hid (RdrD D w' g rest 0) ∧ Hid (w.grownBy w' (some g)) := by
 obtain ⟨n, hn⟩ : ∃ n, L.length = n := ⟨_, rfl⟩
 rw [hn] at h hl hb hL
 have hl1 : ∀ x ∈ n :: colsD L 0 rest, x < 256 := fun x hx => hl x (List.mem_cons_of_mem _ hx)
 have hb1 : (n :: colsD L 0 rest).length ≤ 1000000 := by rw [List.length_cons] at hb; omega
 have HL2 : Hid (∀ k, (∀ x ∈ colsD L k rest, x < 256) ∧ (colsD L k rest).length ≤ 1000000) := fun k => by
  obtain ⟨pre, e⟩ := colsD_tail L rest k
  refine ⟨fun x hx => hl1 x (List.mem_cons_of_mem _ (e ▸ List.mem_append_right _ hx)), ?_⟩
  rw [List.length_cons, e, List.length_append] at hb1; omega
 have HK := Lib.hid (fun W (hr : RdrD D W g (K :: n :: colsD L 0 rest) 0) => byteD_put g K (n :: colsD L 0 rest) W hr hl hb)
 have HN := Lib.hid (fun W (hr : RdrD D W g (n :: colsD L 0 rest) 0) => byteD_put g n (colsD L 0 rest) W hr hl1 hb1)
 have HLC := Lib.hid hLc
 have HLn := Lib.hid hn
 obtain ⟨q, hq⟩ : ∃ q, w.heap.size = q := ⟨_, rfl⟩
 obtain ⟨W1, hW1⟩ : ∃ W, (w.alloc (.cells #[.pointer (some ⟨g, 0, none⟩), .slice At nt ctt] 73)).alloc (.cells #[.slice none 0 0, .int .i64 0] 27) = W := ⟨_, rfl⟩
 have hba : Below w.heap.size w (w.alloc (.cells #[.pointer (some ⟨g, 0, none⟩), .slice At nt ctt] 73)) := (Below.refl _ w).alloc (Nat.le_refl _) _
 have hbb : Below w.heap.size w W1 := by rw [← hW1]; exact hba.alloc (by simp) _
 have hs1 : W1.heap.size = q + 2 := by rw [← hW1]; simp; omega
 have hz0 : q < W1.heap.size := by omega
 have hz1 : q + 1 < W1.heap.size := by omega
 have HX1 : Hid (Has W1 q 73 #[.pointer (some ⟨g, 0, none⟩), .slice At nt ctt]) := by rw [← hW1, ← hq]; exact (Has.new _ _ _).alloc _
 have HQ1 : Hid (Has W1 (q + 1) 27 #[.slice none 0 0, .int .i64 0]) := by
  have h := Has.new (w.alloc (.cells #[.pointer (some ⟨g, 0, none⟩), .slice At nt ctt] 73)) 27 #[.slice none 0 0, .int .i64 0]
  rw [World.size_alloc, hq, hW1] at h
  exact h
 have HR1 := Lib.hid (h.keep hg (hbb.mono hD))
 have HG1 := Lib.hid (grn_below (grown_refl w g) hbb)
 have x1 : W1.cell? ⟨q, 0, none⟩ = some (.pointer (some ⟨g, 0, none⟩)) := HX1.out.cell 0
 rw [hq] at hD
 have hgq : g < q := by omega
 clear h hl hb hl1 hb1 hba hbb hLc hn
 go_enter Tryz.func103, Tryz.ntmps103
 go_wp2_with fail
 clear x1 hW1
 refine (HK.out _ HR1.out).mono ?_
 rintro e w2 ⟨rfl, hr, hg2⟩
 have HX2 := Lib.hid (HX1.out.grn hg2.out (by omega))
 have HQ2 := Lib.hid (HQ1.out.grn hg2.out (by omega))
 have HG2 := Lib.hid (grown_trans HG1.out hg2.out)
 have HR2 := hr
 have hzq_2 : q < w2.heap.size := Nat.lt_of_lt_of_le hz0 hg2.out.size
 have hzqp1_2 : q + 1 < w2.heap.size := Nat.lt_of_lt_of_le hz1 hg2.out.size
 clear HX1 HQ1 HG1 HR1 hz0 hz1 hr hg2
 have HR2 := Lib.hid HR2.out
 obtain ⟨W3, hW3⟩ : ∃ W, W = w2.alloc (.cells #[.slice none 0 0, .int .i64 K] 27) := ⟨_, rfl⟩
 have hbl : Below w2.heap.size w2 W3 := by rw [hW3]; exact (Below.refl _ _).alloc (Nat.le_refl _) _
 have hnew : Has W3 w2.heap.size 27 #[.slice none 0 0, .int .i64 K] := by rw [hW3]; exact Has.new _ _ _
 have HX3 := Lib.hid (HX2.out.below hbl HX2.out.lt)
 have HQ3 := Lib.hid (HQ2.out.below hbl HQ2.out.lt)
 have HG3 := Lib.hid (grn_below HG2.out hbl)
 have HR3 := Lib.hid (HR2.out.keep hg (hbl.mono (by omega)))
 have hzq_3 : q < W3.heap.size := Nat.lt_of_lt_of_le hzq_2 hbl.size
 have hlt_q_q2 : q < w2.heap.size := hzq_2
 have hzqp1_3 : q + 1 < W3.heap.size := Nat.lt_of_lt_of_le hzqp1_2 hbl.size
 have hlt_qp1_q2 : q + 1 < w2.heap.size := hzqp1_2
 have HS3 := Lib.hid hnew
 have hzq2_3 : w2.heap.size < W3.heap.size := hnew.lt
 clear HX2 HQ2 HG2 HR2 hzq_2 hzqp1_2 hbl hnew
 have x0l : (w2.alloc (.cells #[.slice none 0 0, .int .i64 K] 27)).cell? ⟨q, 0, none⟩ = some (.pointer (some ⟨g, 0, none⟩)) := by rw [← hW3]; exact HX3.out.cell 0
 go_wp2_with fail
 clear x0l
 (try rw [← hW3])
 clear hW3
 generalize w2.heap.size = q2 at *
 refine (HN.out _ HR3.out).mono ?_
 rintro e w4 ⟨rfl, hr, hg4⟩
 have HX4 := Lib.hid (HX3.out.grn hg4.out (by omega))
 have HQ4 := Lib.hid (HQ3.out.grn hg4.out (by omega))
 have HS4 := Lib.hid (HS3.out.grn hg4.out (by omega))
 have HG4 := Lib.hid (grown_trans HG3.out hg4.out)
 have HR4 := hr
 have hzq_4 : q < w4.heap.size := Nat.lt_of_lt_of_le hzq_3 hg4.out.size
 have hzqp1_4 : q + 1 < w4.heap.size := Nat.lt_of_lt_of_le hzqp1_3 hg4.out.size
 have hzq2_4 : q2 < w4.heap.size := Nat.lt_of_lt_of_le hzq2_3 hg4.out.size
 clear HX3 HQ3 HS3 HG3 HR3 hzq_3 hzqp1_3 hzq2_3 hr hg4
 go_wp2_with fail
 go_loopw [14] (fun i wr => ∃ (k : Nat) (v : Value), k ≤ n ∧ i = .int .i64 k ∧ Hid (Has wr q 73 #[.pointer (some ⟨g, 0, none⟩), .slice At nt ctt]) ∧ Hid (Has wr (q + 1) 27 #[.slice none 0 0, .int .i64 0]) ∧ Hid (Has wr q2 27 #[v, .int .i64 K]) ∧ Hid (OwnC (q2 + 1) wr v (L.take k)) ∧ Hid (RdrD D wr g (colsD L k rest) 0) ∧ Hid (w.grownBy wr (some g)) ∧ q2 < wr.heap.size) (fun i _ => n - (intOf i).toNat)
 case atStart => exact ⟨0, .slice none 0 0, by omega, rfl, HX4, HQ4, HS4, ownC_nil _ _, HR4, HG4, hzq2_4⟩
 case round =>
  obtain ⟨k, v, hkn, rfl, HX, HQ, HS, HO, HR, HG, hz⟩ := hrel
  clear HX4 HQ4 HS4 HR4 HG4
  obtain ⟨Av, nv, cv, ev, _⟩ := ownC_open HO.out
  subst ev
  by_cases hkl : k < n
  ·have hkt : k < L.length := by rw [HLn.out]; exact hkl
   have hkz : (k : Int) < (n : Int) := by omega
   have HSU := colsD_succ L k rest hkt
   have hr0 := HR.out
   rw [HSU] at hr0
   obtain ⟨hl0, hb0⟩ := HL2.out k
   rw [HSU] at hl0 hb0
   obtain ⟨hs0, kq, hkq, hk256⟩ := HLC.out L[k] (List.getElem_mem hkt)
   have HTK : Hid (L.take (k + 1) = L.take k ++ [L[k]]) := List.take_succ_eq_append_getElem hkt
   have hLT : (L.take k).length ≤ 1000 := by rw [List.length_take]; omega
   generalize L.take k = LT at *
   generalize L[k] = xk at *
   obtain ⟨xn, xq, xd⟩ := xk
   simp only at hkq hs0
   subst hkq
   have HCC := Lib.hid (rcolumn_any g At nt ctt xn kq xd (colsD L (k + 1) rest) wr hr0 hg (by omega) hs0 hl0 hb0)
   clear hr0 hl0 hb0 HSU
   have x0 : wr.cell? ⟨q, 0, none⟩ = some (.pointer (some ⟨g, 0, none⟩)) := HX.out.cell 0
   have x1 : wr.cell? ⟨q, 1, none⟩ = some (.slice At nt ctt) := HX.out.cell 1
   go_wp2_with fail
   refine HCC.out.mono ?_
   rintro e w5 ⟨rfl, hr, hg5⟩
   clear x0 x1 HCC
   have HX5 := Lib.hid (HX.out.grn hg5.out (by omega))
   have HQ5 := Lib.hid (HQ.out.grn hg5.out (by omega))
   have HS5 := Lib.hid (HS.out.grn hg5.out (by omega))
   have HO5 := Lib.hid (HO.out.grR hg5.out (by omega))
   have HG5 := Lib.hid (grown_trans HG.out hg5.out)
   have hz5 : q2 < w5.heap.size := Nat.lt_of_lt_of_le hz hg5.out.size
   have HR5 := hr
   clear HX HQ HS HO HG HR hz hr hg5
   obtain ⟨W6, hW6⟩ : ∃ W, w5.alloc (.cells #[.string xn, .int .i64 kq, .bool xd] 29) = W := ⟨_, rfl⟩
   have hbl : Below w5.heap.size w5 W6 := by rw [← hW6]; exact (Below.refl _ _).alloc (Nat.le_refl _) _
   have hnew : Has W6 w5.heap.size 29 #[.string xn, .int .i64 kq, .bool xd] := by rw [← hW6]; exact Has.new _ _ _
   have HX6 := Lib.hid (HX5.out.below hbl HX5.out.lt)
   have HQ6 := Lib.hid (HQ5.out.below hbl HQ5.out.lt)
   have HS6 := Lib.hid (HS5.out.below hbl HS5.out.lt)
   have HO6 := Lib.hid (HO5.out.below hbl)
   have HG6 := Lib.hid (grn_below HG5.out hbl)
   have HR6 := Lib.hid (HR5.out.keep hg (hbl.mono (by omega)))
   have hz6 : q2 < W6.heap.size := Nat.lt_of_lt_of_le hz5 hbl.size
   obtain ⟨R7, W7, hrun7, ho7, hb7⟩ := appC W6 W6.heap.size rfl (q2 + 1) (.slice Av nv cv) LT ⟨xn, kq, xd⟩ HO6.out (by omega) hLT
   obtain ⟨A7, n7, c7, e7, _⟩ := ownC_open ho7
   subst e7
   have HX7 := Lib.hid (Has.lowB HX6.out hb7 (by omega))
   have HQ7 := Lib.hid (Has.lowB HQ6.out hb7 (by omega))
   have HS7 := Lib.hid (Has.lowB HS6.out hb7 (by omega))
   have HG7 := Lib.hid (grn_lowB HG6.out hb7 (by omega) (by have := HG6.out.size; omega))
   have HR7 := Lib.hid (HR6.out.keep hg (hb7.mono (by omega)))
   have HO7 := Lib.hid ho7
   have hz7 : q2 < W7.heap.size := Nat.lt_of_lt_of_le hz6 hb7.size
   have d0 : W6.cell? ⟨w5.heap.size, 0, none⟩ = some (.string xn) := hnew.cell 0
   have d1 : W6.cell? ⟨w5.heap.size, 1, none⟩ = some (.int .i64 kq) := hnew.cell 1
   have d2 : W6.cell? ⟨w5.heap.size, 2, none⟩ = some (.bool xd) := hnew.cell 2
   have s0 : W6.cell? ⟨q2, 0, none⟩ = some (.slice Av nv cv) := HS6.out.cell 0
   have t0 : W7.cell? ⟨q2, 0, none⟩ = some (.slice Av nv cv) := HS7.out.cell 0
   have u0 : W7.frozen? ⟨q2, 0, none⟩ = false := HS7.out.free 0
   clear HX5 HQ5 HS5 HO5 HG5 HR5 hz5 hbl hnew HX6 HQ6 HS6 HO6 HG6 HR6 ho7 hb7
   obtain ⟨W8, hW8⟩ : ∃ W, W7.setCell ⟨q2, 0, none⟩ (.slice A7 n7 c7) = W := ⟨_, rfl⟩
   have HX8 : Hid (Has W8 q 73 #[.pointer (some ⟨g, 0, none⟩), .slice At nt ctt]) := by rw [← hW8]; exact HX7.out.far (p := ⟨q2, 0, none⟩) (by show q ≠ q2; omega) (.slice A7 n7 c7)
   have HQ8 : Hid (Has W8 (q + 1) 27 #[.slice none 0 0, .int .i64 0]) := by rw [← hW8]; exact HQ7.out.far (p := ⟨q2, 0, none⟩) (by show q + 1 ≠ q2; omega) (.slice A7 n7 c7)
   have HS8 : Hid (Has W8 q2 27 #[.slice A7 n7 c7, .int .i64 K]) := by rw [← hW8]; exact HS7.out.put 0 (.slice A7 n7 c7)
   have HO8 : Hid (OwnC (q2 + 1) W8 (.slice A7 n7 c7) (L.take (k + 1))) := by rw [← hW8, HTK.out]; exact HO7.out.setR (p := ⟨q2, 0, none⟩) (by show q2 < q2 + 1; omega) (.slice A7 n7 c7)
   have HG8 : Hid (w.grownBy W8 (some g)) := by rw [← hW8]; exact grn_set HG7.out (p := ⟨q2, 0, none⟩) (by show w.heap.size ≤ q2; omega) (.slice A7 n7 c7)
   have HR8 : Hid (RdrD D W8 g (colsD L (k + 1) rest) 0) := by rw [← hW8]; exact HR7.out.keep hg ((Below.refl D W7).setCell (p := ⟨q2, 0, none⟩) (by show D ≤ q2; omega) (.slice A7 n7 c7))
   have hz8 : q2 < W8.heap.size := by rw [← hW8, size_set]; exact hz7
   go_wp2_with (at_builtin; refine wpList_app rfl _ _ 25 25 rfl (.slice Av nv cv) (.slice (some ⟨W6.heap.size, 0, none⟩) 1 1) rfl rfl ⟨_, _, hrun7, ?_⟩)
   go_roundw
   case rel => exact ⟨k + 1, .slice A7 n7 c7, by omega, by go_num, HX8, HQ8, HS8, HO8, HR8, HG8, hz8⟩
   case measure => simp [intOf]; omega
  ·obtain rfl : k = n := by omega
   have hkz : ¬ ((k : Int) < (k : Int)) := by omega
   have hend : colsD L k rest = rest := by rw [← HLn.out]; exact colsD_end L rest
   have hall : L.take k = L := by rw [← HLn.out]; exact List.take_length
   rw [hend] at HR
   rw [hall] at HO
   clear hend hall
   have s0 : wr.cell? ⟨q2, 0, none⟩ = some (.slice Av nv cv) := HS.out.cell 0
   have s1 : wr.cell? ⟨q2, 1, none⟩ = some (.int .i64 K) := HS.out.cell 1
   have a0 : wr.cell? ⟨q + 1, 0, none⟩ = some (.slice none 0 0) := HQ.out.cell 0
   have a1 : wr.cell? ⟨q + 1, 1, none⟩ = some (.int .i64 0) := HQ.out.cell 1
   have b0 : wr.frozen? ⟨q + 1, 0, none⟩ = false := HQ.out.free 0
   have b1 : wr.frozen? ⟨q + 1, 1, none⟩ = false := HQ.out.free 1
   obtain ⟨W9, hW9⟩ : ∃ W, (wr.setCell ⟨q + 1, 0, none⟩ (.slice Av nv cv)).setCell ⟨q + 1, 1, none⟩ (.int .i64 K) = W := ⟨_, rfl⟩
   have HQ9 : Hid (Has W9 (q + 1) 27 #[.slice Av nv cv, .int .i64 K]) := by rw [← hW9]; exact (HQ.out.put 0 (.slice Av nv cv)).put 1 _
   have HO9 : Hid (OwnC q W9 (.slice Av nv cv) L) := by rw [← hW9]; exact ((HO.out.setR (p := ⟨q + 1, 0, none⟩) (by show q + 1 < q2 + 1; omega) (.slice Av nv cv)).setR (p := ⟨q + 1, 1, none⟩) (by show q + 1 < q2 + 1; omega) _).downR (by omega)
   have HG9 : Hid (w.grownBy W9 (some g)) := by rw [← hW9]; exact grn_set (grn_set HG.out (p := ⟨q + 1, 0, none⟩) (by show w.heap.size ≤ q + 1; omega) (.slice Av nv cv)) (p := ⟨q + 1, 1, none⟩) (by show w.heap.size ≤ q + 1; omega) _
   have HR9 : Hid (RdrD D W9 g rest 0) := by rw [← hW9]; exact HR.out.keep hg (((Below.refl D wr).setCell (p := ⟨q + 1, 0, none⟩) (by show D ≤ q + 1; omega) (.slice Av nv cv)).setCell (p := ⟨q + 1, 1, none⟩) (by show D ≤ q + 1; omega) _)
   go_wp2_with fail
   exact bodyPost_ret (schEndR rfl _ (q + 1) _ _ _ rfl HQ9.out) rfl ⟨⟨_, rfl, HO9⟩, HR9, HG9⟩
theorem allE {W : World} {g : Nat} {t : TypeId} {a0 a1 a2 a3 a4 a5 a6 a7 a8 a9 a10 a11 : Value} (h : Has W g t #[a0, a1, a2, a3, a4, a5, a6, a7, a8, a9, a10, a11]) : W.cell? ⟨g, 0, none⟩ = some a0 ∧ W.cell? ⟨g, 1, none⟩ = some a1 ∧ W.cell? ⟨g, 2, none⟩ = some a2 ∧ W.cell? ⟨g, 3, none⟩ = some a3 ∧ W.cell? ⟨g, 4, none⟩ = some a4 ∧ W.cell? ⟨g, 5, none⟩ = some a5 ∧ W.cell? ⟨g, 6, none⟩ = some a6 ∧ W.cell? ⟨g, 7, none⟩ = some a7 ∧ W.cell? ⟨g, 8, none⟩ = some a8 ∧ W.cell? ⟨g, 9, none⟩ = some a9 ∧ W.cell? ⟨g, 10, none⟩ = some a10 ∧ W.cell? ⟨g, 11, none⟩ = some a11 ∧ W.frozen? ⟨g, 0, none⟩ = false ∧ W.frozen? ⟨g, 1, none⟩ = false ∧ W.frozen? ⟨g, 2, none⟩ = false ∧ W.frozen? ⟨g, 3, none⟩ = false ∧ W.frozen? ⟨g, 4, none⟩ = false ∧ W.frozen? ⟨g, 5, none⟩ = false ∧ W.frozen? ⟨g, 6, none⟩ = false ∧ W.frozen? ⟨g, 7, none⟩ = false ∧ W.frozen? ⟨g, 8, none⟩ = false ∧ W.frozen? ⟨g, 9, none⟩ = false ∧ W.frozen? ⟨g, 10, none⟩ = false ∧ W.frozen? ⟨g, 11, none⟩ = false :=
 ⟨h.cell 0, h.cell 1, h.cell 2, h.cell 3, h.cell 4, h.cell 5, h.cell 6, h.cell 7, h.cell 8, h.cell 9, h.cell 10, h.cell 11, h.free 0, h.free 1, h.free 2, h.free 3, h.free 4, h.free 5, h.free 6, h.free 7, h.free 8, h.free 9, h.free 10, h.free 11⟩
theorem evEndR {fn : Func} {p u : Tmp} (h : fn.results = #[.cell p 33, .tmp u]) (w' : World) (g : Nat) (u0 u1 u2 u3 u4 u5 u6 u7 u8 u9 u10 u11 : Value) (tmps : Array Value) (hp : tmps.getD p undef = .pointer (some ⟨g, 0, none⟩)) (hh : Has w' g 33 #[u0, u1, u2, u3, u4, u5, u6, u7, u8, u9, u10, u11]) :
 (results fn tmps).run Tryz.prog w' = .ok (.tuple #[.agg #[u0, u1, u2, u3, u4, u5, u6, u7, u8, u9, u10, u11], tmps.getD u undef]) w' := by
 rw [results_ct h, hp]
 simp only [asAddr, Sem.run_pure, Result.andThen_ok]
 rw [run_loadVar_row w' g 33 33 #[u0, u1, u2, u3, u4, u5, u6, u7, u8, u9, u10, u11] (0, 0) _ hh Tryz.underlying33 rfl (by kernel_rfl)]
 rfl
theorem form_any (ok : Bool) (w : World) : Calls Tryz.prog 100 #[.bool ok] w fun e w' => e = .returned (.int .i64 (if ok then 0 else 2)) ∧ w' = w := by
 rcases ok with _ | _
 ·go_enter Tryz.func100, Tryz.ntmps100
  go_wp2_with fail
  go_ret
  exact ⟨rfl, rfl⟩
 ·go_enter Tryz.func100, Tryz.ntmps100
  go_wp2_with fail
  go_ret
  exact ⟨rfl, rfl⟩
set_option maxHeartbeats 16000000 in
theorem rnumber_any {D : Nat} (g : Nat) (At : Option Addr) (nt ctt : Nat) (m : Nat) (rest : List Nat) (w : World) (h : RdrD D w g (digs m ++ rest) 0) (hg : g < D) (hD : D ≤ w.heap.size) (hm : m ≤ 9223372036854775807) (hl : ∀ x ∈ digs m ++ rest, x < 256) (hb : (digs m ++ rest).length ≤ 1000000) :
 Calls Tryz.prog 71 #[.agg #[.pointer (some ⟨g, 0, none⟩), .slice At nt ctt]] w fun e w' => e = .returned (.tuple #[.agg #[.int .i64 0, .int .i64 (m : Int), .string ⟨#[]⟩, .slice none 0 0, .slice none 0 0, .int .i64 0, .string ⟨#[]⟩, .slice none 0 0, .int .i64 0, .string ⟨#[]⟩, .int .i64 0, .bool false], .int .i64 0]) ∧ Hid (RdrD D w' g rest 0) ∧ Hid (w.grownBy w' (some g)) := by
 have HN := Lib.hid (fun W (hr : RdrD D W g (digs m ++ rest) 0) => numD_put g m rest W hr hm hl hb)
 obtain ⟨q, hq⟩ : ∃ q, w.heap.size = q := ⟨_, rfl⟩
 obtain ⟨W1, hW1⟩ : ∃ W, (w.alloc (.cells #[.pointer (some ⟨g, 0, none⟩), .slice At nt ctt] 73)).alloc (.cells #[.int .i64 0, .int .i64 0, .string ⟨#[]⟩, .slice none 0 0, .slice none 0 0, .int .i64 0, .string ⟨#[]⟩, .slice none 0 0, .int .i64 0, .string ⟨#[]⟩, .int .i64 0, .bool false] 33) = W := ⟨_, rfl⟩
 have hba : Below w.heap.size w (w.alloc (.cells #[.pointer (some ⟨g, 0, none⟩), .slice At nt ctt] 73)) := (Below.refl _ w).alloc (Nat.le_refl _) _
 have hbb : Below w.heap.size w W1 := by rw [← hW1]; exact hba.alloc (by simp) _
 have hs1 : W1.heap.size = q + 2 := by rw [← hW1]; simp; omega
 have hz0 : q < W1.heap.size := by omega
 have hz1 : q + 1 < W1.heap.size := by omega
 have HX1 : Hid (Has W1 q 73 #[.pointer (some ⟨g, 0, none⟩), .slice At nt ctt]) := by rw [← hW1, ← hq]; exact (Has.new _ _ _).alloc _
 have HQ1 : Hid (Has W1 (q + 1) 33 #[.int .i64 0, .int .i64 0, .string ⟨#[]⟩, .slice none 0 0, .slice none 0 0, .int .i64 0, .string ⟨#[]⟩, .slice none 0 0, .int .i64 0, .string ⟨#[]⟩, .int .i64 0, .bool false]) := by
  have h := Has.new (w.alloc (.cells #[.pointer (some ⟨g, 0, none⟩), .slice At nt ctt] 73)) 33 #[.int .i64 0, .int .i64 0, .string ⟨#[]⟩, .slice none 0 0, .slice none 0 0, .int .i64 0, .string ⟨#[]⟩, .slice none 0 0, .int .i64 0, .string ⟨#[]⟩, .int .i64 0, .bool false]
  rw [World.size_alloc, hq, hW1] at h
  exact h
 have HR1 := Lib.hid (h.keep hg (hbb.mono hD))
 have HG1 := Lib.hid (grn_below (grown_refl w g) hbb)
 have x1 : W1.cell? ⟨q, 0, none⟩ = some (.pointer (some ⟨g, 0, none⟩)) := HX1.out.cell 0
 have x2 : W1.cell? ⟨q, 1, none⟩ = some (.slice At nt ctt) := HX1.out.cell 1
 rw [hq] at hD
 have hgq : g < q := by omega
 clear h hba hbb
 clear hl hb
 go_enter Tryz.func71, Tryz.ntmps71
 go_wp2_with fail
 clear x1 x2 hW1
 refine (HN.out _ HR1.out).mono ?_
 rintro e w2 ⟨rfl, hr, hg2⟩
 have HX2 := Lib.hid (HX1.out.grn hg2.out (by omega))
 have HQ2 := Lib.hid (HQ1.out.grn hg2.out (by omega))
 have HG2 := Lib.hid (grown_trans HG1.out hg2.out)
 have HR2 := hr
 have hzq_2 : q < w2.heap.size := Nat.lt_of_lt_of_le hz0 hg2.out.size
 have hzqp1_2 : q + 1 < w2.heap.size := Nat.lt_of_lt_of_le hz1 hg2.out.size
 clear HX1 HQ1 HG1 HR1 hz0 hz1 hr hg2
 have HP : Hid (Has (put12 w2 (q + 1) (.int .i64 0) (.int .i64 (m : Int)) (.string ⟨#[]⟩) (.slice none 0 0) (.slice none 0 0) (.int .i64 0) (.string ⟨#[]⟩) (.slice none 0 0) (.int .i64 0) (.string ⟨#[]⟩) (.int .i64 0) (.bool false)) (q + 1) 33 #[.int .i64 0, .int .i64 (m : Int), .string ⟨#[]⟩, .slice none 0 0, .slice none 0 0, .int .i64 0, .string ⟨#[]⟩, .slice none 0 0, .int .i64 0, .string ⟨#[]⟩, .int .i64 0, .bool false]) := put12_has HQ2.out (.int .i64 0) (.int .i64 (m : Int)) (.string ⟨#[]⟩) (.slice none 0 0) (.slice none 0 0) (.int .i64 0) (.string ⟨#[]⟩) (.slice none 0 0) (.int .i64 0) (.string ⟨#[]⟩) (.int .i64 0) (.bool false)
 have HTU := Lib.hid (put12_tur w2 (q + 1) (.int .i64 0) (.int .i64 (m : Int)) (.string ⟨#[]⟩) (.slice none 0 0) (.slice none 0 0) (.int .i64 0) (.string ⟨#[]⟩) (.slice none 0 0) (.int .i64 0) (.string ⟨#[]⟩) (.int .i64 0) (.bool false))
 obtain ⟨c0w2, c1w2, c2w2, c3w2, c4w2, c5w2, c6w2, c7w2, c8w2, c9w2, c10w2, c11w2, f0w2, f1w2, f2w2, f3w2, f4w2, f5w2, f6w2, f7w2, f8w2, f9w2, f10w2, f11w2⟩ := allE HQ2.out
 go_wp2_with fail
 have hbP : Below (q + 1) w2 (put12 w2 (q + 1) (.int .i64 0) (.int .i64 (m : Int)) (.string ⟨#[]⟩) (.slice none 0 0) (.slice none 0 0) (.int .i64 0) (.string ⟨#[]⟩) (.slice none 0 0) (.int .i64 0) (.string ⟨#[]⟩) (.int .i64 0) (.bool false)) := HTU.out.below (fun k hk => by simp at hk; omega) (by omega)
 refine bodyPost_ret (evEndR rfl (put12 w2 (q + 1) (.int .i64 0) (.int .i64 (m : Int)) (.string ⟨#[]⟩) (.slice none 0 0) (.slice none 0 0) (.int .i64 0) (.string ⟨#[]⟩) (.slice none 0 0) (.int .i64 0) (.string ⟨#[]⟩) (.int .i64 0) (.bool false)) (q + 1) (.int .i64 0) (.int .i64 (m : Int)) (.string ⟨#[]⟩) (.slice none 0 0) (.slice none 0 0) (.int .i64 0) (.string ⟨#[]⟩) (.slice none 0 0) (.int .i64 0) (.string ⟨#[]⟩) (.int .i64 0) (.bool false) _ rfl HP.out) rfl ?_
 exact ⟨rfl, HR2.out.keep hg (hbP.mono (by omega)), grn_lowB HG2.out hbP (by omega) (by omega)⟩
end Go.Proofs.YtnpmgempkoeapaaGreatDoor
