/-
  Put together, as far as it is used: EwR5.
-/
import Derived.Test.YtnpmgempkoeapaaGreatDoorPebl
import Derived.Test.YtnpmgempkoeapaaGreatDoorPebo
set_option linter.unusedVariables false
set_option linter.unusedSimpArgs false
set_option linter.defProp false
namespace Go.Proofs.YtnpmgempkoeapaaGreatDoor
open Go.RowKit Go.Maps Dg
set_option maxRecDepth 100000
theorem results_tct {fn : Func} {p0 p1 p2 : Tmp} {ty : TypeId} (h : fn.results = #[.tmp p0, .cell p1 ty, .tmp p2]) (tmps : Array Value) (P : Program) (w : World) :
 (results fn tmps).run P w = ((asAddr (tmps.getD p1 undef)).run P w).andThen fun a w₁ => ((loadVar ty a).run P w₁).andThen fun v w₂ => .ok (.tuple #[tmps.getD p0 undef, v, tmps.getD p2 undef]) w₂ := by
 simp only [results, h]
 simp [Sem.run_bind, Result.andThen]
theorem tabEnd {fn : Func} {p0 p1 p2 : Tmp} (h : fn.results = #[.tmp p0, .cell p1 27, .tmp p2]) (w' : World) (g : Nat) (u0 u1 : Value) (tmps : Array Value) (hp : tmps.getD p1 undef = .pointer (some ⟨g, 0, none⟩)) (hh : Has w' g 27 #[u0, u1]) :
 (results fn tmps).run Tryz.prog w' = .ok (.tuple #[tmps.getD p0 undef, .agg #[u0, u1], tmps.getD p2 undef]) w' := by
 rw [results_tct h, hp]
 simp only [asAddr, Sem.run_pure, Result.andThen_ok]
 rw [run_loadVar_row w' g 27 27 #[u0, u1] (0, 0) _ hh Tryz.underlying27 rfl (by kernel_rfl)]
 rfl
set_option maxHeartbeats 16000000 in
theorem rtable_any {D : Nat} (g : Nat) (At : Option Addr) (nt ctt : Nat) (t : ByteArray) (yA : Option Addr) (yn yc : Nat) (kk : Int) (rest : List Nat) (w : World) (h : RdrD D w g (ytxt t ++ rest) 0) (hg : g < D) (hD : D ≤ w.heap.size) (ht : t.size ≤ 900) (hF : ∀ W, w.grownBy W (some g) → Calls Tryz.prog 24 #[.slice At nt ctt, .string t] W fun e w' => e = .returned (.tuple #[.agg #[.slice yA yn yc, .int .i64 kk], .bool true]) ∧ Hid (Below W.heap.size W w')) (hl : ∀ x ∈ ytxt t ++ rest, x < 256) (hb : (ytxt t ++ rest).length ≤ 1000000) :
 Calls Tryz.prog 98 #[.agg #[.pointer (some ⟨g, 0, none⟩), .slice At nt ctt]] w fun e w' => e = .returned (.tuple #[.string t, .agg #[.slice yA yn yc, .int .i64 kk], .int .i64 0]) ∧ Hid (RdrD D w' g rest 0) ∧ Hid (w.grownBy w' (some g)) := by
 have HT := Lib.hid (fun W (hr : RdrD D W g (ytxt t ++ rest) 0) => txtD_put g 9223372036854775807 t rest W hr ht (by omega) hl hb)
 have HE := Lib.hid (fun W (hr : RdrD D W g rest 0) => Errno_get g rest 0 W hr.rdr)
 have HFF := Lib.hid hF
 obtain ⟨q, hq⟩ : ∃ q, w.heap.size = q := ⟨_, rfl⟩
 obtain ⟨W1, hW1⟩ : ∃ W, (w.alloc (.cells #[.pointer (some ⟨g, 0, none⟩), .slice At nt ctt] 73)).alloc (.cells #[.slice none 0 0, .int .i64 0] 27) = W := ⟨_, rfl⟩
 have hba : Below w.heap.size w (w.alloc (.cells #[.pointer (some ⟨g, 0, none⟩), .slice At nt ctt] 73)) := (Below.refl _ w).alloc (Nat.le_refl _) _
 have hbb : Below w.heap.size w W1 := by rw [← hW1]; exact hba.alloc (by simp) _
 have hs1 : W1.heap.size = q + 2 := by rw [← hW1]; simp; omega
 have hz0 : q < W1.heap.size := by omega
 have hz1 : q + 1 < W1.heap.size := by omega
 have HX1 : Hid (Has W1 q 73 #[.pointer (some ⟨g, 0, none⟩), .slice At nt ctt]) := by rw [← hW1, ← hq]; exact (Has.new _ _ _).alloc _
 have HQ1 : Hid (Has W1 (q + 1) 27 #[.slice none 0 0, .int .i64 0]) := by
  have h := Has.new (w.alloc (.cells #[.pointer (some ⟨g, 0, none⟩), .slice At nt ctt] 73)) 27 #[.slice none 0 0, .int .i64 0]
  rw [World.size_alloc, hq, hW1] at h
  exact h
 have HR1 := Lib.hid (h.keep hg (hbb.mono hD))
 have HG1 := Lib.hid (grn_below (grown_refl w g) hbb)
 have x1 : W1.cell? ⟨q, 0, none⟩ = some (.pointer (some ⟨g, 0, none⟩)) := HX1.out.cell 0
 have x2 : W1.cell? ⟨q, 1, none⟩ = some (.slice At nt ctt) := HX1.out.cell 1
 rw [hq] at hD
 have hgq : g < q := by omega
 clear h hba hbb
 clear hl hb hF
 go_enter Tryz.func98, Tryz.ntmps98
 go_wp2_with fail
 clear x1 x2 hW1
 refine (HT.out _ HR1.out).mono ?_
 rintro e w2 ⟨rfl, hr, hg2⟩
 have HX2 := Lib.hid (HX1.out.grn hg2.out (by omega))
 have HQ2 := Lib.hid (HQ1.out.grn hg2.out (by omega))
 have HG2 := Lib.hid (grown_trans HG1.out hg2.out)
 have HR2 := hr
 have hzq_2 : q < w2.heap.size := Nat.lt_of_lt_of_le hz0 hg2.out.size
 have hzqp1_2 : q + 1 < w2.heap.size := Nat.lt_of_lt_of_le hz1 hg2.out.size
 clear HX1 HQ1 HG1 HR1 hz0 hz1 hr hg2
 have HR2 := Lib.hid HR2.out
 have x0w2 : w2.cell? ⟨q, 0, none⟩ = some (.pointer (some ⟨g, 0, none⟩)) := HX2.out.cell 0
 have x1w2 : w2.cell? ⟨q, 1, none⟩ = some (.slice At nt ctt) := HX2.out.cell 1
 go_wp2_with fail
 refine (HE.out _ HR2.out).mono ?_
 rintro e wx ⟨rfl, hwx⟩
 obtain rfl : w2 = wx := hwx
 go_wp2_with fail
 refine (HFF.out _ HG2.out).mono ?_
 rintro e w3 ⟨rfl, hb3⟩
 clear x0w2 x1w2
 have HX3 := Lib.hid (HX2.out.below hb3.out HX2.out.lt)
 have HQ3 := Lib.hid (HQ2.out.below hb3.out HQ2.out.lt)
 have HG3 := Lib.hid (grn_below HG2.out hb3.out)
 have HR3 := Lib.hid (HR2.out.keep hg (hb3.out.mono (by omega)))
 have hzq_3 : q < w3.heap.size := Nat.lt_of_lt_of_le hzq_2 hb3.out.size
 have hzqp1_3 : q + 1 < w3.heap.size := Nat.lt_of_lt_of_le hzqp1_2 hb3.out.size
 clear HX2 HQ2 HG2 HR2 hzq_2 hzqp1_2 hb3
 obtain ⟨W4, hW4⟩ : ∃ W, W = w3.alloc (.cells #[.slice yA yn yc, .int .i64 kk] 27) := ⟨_, rfl⟩
 have hbl : Below w3.heap.size w3 W4 := by rw [hW4]; exact (Below.refl _ _).alloc (Nat.le_refl _) _
 have hnew : Has W4 w3.heap.size 27 #[.slice yA yn yc, .int .i64 kk] := by rw [hW4]; exact Has.new _ _ _
 have HX4 := Lib.hid (HX3.out.below hbl HX3.out.lt)
 have HQ4 := Lib.hid (HQ3.out.below hbl HQ3.out.lt)
 have HG4 := Lib.hid (grn_below HG3.out hbl)
 have HR4 := Lib.hid (HR3.out.keep hg (hbl.mono (by omega)))
 have hzq_4 : q < W4.heap.size := Nat.lt_of_lt_of_le hzq_3 hbl.size
 have hlt_q_q2 : q < w3.heap.size := hzq_3
 have hzqp1_4 : q + 1 < W4.heap.size := Nat.lt_of_lt_of_le hzqp1_3 hbl.size
 have hlt_qp1_q2 : q + 1 < w3.heap.size := hzqp1_3
 have HS4 := Lib.hid hnew
 have hzq2_4 : w3.heap.size < W4.heap.size := hnew.lt
 clear HX3 HQ3 HG3 HR3 hzq_3 hzqp1_3 hbl hnew
 go_wp2_with fail
 (try rw [← hW4])
 clear hW4
 generalize w3.heap.size = q2 at *
 obtain ⟨Wd, hWd⟩ : ∃ X, X = W4.drew := ⟨_, rfl⟩
 have hbd : Below W4.heap.size W4 Wd := by rw [hWd]; exact (Below.refl _ _).drew
 have HX5 := Lib.hid (HX4.out.below hbd HX4.out.lt)
 have HQ5 := Lib.hid (HQ4.out.below hbd HQ4.out.lt)
 have HS5 := Lib.hid (HS4.out.below hbd HS4.out.lt)
 have HG5 := Lib.hid (grn_below HG4.out hbd)
 have HR5 := Lib.hid (HR4.out.keep hg (hbd.mono (by omega)))
 have hzq_5 : q < Wd.heap.size := Nat.lt_of_lt_of_le hzq_4 hbd.size
 have hzqp1_5 : q + 1 < Wd.heap.size := Nat.lt_of_lt_of_le hzqp1_4 hbd.size
 have hzq2_5 : q2 < Wd.heap.size := Nat.lt_of_lt_of_le hzq2_4 hbd.size
 clear HX4 HQ4 HS4 HG4 HR4 hzq_4 hzqp1_4 hzq2_4
 have hSd : (fun X : World => X.cell? ⟨q2, 0, none⟩ = some (.slice yA yn yc) ∧ X.cell? ⟨q2, 1, none⟩ = some (.int .i64 kk)) Wd := ⟨HS5.out.cell 0, HS5.out.cell 1⟩
 clear hbd
 refine wp_region_held_drew (S := (fun X : World => X.cell? ⟨q2, 0, none⟩ = some (.slice yA yn yc) ∧ X.cell? ⟨q2, 1, none⟩ = some (.int .i64 kk))) (by kernel_rfl) (hWd ▸ hSd) (fun _ => ?_)
 rw [← hWd]
 clear hWd
 (refine wpAnyH_take (i := 0) (v := ?_) rfl (by kernel_rfl) (by kernel_rfl) (by kernel_rfl) (fun _ _ _ h => h) (Or.inl ⟨by rfl, ?_⟩) (by assumption) ?_; rotate_left; (intro w hSw; (try dsimp only at hSw); go_simp; try with_reducible rfl); ((try simp only [zA, zB, zC, Act.put, zD, zE, zF])))
 (refine wpAnyH_take (i := 1) (v := ?_) rfl (by kernel_rfl) (by kernel_rfl) (by kernel_rfl) (fun _ _ _ h => h) (Or.inl ⟨by rfl, ?_⟩) (by assumption) ?_; rotate_left; (intro w hSw; (try dsimp only at hSw); go_simp; try with_reducible rfl); ((try simp only [zA, zB, zC, Act.put, zD, zE, zF])))
 (refine wpAnyH_take (i := 2) (v := ?_) rfl (by kernel_rfl) (by kernel_rfl) (by kernel_rfl) (fun _ _ _ h => h) (Or.inl ⟨by rfl, ?_⟩) (by assumption) ?_; rotate_left; (intro w hSw; (try dsimp only at hSw); go_simp; try with_reducible rfl); ((try simp only [zA, zB, zC, Act.put, zD, zE, zF])))
 have c0Wd : Wd.cell? ⟨q + 1, 0, none⟩ = some (.slice none 0 0) := HQ5.out.cell 0
 have c1Wd : Wd.cell? ⟨q + 1, 1, none⟩ = some (.int .i64 0) := HQ5.out.cell 1
 have f0Wd : Wd.frozen? ⟨q + 1, 0, none⟩ = false := HQ5.out.free 0
 have f1Wd : Wd.frozen? ⟨q + 1, 1, none⟩ = false := HQ5.out.free 1
 obtain ⟨W5, hW5⟩ : ∃ W, ((Wd.setCell ⟨q + 1, 0, none⟩ (.slice yA yn yc)).setCell ⟨q + 1, 1, none⟩ (.int .i64 kk)) = W := ⟨_, rfl⟩
 have HX6 : Hid (Has W5 (q) 73 #[.pointer (some ⟨g, 0, none⟩), .slice At nt ctt]) := by rw [← hW5]; exact ((HX5.out.far (p := ⟨q + 1, 0, none⟩) (by show q ≠ q + 1; omega) (.slice yA yn yc)).far (p := ⟨q + 1, 1, none⟩) (by show q ≠ q + 1; omega) (.int .i64 kk))
 have HQ6 : Hid (Has W5 (q + 1) 27 #[.slice yA yn yc, .int .i64 kk]) := by rw [← hW5]; exact ((HQ5.out.put 0 (.slice yA yn yc)).put 1 (.int .i64 kk))
 have HS6 : Hid (Has W5 (q2) 27 #[.slice yA yn yc, .int .i64 kk]) := by rw [← hW5]; exact ((HS5.out.far (p := ⟨q + 1, 0, none⟩) (by show q2 ≠ q + 1; omega) (.slice yA yn yc)).far (p := ⟨q + 1, 1, none⟩) (by show q2 ≠ q + 1; omega) (.int .i64 kk))
 have HG6 : Hid (w.grownBy W5 (some g)) := by rw [← hW5]; exact (grn_set (grn_set HG5.out (p := ⟨q + 1, 0, none⟩) (by show w.heap.size ≤ q + 1; omega) (.slice yA yn yc)) (p := ⟨q + 1, 1, none⟩) (by show w.heap.size ≤ q + 1; omega) (.int .i64 kk))
 have HR6 : Hid (RdrD D W5 g (rest) 0) := by rw [← hW5]; exact HR5.out.keep hg (((Below.refl D Wd).setCell (p := ⟨q + 1, 0, none⟩) (by show D ≤ q + 1; omega) (.slice yA yn yc)).setCell (p := ⟨q + 1, 1, none⟩) (by show D ≤ q + 1; omega) (.int .i64 kk))
 have hzq_6 : q < W5.heap.size := by rw [← hW5]; simpa using hzq_5
 have hzqp1_6 : q + 1 < W5.heap.size := by rw [← hW5]; simpa using hzqp1_5
 have hzq2_6 : q2 < W5.heap.size := by rw [← hW5]; simpa using hzq2_5
 clear HX5 HQ5 HS5 HG5 HR5 hzq_5 hzqp1_5 hzq2_5
 refine wpAnyH_ready (rs := [3]) (by kernel_rfl) (by simp) ?_
 refine AllReadyH.cons rfl (fun K2 hK2 => ?_) AllReadyH.nil
 go_simp
 refine hK2.out _ _ (by (try dsimp only); exact ⟨HS6.out.cell 0, HS6.out.cell 1⟩) (fun _ => ?_)
 clear hK2 K2
 (try simp only [zA, zB, zC, Act.put, zD, zE, zF])
 (refine wpAnyH_take (i := 4) (v := ?_) rfl (by kernel_rfl) (by kernel_rfl) (by kernel_rfl) (fun _ _ _ h => h) (Or.inl ⟨by rfl, ?_⟩) (by assumption) ?_; rotate_left; (intro w hSw; (try dsimp only at hSw); go_simp; try with_reducible rfl); ((try simp only [zA, zB, zC, Act.put, zD, zE, zF])))
 refine wpAnyH_done (by kernel_rfl) ?_ _
 go_wp2_with fail
 exact bodyPost_ret (tabEnd rfl _ (q + 1) _ _ _ rfl HQ6.out) rfl ⟨rfl, HR6, HG6⟩
theorem iimg_any {D : Nat} (g : Nat) (A : Option Addr) (M : List Cl) (n c : Nat) (K : Int) (R : List Vl) (rest : List Nat) (w : World) (h : RdrD D w g (imgF R ++ rest) 0) (hgD : g < D) (hD : D ≤ w.heap.size) (hl : ∀ x ∈ imgF R ++ rest, x < 256) (hb : (imgF R ++ rest).length ≤ 100000) (hM : M.length = n) (h1 : 1 ≤ n) (h8 : n ≤ 8) (hA : CRow w A M) (hk : ∀ x ∈ M, 1 ≤ x.k ∧ x.k ≤ 4) (hT : Tabs w) (hf : fitsF M R = true) (hfit : ∀ x ∈ R, x.fits) (hsz : ∀ x ∈ R, x.s.size ≤ 1000) :
 Calls Tryz.prog 99 #[.pointer (some ⟨g, 0, none⟩), .agg #[.slice A n c, .int .i64 K]] w fun x w' => (∃ A' n' c', x = .returned (.tuple #[.slice A' n' c', .bool true]) ∧ Hid (R.length = n') ∧ Hid (VRow w' A' R) ∧ Hid (n' ≤ c' ∧ ∀ a, A' = some a → w.heap.size ≤ a.block)) ∧ Hid (RdrD D w' g rest 0) ∧ Hid (w.grownBy w' (some g)) := by
 have e := read_img M R rest hf (by omega) hfit hsz
 refine (iread_any g _ 0 A M n c K w h hgD hD hl hb hM h1 h8 hA hk hT).mono ?_
 rw [e]
 rintro x w' ⟨⟨A', n', c', rfl, hn, hv, hnc⟩, hr, hg⟩
 exact ⟨⟨A', n', c', rfl, hn, hv, hnc⟩, hr, hg⟩
theorem ikey_any {D : Nat} (g : Nat) (A : Option Addr) (M : List Cl) (n c kk : Nat) (R : List Vl) (rest : List Nat) (w : World) (h : RdrD D w g (imgF R ++ rest) 0) (hgD : g < D) (hD : D ≤ w.heap.size) (hl : ∀ x ∈ imgF R ++ rest, x < 256) (hb : (imgF R ++ rest).length ≤ 100000) (hM : M.length = n) (h1 : 1 ≤ kk) (hkn : kk ≤ n) (hnc : n ≤ c) (h8 : n ≤ 8) (hA : CRow w A M) (hk : ∀ x ∈ M, 1 ≤ x.k ∧ x.k ≤ 4) (hT : Tabs w) (hf : fitsF (M.take kk) R = true) (hfit : ∀ x ∈ R, x.fits) (hsz : ∀ x ∈ R, x.s.size ≤ 1000) :
 Calls Tryz.prog 101 #[.pointer (some ⟨g, 0, none⟩), .agg #[.slice A n c, .int .i64 kk]] w fun x w' => (∃ A' n' c', x = .returned (.tuple #[.slice A' n' c', .bool true]) ∧ Hid (R.length = n') ∧ Hid (VRow w' A' R) ∧ Hid (n' ≤ c' ∧ ∀ a, A' = some a → w.heap.size ≤ a.block)) ∧ Hid (RdrD D w' g rest 0) ∧ Hid (w.grownBy w' (some g)) := by
 have e := read_img (M.take kk) R rest hf (by rw [List.length_take]; omega) hfit hsz
 refine (ireadKey_any g _ 0 A M n c kk w h hgD hD hl hb hM h1 hkn hnc h8 hA hk hT).mono ?_
 rw [e]
 rintro x w' ⟨⟨A', n', c', rfl, hn, hv, hnc⟩, hr, hg⟩
 exact ⟨⟨A', n', c', rfl, hn, hv, hnc⟩, hr, hg⟩
set_option maxHeartbeats 16000000 in
theorem rafter_any {D : Nat} (g : Nat) (At : Option Addr) (nt ctt : Nat) (t : ByteArray) (yA : Option Addr) (yn yc : Nat) (kk : Int) (M : List Cl) (R : List Vl) (rest : List Nat) (w : World) (h : RdrD D w g (ytxt t ++ (imgF R ++ rest)) 0) (hg : g < D) (hD : D ≤ w.heap.size) (ht : t.size ≤ 900) (hF : ∀ W, w.grownBy W (some g) → Calls Tryz.prog 24 #[.slice At nt ctt, .string t] W fun e w' => e = .returned (.tuple #[.agg #[.slice yA yn yc, .int .i64 kk], .bool true]) ∧ Hid (Below W.heap.size W w')) (hC : ∀ W, w.grownBy W (some g) → CRow W yA M ∧ Tabs W) (hM : M.length = yn) (h8 : yn ≤ 8) (h1 : 1 ≤ yn) (hk : ∀ x ∈ M, 1 ≤ x.k ∧ x.k ≤ 4) (hf : fitsF M R = true) (hfit : ∀ x ∈ R, x.fits) (hsz : ∀ x ∈ R, x.s.size ≤ 1000) (hl : ∀ x ∈ ytxt t ++ (imgF R ++ rest), x < 256) (hb : (ytxt t ++ (imgF R ++ rest)).length ≤ 100000) :
 Calls Tryz.prog 72 #[.agg #[.pointer (some ⟨g, 0, none⟩), .slice At nt ctt]] w fun e w' => (∃ A n c, e = .returned (.tuple #[.agg #[.int .i64 0, .int .i64 0, .string t, .slice none 0 0, .slice A n c, .int .i64 0, .string ⟨#[]⟩, .slice none 0 0, .int .i64 0, .string ⟨#[]⟩, .int .i64 0, .bool false], .int .i64 0]) ∧ Hid (R.length = n) ∧ Hid (VRow w' A R) ∧ n ≤ c ∧ ∀ a, A = some a → w.heap.size ≤ a.block) ∧ Hid (RdrD D w' g rest 0) ∧ Hid (w.grownBy w' (some g)) := by
 have hl1 : ∀ x ∈ imgF R ++ rest, x < 256 := fun x hx => hl x (List.mem_append_right _ hx)
 have hb1 : (imgF R ++ rest).length ≤ 100000 := by rw [List.length_append] at hb; omega
 have HTB := Lib.hid (fun W (hG : w.grownBy W (some g)) (hr : RdrD D W g (ytxt t ++ (imgF R ++ rest)) 0) (hDW : D ≤ W.heap.size) => rtable_any g At nt ctt t yA yn yc kk (imgF R ++ rest) W hr hg hDW ht (fun W2 h2 => hF W2 (grown_trans hG h2)) hl (by omega))
 have HIM := Lib.hid (fun W (hG : w.grownBy W (some g)) (hr : RdrD D W g (imgF R ++ rest) 0) (hDW : D ≤ W.heap.size) => iimg_any g yA M yn yc kk R rest W hr hg hDW hl1 hb1 hM h1 h8 (hC W hG).1 hk (hC W hG).2 hf hfit hsz)
 obtain ⟨q, hq⟩ : ∃ q, w.heap.size = q := ⟨_, rfl⟩
 obtain ⟨W1, hW1⟩ : ∃ W, (w.alloc (.cells #[.pointer (some ⟨g, 0, none⟩), .slice At nt ctt] 73)).alloc (.cells #[.int .i64 0, .int .i64 0, .string ⟨#[]⟩, .slice none 0 0, .slice none 0 0, .int .i64 0, .string ⟨#[]⟩, .slice none 0 0, .int .i64 0, .string ⟨#[]⟩, .int .i64 0, .bool false] 33) = W := ⟨_, rfl⟩
 have hba : Below w.heap.size w (w.alloc (.cells #[.pointer (some ⟨g, 0, none⟩), .slice At nt ctt] 73)) := (Below.refl _ w).alloc (Nat.le_refl _) _
 have hbb : Below w.heap.size w W1 := by rw [← hW1]; exact hba.alloc (by simp) _
 have hs1 : W1.heap.size = q + 2 := by rw [← hW1]; simp; omega
 have hz0 : q < W1.heap.size := by omega
 have hz1 : q + 1 < W1.heap.size := by omega
 have HX1 : Hid (Has W1 q 73 #[.pointer (some ⟨g, 0, none⟩), .slice At nt ctt]) := by rw [← hW1, ← hq]; exact (Has.new _ _ _).alloc _
 have HQ1 : Hid (Has W1 (q + 1) 33 #[.int .i64 0, .int .i64 0, .string ⟨#[]⟩, .slice none 0 0, .slice none 0 0, .int .i64 0, .string ⟨#[]⟩, .slice none 0 0, .int .i64 0, .string ⟨#[]⟩, .int .i64 0, .bool false]) := by
  have h := Has.new (w.alloc (.cells #[.pointer (some ⟨g, 0, none⟩), .slice At nt ctt] 73)) 33 #[.int .i64 0, .int .i64 0, .string ⟨#[]⟩, .slice none 0 0, .slice none 0 0, .int .i64 0, .string ⟨#[]⟩, .slice none 0 0, .int .i64 0, .string ⟨#[]⟩, .int .i64 0, .bool false]
  rw [World.size_alloc, hq, hW1] at h
  exact h
 have HR1 := Lib.hid (h.keep hg (hbb.mono hD))
 have HG1 := Lib.hid (grn_below (grown_refl w g) hbb)
 have x1 : W1.cell? ⟨q, 0, none⟩ = some (.pointer (some ⟨g, 0, none⟩)) := HX1.out.cell 0
 have x2 : W1.cell? ⟨q, 1, none⟩ = some (.slice At nt ctt) := HX1.out.cell 1
 rw [hq] at hD
 have hgq : g < q := by omega
 clear h hba hbb
 clear hl hb hl1 hb1 hF hC hM hk hf hfit hsz
 go_enter Tryz.func72, Tryz.ntmps72
 go_wp2_with fail
 clear x1 x2 hW1
 refine (HTB.out _ HG1.out HR1.out (by omega)).mono ?_
 rintro e w2 ⟨rfl, hr, hg2⟩
 have HX2 := Lib.hid (HX1.out.grn hg2.out (by omega))
 have HQ2 := Lib.hid (HQ1.out.grn hg2.out (by omega))
 have HG2 := Lib.hid (grown_trans HG1.out hg2.out)
 have HR2 := hr
 have hzq_2 : q < w2.heap.size := Nat.lt_of_lt_of_le hz0 hg2.out.size
 have hzqp1_2 : q + 1 < w2.heap.size := Nat.lt_of_lt_of_le hz1 hg2.out.size
 clear HX1 HQ1 HG1 HR1 hz0 hz1 hr hg2
 have HR2 := Lib.hid HR2.out
 obtain ⟨W3, hW3⟩ : ∃ W, W = w2.alloc (.cells #[.slice yA yn yc, .int .i64 kk] 27) := ⟨_, rfl⟩
 have hbl : Below w2.heap.size w2 W3 := by rw [hW3]; exact (Below.refl _ _).alloc (Nat.le_refl _) _
 have hnew : Has W3 w2.heap.size 27 #[.slice yA yn yc, .int .i64 kk] := by rw [hW3]; exact Has.new _ _ _
 have HX3 := Lib.hid (HX2.out.below hbl HX2.out.lt)
 have HQ3 := Lib.hid (HQ2.out.below hbl HQ2.out.lt)
 have HG3 := Lib.hid (grn_below HG2.out hbl)
 have HR3 := Lib.hid (HR2.out.keep hg (hbl.mono (by omega)))
 have hzq_3 : q < W3.heap.size := Nat.lt_of_lt_of_le hzq_2 hbl.size
 have hlt_q_q2 : q < w2.heap.size := hzq_2
 have hzqp1_3 : q + 1 < W3.heap.size := Nat.lt_of_lt_of_le hzqp1_2 hbl.size
 have hlt_qp1_q2 : q + 1 < w2.heap.size := hzqp1_2
 have HS3 := Lib.hid hnew
 have hzq2_3 : w2.heap.size < W3.heap.size := hnew.lt
 clear HX2 HQ2 HG2 HR2 hzq_2 hzqp1_2 hbl hnew
 have x0l : (w2.alloc (.cells #[.slice yA yn yc, .int .i64 kk] 27)).cell? ⟨q, 0, none⟩ = some (.pointer (some ⟨g, 0, none⟩)) := by rw [← hW3]; exact HX3.out.cell 0
 go_wp2_with fail
 clear x0l
 (try rw [← hW3])
 clear hW3
 generalize w2.heap.size = q2 at *
 refine (HIM.out W3 HG3.out HR3.out (by omega)).mono ?_
 rintro e w4 ⟨⟨A4, n4, c4, rfl, hn4, hv4, hnc4⟩, hr, hg4⟩
 have hq23 : q2 < W3.heap.size := by assumption
 have HX4 := Lib.hid (HX3.out.grn hg4.out (by omega))
 have HQ4 := Lib.hid (HQ3.out.grn hg4.out (by omega))
 have HS4 := Lib.hid (HS3.out.grn hg4.out (by omega))
 have HG4 := Lib.hid (grown_trans HG3.out hg4.out)
 have HR4 := hr
 have hzq_4 : q < w4.heap.size := Nat.lt_of_lt_of_le hzq_3 hg4.out.size
 have hzqp1_4 : q + 1 < w4.heap.size := Nat.lt_of_lt_of_le hzqp1_3 hg4.out.size
 have hzq2_4 : q2 < w4.heap.size := Nat.lt_of_lt_of_le hzq2_3 hg4.out.size
 clear HX3 HQ3 HS3 HG3 HR3 hzq_3 hzqp1_3 hzq2_3 hr hg4
 go_wp2_with fail
 refine (form_any true w4).mono ?_
 rintro e wx ⟨rfl, hwx⟩
 obtain rfl : w4 = wx := hwx.symm
 have HP : Hid (Has (put12 w4 (q + 1) (.int .i64 0) (.int .i64 0) (.string t) (.slice none 0 0) (.slice A4 n4 c4) (.int .i64 0) (.string ⟨#[]⟩) (.slice none 0 0) (.int .i64 0) (.string ⟨#[]⟩) (.int .i64 0) (.bool false)) (q + 1) 33 #[.int .i64 0, .int .i64 0, .string t, .slice none 0 0, .slice A4 n4 c4, .int .i64 0, .string ⟨#[]⟩, .slice none 0 0, .int .i64 0, .string ⟨#[]⟩, .int .i64 0, .bool false]) := put12_has HQ4.out (.int .i64 0) (.int .i64 0) (.string t) (.slice none 0 0) (.slice A4 n4 c4) (.int .i64 0) (.string ⟨#[]⟩) (.slice none 0 0) (.int .i64 0) (.string ⟨#[]⟩) (.int .i64 0) (.bool false)
 have HTU := Lib.hid (put12_tur w4 (q + 1) (.int .i64 0) (.int .i64 0) (.string t) (.slice none 0 0) (.slice A4 n4 c4) (.int .i64 0) (.string ⟨#[]⟩) (.slice none 0 0) (.int .i64 0) (.string ⟨#[]⟩) (.int .i64 0) (.bool false))
 obtain ⟨c0w4, c1w4, c2w4, c3w4, c4w4, c5w4, c6w4, c7w4, c8w4, c9w4, c10w4, c11w4, f0w4, f1w4, f2w4, f3w4, f4w4, f5w4, f6w4, f7w4, f8w4, f9w4, f10w4, f11w4⟩ := allE HQ4.out
 go_wp2_with fail
 have hvP := hv4.out.tur HTU.out (fun a ea hh => by have := hnc4.out.2 a ea; simp only [List.mem_singleton] at hh; omega)
 have hbP : Below (q + 1) w4 (put12 w4 (q + 1) (.int .i64 0) (.int .i64 0) (.string t) (.slice none 0 0) (.slice A4 n4 c4) (.int .i64 0) (.string ⟨#[]⟩) (.slice none 0 0) (.int .i64 0) (.string ⟨#[]⟩) (.int .i64 0) (.bool false)) := HTU.out.below (fun k hk => by simp at hk; omega) (by omega)
 refine bodyPost_ret (evEndR rfl (put12 w4 (q + 1) (.int .i64 0) (.int .i64 0) (.string t) (.slice none 0 0) (.slice A4 n4 c4) (.int .i64 0) (.string ⟨#[]⟩) (.slice none 0 0) (.int .i64 0) (.string ⟨#[]⟩) (.int .i64 0) (.bool false)) (q + 1) (.int .i64 0) (.int .i64 0) (.string t) (.slice none 0 0) (.slice A4 n4 c4) (.int .i64 0) (.string ⟨#[]⟩) (.slice none 0 0) (.int .i64 0) (.string ⟨#[]⟩) (.int .i64 0) (.bool false) _ rfl HP.out) rfl ?_
 exact ⟨⟨_, _, _, rfl, hn4, hvP, hnc4.out.1, fun a ea => by have := hnc4.out.2 a ea; omega⟩, HR4.out.keep hg (hbP.mono (by omega)), grn_lowB HG4.out hbP (by omega) (by omega)⟩
set_option maxHeartbeats 16000000 in
theorem rbefore_any {D : Nat} (g : Nat) (At : Option Addr) (nt ctt : Nat) (t : ByteArray) (yA : Option Addr) (yn yc : Nat) (kk : Nat) (M : List Cl) (R : List Vl) (rest : List Nat) (w : World) (h : RdrD D w g (ytxt t ++ (imgF R ++ rest)) 0) (hg : g < D) (hD : D ≤ w.heap.size) (ht : t.size ≤ 900) (hF : ∀ W, w.grownBy W (some g) → Calls Tryz.prog 24 #[.slice At nt ctt, .string t] W fun e w' => e = .returned (.tuple #[.agg #[.slice yA yn yc, .int .i64 kk], .bool true]) ∧ Hid (Below W.heap.size W w')) (hC : ∀ W, w.grownBy W (some g) → CRow W yA M ∧ Tabs W) (hM : M.length = yn) (h8 : yn ≤ 8) (h1 : 1 ≤ kk) (hkn : kk ≤ yn) (hnc : yn ≤ yc) (hk : ∀ x ∈ M, 1 ≤ x.k ∧ x.k ≤ 4) (hf : fitsF (M.take kk) R = true) (hfit : ∀ x ∈ R, x.fits) (hsz : ∀ x ∈ R, x.s.size ≤ 1000) (hl : ∀ x ∈ ytxt t ++ (imgF R ++ rest), x < 256) (hb : (ytxt t ++ (imgF R ++ rest)).length ≤ 100000) :
 Calls Tryz.prog 73 #[.agg #[.pointer (some ⟨g, 0, none⟩), .slice At nt ctt]] w fun e w' => (∃ A n c, e = .returned (.tuple #[.agg #[.int .i64 0, .int .i64 0, .string t, .slice A n c, .slice none 0 0, .int .i64 0, .string ⟨#[]⟩, .slice none 0 0, .int .i64 0, .string ⟨#[]⟩, .int .i64 0, .bool false], .int .i64 0]) ∧ Hid (R.length = n) ∧ Hid (VRow w' A R) ∧ n ≤ c ∧ ∀ a, A = some a → w.heap.size ≤ a.block) ∧ Hid (RdrD D w' g rest 0) ∧ Hid (w.grownBy w' (some g)) := by
 have hl1 : ∀ x ∈ imgF R ++ rest, x < 256 := fun x hx => hl x (List.mem_append_right _ hx)
 have hb1 : (imgF R ++ rest).length ≤ 100000 := by rw [List.length_append] at hb; omega
 have HTB := Lib.hid (fun W (hG : w.grownBy W (some g)) (hr : RdrD D W g (ytxt t ++ (imgF R ++ rest)) 0) (hDW : D ≤ W.heap.size) => rtable_any g At nt ctt t yA yn yc kk (imgF R ++ rest) W hr hg hDW ht (fun W2 h2 => hF W2 (grown_trans hG h2)) hl (by omega))
 have HIM := Lib.hid (fun W (hG : w.grownBy W (some g)) (hr : RdrD D W g (imgF R ++ rest) 0) (hDW : D ≤ W.heap.size) => ikey_any g yA M yn yc kk R rest W hr hg hDW hl1 hb1 hM h1 hkn hnc h8 (hC W hG).1 hk (hC W hG).2 hf hfit hsz)
 obtain ⟨q, hq⟩ : ∃ q, w.heap.size = q := ⟨_, rfl⟩
 obtain ⟨W1, hW1⟩ : ∃ W, (w.alloc (.cells #[.pointer (some ⟨g, 0, none⟩), .slice At nt ctt] 73)).alloc (.cells #[.int .i64 0, .int .i64 0, .string ⟨#[]⟩, .slice none 0 0, .slice none 0 0, .int .i64 0, .string ⟨#[]⟩, .slice none 0 0, .int .i64 0, .string ⟨#[]⟩, .int .i64 0, .bool false] 33) = W := ⟨_, rfl⟩
 have hba : Below w.heap.size w (w.alloc (.cells #[.pointer (some ⟨g, 0, none⟩), .slice At nt ctt] 73)) := (Below.refl _ w).alloc (Nat.le_refl _) _
 have hbb : Below w.heap.size w W1 := by rw [← hW1]; exact hba.alloc (by simp) _
 have hs1 : W1.heap.size = q + 2 := by rw [← hW1]; simp; omega
 have hz0 : q < W1.heap.size := by omega
 have hz1 : q + 1 < W1.heap.size := by omega
 have HX1 : Hid (Has W1 q 73 #[.pointer (some ⟨g, 0, none⟩), .slice At nt ctt]) := by rw [← hW1, ← hq]; exact (Has.new _ _ _).alloc _
 have HQ1 : Hid (Has W1 (q + 1) 33 #[.int .i64 0, .int .i64 0, .string ⟨#[]⟩, .slice none 0 0, .slice none 0 0, .int .i64 0, .string ⟨#[]⟩, .slice none 0 0, .int .i64 0, .string ⟨#[]⟩, .int .i64 0, .bool false]) := by
  have h := Has.new (w.alloc (.cells #[.pointer (some ⟨g, 0, none⟩), .slice At nt ctt] 73)) 33 #[.int .i64 0, .int .i64 0, .string ⟨#[]⟩, .slice none 0 0, .slice none 0 0, .int .i64 0, .string ⟨#[]⟩, .slice none 0 0, .int .i64 0, .string ⟨#[]⟩, .int .i64 0, .bool false]
  rw [World.size_alloc, hq, hW1] at h
  exact h
 have HR1 := Lib.hid (h.keep hg (hbb.mono hD))
 have HG1 := Lib.hid (grn_below (grown_refl w g) hbb)
 have x1 : W1.cell? ⟨q, 0, none⟩ = some (.pointer (some ⟨g, 0, none⟩)) := HX1.out.cell 0
 have x2 : W1.cell? ⟨q, 1, none⟩ = some (.slice At nt ctt) := HX1.out.cell 1
 rw [hq] at hD
 have hgq : g < q := by omega
 clear h hba hbb
 clear hl hb hl1 hb1 hF hC hM hk hf hfit hsz
 go_enter Tryz.func73, Tryz.ntmps73
 go_wp2_with fail
 clear x1 x2 hW1
 refine (HTB.out _ HG1.out HR1.out (by omega)).mono ?_
 rintro e w2 ⟨rfl, hr, hg2⟩
 have HX2 := Lib.hid (HX1.out.grn hg2.out (by omega))
 have HQ2 := Lib.hid (HQ1.out.grn hg2.out (by omega))
 have HG2 := Lib.hid (grown_trans HG1.out hg2.out)
 have HR2 := hr
 have hzq_2 : q < w2.heap.size := Nat.lt_of_lt_of_le hz0 hg2.out.size
 have hzqp1_2 : q + 1 < w2.heap.size := Nat.lt_of_lt_of_le hz1 hg2.out.size
 clear HX1 HQ1 HG1 HR1 hz0 hz1 hr hg2
 have HR2 := Lib.hid HR2.out
 obtain ⟨W3, hW3⟩ : ∃ W, W = w2.alloc (.cells #[.slice yA yn yc, .int .i64 kk] 27) := ⟨_, rfl⟩
 have hbl : Below w2.heap.size w2 W3 := by rw [hW3]; exact (Below.refl _ _).alloc (Nat.le_refl _) _
 have hnew : Has W3 w2.heap.size 27 #[.slice yA yn yc, .int .i64 kk] := by rw [hW3]; exact Has.new _ _ _
 have HX3 := Lib.hid (HX2.out.below hbl HX2.out.lt)
 have HQ3 := Lib.hid (HQ2.out.below hbl HQ2.out.lt)
 have HG3 := Lib.hid (grn_below HG2.out hbl)
 have HR3 := Lib.hid (HR2.out.keep hg (hbl.mono (by omega)))
 have hzq_3 : q < W3.heap.size := Nat.lt_of_lt_of_le hzq_2 hbl.size
 have hlt_q_q2 : q < w2.heap.size := hzq_2
 have hzqp1_3 : q + 1 < W3.heap.size := Nat.lt_of_lt_of_le hzqp1_2 hbl.size
 have hlt_qp1_q2 : q + 1 < w2.heap.size := hzqp1_2
 have HS3 := Lib.hid hnew
 have hzq2_3 : w2.heap.size < W3.heap.size := hnew.lt
 clear HX2 HQ2 HG2 HR2 hzq_2 hzqp1_2 hbl hnew
 have x0l : (w2.alloc (.cells #[.slice yA yn yc, .int .i64 kk] 27)).cell? ⟨q, 0, none⟩ = some (.pointer (some ⟨g, 0, none⟩)) := by rw [← hW3]; exact HX3.out.cell 0
 go_wp2_with fail
 clear x0l
 (try rw [← hW3])
 clear hW3
 generalize w2.heap.size = q2 at *
 refine (HIM.out W3 HG3.out HR3.out (by omega)).mono ?_
 rintro e w4 ⟨⟨A4, n4, c4, rfl, hn4, hv4, hnc4⟩, hr, hg4⟩
 have hq23 : q2 < W3.heap.size := by assumption
 have HX4 := Lib.hid (HX3.out.grn hg4.out (by omega))
 have HQ4 := Lib.hid (HQ3.out.grn hg4.out (by omega))
 have HS4 := Lib.hid (HS3.out.grn hg4.out (by omega))
 have HG4 := Lib.hid (grown_trans HG3.out hg4.out)
 have HR4 := hr
 have hzq_4 : q < w4.heap.size := Nat.lt_of_lt_of_le hzq_3 hg4.out.size
 have hzqp1_4 : q + 1 < w4.heap.size := Nat.lt_of_lt_of_le hzqp1_3 hg4.out.size
 have hzq2_4 : q2 < w4.heap.size := Nat.lt_of_lt_of_le hzq2_3 hg4.out.size
 clear HX3 HQ3 HS3 HG3 HR3 hzq_3 hzqp1_3 hzq2_3 hr hg4
 go_wp2_with fail
 refine (form_any true w4).mono ?_
 rintro e wx ⟨rfl, hwx⟩
 obtain rfl : w4 = wx := hwx.symm
 have HP : Hid (Has (put12 w4 (q + 1) (.int .i64 0) (.int .i64 0) (.string t) (.slice A4 n4 c4) (.slice none 0 0) (.int .i64 0) (.string ⟨#[]⟩) (.slice none 0 0) (.int .i64 0) (.string ⟨#[]⟩) (.int .i64 0) (.bool false)) (q + 1) 33 #[.int .i64 0, .int .i64 0, .string t, .slice A4 n4 c4, .slice none 0 0, .int .i64 0, .string ⟨#[]⟩, .slice none 0 0, .int .i64 0, .string ⟨#[]⟩, .int .i64 0, .bool false]) := put12_has HQ4.out (.int .i64 0) (.int .i64 0) (.string t) (.slice A4 n4 c4) (.slice none 0 0) (.int .i64 0) (.string ⟨#[]⟩) (.slice none 0 0) (.int .i64 0) (.string ⟨#[]⟩) (.int .i64 0) (.bool false)
 have HTU := Lib.hid (put12_tur w4 (q + 1) (.int .i64 0) (.int .i64 0) (.string t) (.slice A4 n4 c4) (.slice none 0 0) (.int .i64 0) (.string ⟨#[]⟩) (.slice none 0 0) (.int .i64 0) (.string ⟨#[]⟩) (.int .i64 0) (.bool false))
 obtain ⟨c0w4, c1w4, c2w4, c3w4, c4w4, c5w4, c6w4, c7w4, c8w4, c9w4, c10w4, c11w4, f0w4, f1w4, f2w4, f3w4, f4w4, f5w4, f6w4, f7w4, f8w4, f9w4, f10w4, f11w4⟩ := allE HQ4.out
 go_wp2_with fail
 have hvP := hv4.out.tur HTU.out (fun a ea hh => by have := hnc4.out.2 a ea; simp only [List.mem_singleton] at hh; omega)
 have hbP : Below (q + 1) w4 (put12 w4 (q + 1) (.int .i64 0) (.int .i64 0) (.string t) (.slice A4 n4 c4) (.slice none 0 0) (.int .i64 0) (.string ⟨#[]⟩) (.slice none 0 0) (.int .i64 0) (.string ⟨#[]⟩) (.int .i64 0) (.bool false)) := HTU.out.below (fun k hk => by simp at hk; omega) (by omega)
 refine bodyPost_ret (evEndR rfl (put12 w4 (q + 1) (.int .i64 0) (.int .i64 0) (.string t) (.slice A4 n4 c4) (.slice none 0 0) (.int .i64 0) (.string ⟨#[]⟩) (.slice none 0 0) (.int .i64 0) (.string ⟨#[]⟩) (.int .i64 0) (.bool false)) (q + 1) (.int .i64 0) (.int .i64 0) (.string t) (.slice A4 n4 c4) (.slice none 0 0) (.int .i64 0) (.string ⟨#[]⟩) (.slice none 0 0) (.int .i64 0) (.string ⟨#[]⟩) (.int .i64 0) (.bool false) _ rfl HP.out) rfl ?_
 exact ⟨⟨_, _, _, rfl, hn4, hvP, hnc4.out.1, fun a ea => by have := hnc4.out.2 a ea; omega⟩, HR4.out.keep hg (hbP.mono (by omega)), grn_lowB HG4.out hbP (by omega) (by omega)⟩
end Go.Proofs.YtnpmgempkoeapaaGreatDoor
