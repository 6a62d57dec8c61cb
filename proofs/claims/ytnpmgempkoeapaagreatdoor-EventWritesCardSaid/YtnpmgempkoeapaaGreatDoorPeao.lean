/-
  Put together, as far as it is used: ImgK.
-/
import Derived.Test.YtnpmgempkoeapaaGreatDoorPean
import Derived.Laws.ResultCell
set_option linter.unusedVariables false
set_option linter.unusedSimpArgs false
set_option linter.defProp false
namespace Go.Proofs.YtnpmgempkoeapaaGreatDoor
open Go.RowKit Dg
theorem keyedEnd (w' : World) (g : Nat) (c0 c1 : Value) (tmps : Array Value) (hp : tmps.getD 2 undef = .pointer (some ⟨g, 0, none⟩)) (hh : Has w' g 27 #[c0, c1]) :
 (results Tryz.f61 tmps).run Tryz.prog w' = .ok (.agg #[c0, c1]) w' :=
 results_cell_row rfl _ _ g 27 #[c0, c1] (0, 0) _ hp hh Tryz.underlying27 rfl (by kernel_rfl)
set_option maxHeartbeats 2000000 in
set_option maxRecDepth 100000 in
theorem keyed_any (A : Option Addr) (n c kk : Nat) (w : World) (hk : kk ≤ n) (_hn : n ≤ 1000) (hc : n ≤ c) :
 Calls Tryz.prog 61 #[.agg #[.slice A n c, .int .i64 kk]] w fun e w' => e = .returned (.agg #[.slice A kk c, .int .i64 kk]) ∧ Hid (Below w.heap.size w w') := by
 have HB0 := Lib.hid (((Below.refl w.heap.size w).alloc (Nat.le_refl _) (.cells #[.slice A n c, .int .i64 kk] 27)).alloc (by simp) (.cells #[.slice none 0 0, .int .i64 0] 27))
 have HS0 := Lib.hid ((Has.new w 27 #[.slice A n c, .int .i64 kk]).alloc (.cells #[.slice none 0 0, .int .i64 0] 27))
 have hg := Has.new (w.alloc (.cells #[.slice A n c, .int .i64 kk] 27)) 27 #[.slice none 0 0, .int .i64 0]
 rw [show (w.alloc (.cells #[.slice A n c, .int .i64 kk] 27)).heap.size = w.heap.size + 1 by simp] at hg
 have HG0 := Lib.hid hg
 have hmin : ∀ ts t W, Sem.run Tryz.prog (Builtin.min_ ts t #[.int .i64 kk, .int .i64 n]) W = .ok (.int .i64 (kk : Nat)) W := fun ts t W => by
  rw [run_min_int2]
  congr 2
  split <;> omega
 have hmax : ∀ ts t W, Sem.run Tryz.prog (Builtin.max_ ts t #[.int .i64 0, .int .i64 kk]) W = .ok (.int .i64 (kk : Nat)) W := fun ts t W => by
  rw [run_max_int2]
  congr 2
  split <;> omega
 have hz0 : (0 : Int) ≤ (kk : Int) := by omega
 have hz1 : (kk : Int) ≤ (c : Int) := by omega
 clear hg
 go_enter Tryz.func61, Tryz.ntmps61
 go_wp2_with fail
 clear hmin hmax
 obtain ⟨W, hW⟩ : ∃ W, W = (w.alloc (.cells #[.slice A n c, .int .i64 kk] 27)).alloc (.cells #[.slice none 0 0, .int .i64 0] 27) := ⟨_, rfl⟩
 rw [← hW] at HB0 HS0 HG0 ⊢
 clear hW
 have s0 : W.cell? ⟨w.heap.size, 0, none⟩ = some (.slice A n c) := HS0.out.cell 0
 have s1 : W.cell? ⟨w.heap.size, 1, none⟩ = some (.int .i64 kk) := HS0.out.cell 1
 have g0 : W.cell? ⟨w.heap.size + 1, 0, none⟩ = some (.slice none 0 0) := HG0.out.cell 0
 have g1 : W.cell? ⟨w.heap.size + 1, 1, none⟩ = some (.int .i64 0) := HG0.out.cell 1
 have f0 : W.frozen? ⟨w.heap.size + 1, 0, none⟩ = false := HG0.out.free 0
 have f1 : W.frozen? ⟨w.heap.size + 1, 1, none⟩ = false := HG0.out.free 1
 go_region
 all_goals
  go_wp2_with fail
  have HP := Lib.hid ((HG0.out.put 0 (.slice A kk c)).put 1 (.int .i64 kk))
  exact bodyPost_ret (keyedEnd _ (w.heap.size + 1) _ _ _ rfl (by first | exact HP.out.drew | exact HP.out)) rfl ⟨rfl, by first | exact ((HB0.out.setCell (by show w.heap.size ≤ w.heap.size + 1; omega) _).setCell (by show w.heap.size ≤ w.heap.size + 1; omega) _).drew | exact (HB0.out.setCell (by show w.heap.size ≤ w.heap.size + 1; omega) _).setCell (by show w.heap.size ≤ w.heap.size + 1; omega) _⟩
set_option maxHeartbeats 4000000 in
set_option maxRecDepth 100000 in
theorem writeKey_any (Ab : Option Addr) (lb : List Nat) (nb cb : Nat) (A : Option Addr) (n c kk : Nat) (Ar : Option Addr) (R : List Vl) (nr cr : Nat) (w : World) (hb : lb.length = nb) (hbl : nb ≤ 1000) (hbb : Rd w Ab lb) (hz : Ab = none → cb = 0) (hkn : kk ≤ n) (hkr : kk ≤ nr) (hk1 : 1 ≤ kk) (hk8 : kk ≤ 8) (hn9 : n ≤ 1000) (hnc : n ≤ c) (hnr : R.length = nr) (hncr : nr ≤ cr) (hcm : nr ≤ 1000) (hR : VRow w Ar R) (hmay : ∀ x ∈ R, x.may = true) (hfit : ∀ x ∈ R, x.fits) (hsz : ∀ x ∈ R, x.s.size ≤ 1000) :
 Calls Tryz.prog 27 #[.slice Ab nb cb, .agg #[.slice A n c, .int .i64 kk], .slice Ar nr cr] w fun e w' => ∃ v, e = .returned v ∧ Hid (Own w.heap.size w' v (lb ++ imgF (R.take kk))) ∧ Hid (Below w.heap.size w w') := by
 have HB0 := Lib.hid ((Below.refl w.heap.size w).alloc (Nat.le_refl _) (.cells #[.slice A n c, .int .i64 kk] 27))
 have HC := Lib.hid (keyed_any A n c kk (w.alloc (.cells #[.slice A n c, .int .i64 kk] 27)) hkn hn9 hnc)
 have HW := Lib.hid (fun (W : World) (hh : Below w.heap.size w W) => write_any Ab lb nb cb A kk c kk Ar R nr cr kk W hb hbl (hbb.below hh) hz (Nat.min_eq_left hkr) hk1 hk8 (by omega) hnr hncr hcm (hR.below hh) hmay hfit hsz)
 clear hb hbb hz hnr hR hmay hfit hsz
 go_enter Tryz.func27, Tryz.ntmps27
 go_wp2_with fail
 refine HC.out.mono ?_
 rintro e w1 ⟨rfl, hb⟩
 have HB1 := Lib.hid (HB0.out.trans (hb.out.mono HB0.out.size))
 clear hb HC
 go_wp2_with fail
 refine (HW.out w1 HB1.out).mono ?_
 rintro e w2 ⟨v, rfl, ho, hb⟩
 have HO := Lib.hid (own_down ho.out HB1.out.size)
 have HB2 := Lib.hid (HB1.out.trans (hb.out.mono HB1.out.size))
 clear ho hb
 go_wp2_with fail
 go_ret
 exact ⟨v, rfl, HO, HB2⟩
end Go.Proofs.YtnpmgempkoeapaaGreatDoor
