/-
  The schema behind a change: the program's Apply.
-/
import Derived.Test.YtiefogofiajmnaaDoorDoes
import Derived.Test.YtiefogofiajmnaaDoorPutC
import Derived.Deep.RegionHeld3
namespace Go.Proofs.YtiefogofiajmnaaDoor
open Go.RowKit Dg
/-- The columns behind a change. -/
def applyL (L : List Cl) (d : Dn) (cn : ByteArray) (kd : Int) : List Cl := if d.e = 0 then L.take d.f ++ List.replicate d.m ⟨cn, kd, true⟩ ++ L.drop d.t else []
def applyK (K : Int) (d : Dn) : Int := if d.e = 0 then K else 0
def Dn.ok (d : Dn) (n : Nat) : Prop := d.e = 0 → d.f ≤ d.t ∧ d.t ≤ n ∧ d.m ≤ 1
theorem bad_ok (e : Int) (n : Nat) (h : e ≠ 0) : (Dn.bad e).ok n := fun h2 => absurd h2 h
theorem doesF_ok (L : List Cl) (K ck : Int) (cn : ByteArray) (kd : Int) (no : Bool) : (doesF L K ck cn kd no).ok L.length := by
  have hlt := findI_lt L cn
  unfold doesF addF cutF retF
  split
  · split
    · exact bad_ok _ _ (by omega)
    · split
      · exact bad_ok _ _ (by omega)
      · split
        · exact bad_ok _ _ (by omega)
        · exact fun _ => ⟨Nat.le_refl _, Nat.le_refl _, Nat.le_refl _⟩
  · split
    · split
      · exact bad_ok _ _ (by omega)
      · split
        · exact bad_ok _ _ (by omega)
        · exact fun _ => ⟨by simp, by simp; omega, by simp⟩
    · split
      · split
        · exact bad_ok _ _ (by omega)
        · split
          · exact bad_ok _ _ (by omega)
          · split
            · exact bad_ok _ _ (by omega)
            · exact fun _ => ⟨by simp, by simp; omega, by simp⟩
      · exact bad_ok _ _ (by omega)
theorem hid_s2 {w W : World} (h : Hid (Below w.heap.size w W)) (u u' : Value) : Hid (Below w.heap.size w ((W.setCell ⟨w.heap.size + 1 + 1, 0, none⟩ u).setCell ⟨w.heap.size + 1 + 1, 1, none⟩ u')) := (h.out.setCell (by show w.heap.size ≤ w.heap.size + 1 + 1; omega) _).setCell (by show w.heap.size ≤ w.heap.size + 1 + 1; omega) _
theorem cell_s2 {W : World} {p : Nat} {u u' : Value} {a : Addr} {v : Value} (hne : p ≠ a.block) (h : W.cell? a = some v) : ((W.setCell ⟨p, 0, none⟩ u).setCell ⟨p, 1, none⟩ u').cell? a = some v := by
  rw [World.cell?_setCell_far _ _ _ _ hne, World.cell?_setCell_far _ _ _ _ hne]; exact h
theorem schEnd {fn : Func} {p u : Tmp} (h : fn.results = #[.cell p 28, .tmp u]) (w' : World) (g : Nat) (c0 c1 : Value) (tmps : Array Value) (hp : tmps.getD p undef = .pointer (some ⟨g, 0, none⟩)) (hh : Has w' g 28 #[c0, c1]) :
    (results fn tmps).run Tryd.prog w' = .ok (.tuple #[.agg #[c0, c1], tmps.getD u undef]) w' := by
  rw [results_cell_tmp h, hp]
  simp only [asAddr, Sem.run_pure, Result.andThen_ok]
  rw [run_loadVar_row w' g 28 28 #[c0, c1] (0, 0) _ hh Tryd.underlying28 rfl (by kernel_rfl)]
  rfl
set_option maxHeartbeats 4000000 in
set_option maxRecDepth 100000 in
theorem apply_any (A : Option Addr) (L : List Cl) (n c : Nat) (K : Int) (ck : Int) (tn : ByteArray) (A' : Option Addr) (n' c' : Nat) (K' : Int) (cn : ByteArray) (kd : Int) (no : Bool) (w : World) (hn : L.length = n) (hp : 0 < n) (hl : n ≤ 900) (hnc : n ≤ c) (hcm : c ≤ maxLen) (hcn : cn.size ≤ 140737488355328) (hA : CRow w A L) :
    Calls Tryd.prog 36 #[.agg #[.slice A n c, .int .i64 K], .agg #[.int .i64 ck, .string tn, .slice A' n' c', .int .i64 K', .string cn, .int .i64 kd, .bool no]] w fun e w' => ∃ v, e = .returned (.tuple #[.agg #[v, .int .i64 (applyK K (doesF L K ck cn kd no))], .int .i64 (doesF L K ck cn kd no).e]) ∧ Hid (OwnC w.heap.size w' v (applyL L (doesF L K ck cn kd no) cn kd)) ∧ Hid (Below w.heap.size w w') := by
  have HN := Lib.hid hn
  have HA := Lib.hid hA
  have HOK := Lib.hid (doesF_ok L K ck cn kd no)
  have HB0 := Lib.hid ((((Below.refl w.heap.size w).alloc (Nat.le_refl _) (.cells #[.slice A n c, .int .i64 K] 28)).alloc (by simp) (.cells #[.int .i64 ck, .string tn, .slice A' n' c', .int .i64 K', .string cn, .int .i64 kd, .bool no] 40)).alloc (by simp; omega) (.cells #[.slice none 0 0, .int .i64 0] 28))
  have HS0 := Lib.hid (((Has.new w 28 #[.slice A n c, .int .i64 K]).alloc (.cells #[.int .i64 ck, .string tn, .slice A' n' c', .int .i64 K', .string cn, .int .i64 kd, .bool no] 40)).alloc (.cells #[.slice none 0 0, .int .i64 0] 28))
  have hq := (Has.new (w.alloc (.cells #[.slice A n c, .int .i64 K] 28)) 40 #[.int .i64 ck, .string tn, .slice A' n' c', .int .i64 K', .string cn, .int .i64 kd, .bool no]).alloc (.cells #[.slice none 0 0, .int .i64 0] 28)
  rw [show (w.alloc (.cells #[.slice A n c, .int .i64 K] 28)).heap.size = w.heap.size + 1 by simp] at hq
  have HQ0 := Lib.hid hq
  have hg := Has.new ((w.alloc (.cells #[.slice A n c, .int .i64 K] 28)).alloc (.cells #[.int .i64 ck, .string tn, .slice A' n' c', .int .i64 K', .string cn, .int .i64 kd, .bool no] 40)) 28 #[.slice none 0 0, .int .i64 0]
  rw [show ((w.alloc (.cells #[.slice A n c, .int .i64 K] 28)).alloc (.cells #[.int .i64 ck, .string tn, .slice A' n' c', .int .i64 K', .string cn, .int .i64 kd, .bool no] 40)).heap.size = w.heap.size + 2 by simp] at hg
  have HG0 := Lib.hid hg
  clear hn hA hq hg
  go_enter Tryd.func36, Tryd.ntmps36
  go_wp2_with fail
  refine (does_any A L n c K ck tn A' n' c' K' cn kd no _ HN.out hl hcn (HA.out.below HB0.out)).mono ?_
  rintro e w1 ⟨rfl, hb1⟩
  have HB1 := Lib.hid (HB0.out.trans (hb1.out.mono HB0.out.size))
  have HS1 := Lib.hid (HS0.out.below hb1.out HS0.out.lt)
  have HQ1 := Lib.hid (HQ0.out.below hb1.out HQ0.out.lt)
  have HG1 := Lib.hid (HG0.out.below hb1.out HG0.out.lt)
  clear hb1 HB0 HS0 HQ0 HG0
  generalize hd : doesF L K ck cn kd no = d at *
  obtain ⟨df, dt, dm, de⟩ := d
  have HE := Lib.hid hd
  clear hd
  have hz := HB1.out.size
  have HZ2 : Hid (w.heap.size + 1 + 1 < w1.heap.size) := HG1.out.lt
  by_cases he : de = 0
  · subst he
    obtain ⟨h1, h2, h3⟩ := HOK.out rfl
    rw [HN.out] at h2
    have HL : Hid (applyL L ⟨df, dt, dm, 0⟩ cn kd = L.take df ++ List.replicate dm ⟨cn, kd, true⟩ ++ L.drop dt) := rfl
    have HK : Hid (applyK K ⟨df, dt, dm, 0⟩ = K) := rfl
    simp only at h1 h2 h3
    -- the two variables
    have HB3 := Lib.hid ((HB1.out.alloc HB1.out.size (.cells #[.int .i64 df, .int .i64 dt, .int .i64 dm] 88)).alloc (by simp; omega) (.cells #[.string cn, .int .i64 kd, .bool true] 38))
    have HS3 := Lib.hid ((HS1.out.alloc (.cells #[.int .i64 df, .int .i64 dt, .int .i64 dm] 88)).alloc (.cells #[.string cn, .int .i64 kd, .bool true] 38))
    have HG3 := Lib.hid ((HG1.out.alloc (.cells #[.int .i64 df, .int .i64 dt, .int .i64 dm] 88)).alloc (.cells #[.string cn, .int .i64 kd, .bool true] 38))
    have HX3 := Lib.hid ((Has.new w1 88 #[.int .i64 df, .int .i64 dt, .int .i64 dm]).alloc (.cells #[.string cn, .int .i64 kd, .bool true] 38))
    have hy := Has.new (w1.alloc (.cells #[.int .i64 df, .int .i64 dt, .int .i64 dm] 88)) 38 #[.string cn, .int .i64 kd, .bool true]
    rw [show (w1.alloc (.cells #[.int .i64 df, .int .i64 dt, .int .i64 dm] 88)).heap.size = w1.heap.size + 1 by simp] at hy
    have HY3 := Lib.hid hy
    have HQ2 := Lib.hid (HQ1.out.alloc (.cells #[.int .i64 df, .int .i64 dt, .int .i64 dm] 88))
    have q4 : (w1.alloc (.cells #[.int .i64 df, .int .i64 dt, .int .i64 dm] 88)).cell? ⟨w.heap.size + 1, 4, none⟩ = some (.string cn) := HQ2.out.cell 4
    have q5 : (w1.alloc (.cells #[.int .i64 df, .int .i64 dt, .int .i64 dm] 88)).cell? ⟨w.heap.size + 1, 5, none⟩ = some (.int .i64 kd) := HQ2.out.cell 5
    clear hy
    unfold Dn.val
    go_wp2_with fail
    obtain ⟨W, hW⟩ : ∃ W, W = (w1.alloc (.cells #[.int .i64 df, .int .i64 dt, .int .i64 dm] 88)).alloc (.cells #[.string cn, .int .i64 kd, .bool true] 38) := ⟨_, rfl⟩
    simp only [← hW] at HB3 HS3 HG3 HX3 HY3 ⊢
    have hws : w1.heap.size < W.heap.size := by rw [hW]; simp; omega
    clear hW q4 q5
    have HBD : Hid (Below w.heap.size w W.drew) := HB3.out.drew
    have HC := Lib.hid (putC_any A L n c df dt dm ⟨cn, kd, true⟩ W.drew HN.out hp hnc hcm h1 h2 h3 hl (HA.out.below HBD.out))
    have a0 := HS3.out.drew.cell 0
    have a1 := HS3.out.drew.cell 1
    have d0 := HX3.out.drew.cell 0
    have d1 := HX3.out.drew.cell 1
    have d2 := HX3.out.drew.cell 2
    have y0 := HY3.out.drew.cell 0
    have y1 := HY3.out.drew.cell 1
    have y2 := HY3.out.drew.cell 2
    simp at a0 a1 d0 d1 d2 y0 y1 y2
    have hz2 := HZ2.out
    go_region_held3 (fun W => Hid (Below w.heap.size w W) ∧ W.cell? ⟨w.heap.size, 0, none⟩ = some (.slice A n c) ∧ W.cell? ⟨w.heap.size, 1, none⟩ = some (.int .i64 K) ∧ W.cell? ⟨w1.heap.size, 0, none⟩ = some (.int .i64 df) ∧ W.cell? ⟨w1.heap.size, 1, none⟩ = some (.int .i64 dt) ∧ W.cell? ⟨w1.heap.size, 2, none⟩ = some (.int .i64 dm) ∧ W.cell? ⟨w1.heap.size + 1, 0, none⟩ = some (.string cn) ∧ W.cell? ⟨w1.heap.size + 1, 1, none⟩ = some (.int .i64 kd) ∧ W.cell? ⟨w1.heap.size + 1, 2, none⟩ = some (.bool true)) (first | (refine ⟨by assumption, ?_⟩; go_keep; done) | exact ⟨hid_s2 (by assumption) _ _, cell_s2 (by show w.heap.size + 1 + 1 ≠ w.heap.size; omega) (by assumption), cell_s2 (by show w.heap.size + 1 + 1 ≠ w.heap.size; omega) (by assumption), cell_s2 (by show w.heap.size + 1 + 1 ≠ w1.heap.size; omega) (by assumption), cell_s2 (by show w.heap.size + 1 + 1 ≠ w1.heap.size; omega) (by assumption), cell_s2 (by show w.heap.size + 1 + 1 ≠ w1.heap.size; omega) (by assumption), cell_s2 (by show w.heap.size + 1 + 1 ≠ w1.heap.size + 1; omega) (by assumption), cell_s2 (by show w.heap.size + 1 + 1 ≠ w1.heap.size + 1; omega) (by assumption), cell_s2 (by show w.heap.size + 1 + 1 ≠ w1.heap.size + 1; omega) (by assumption)⟩) (first
      | (go_at_call 59; refine HC.out.mono ?_; rintro e x1 ⟨v, rfl, ho, hb⟩; obtain ⟨A5, n5, c5, rfl, HN5, _, _, HV5, _⟩ := ownC_open ho.out; clear HN5 HV5; have hg := HG3.out.drew.below hb.out HG3.out.drew.lt; have b1 := keepC hb.out a1; have b0 := keepC hb.out a0; have b2 := keepC hb.out d0; have b3 := keepC hb.out d1; have b4 := keepC hb.out d2; have b5 := keepC hb.out y0; have b6 := keepC hb.out y1; have b7 := keepC hb.out y2; have hbx := Lib.hid (HBD.out.trans (hb.out.mono HBD.out.size)); have g0 : x1.cell? ⟨w.heap.size + 1 + 1, 0, none⟩ = some (.slice none 0 0) := hg.cell 0; have g1 : x1.cell? ⟨w.heap.size + 1 + 1, 1, none⟩ = some (.int .i64 0) := hg.cell 1; have e0 : x1.frozen? ⟨w.heap.size + 1 + 1, 0, none⟩ = false := hg.free 0; have e1 : x1.frozen? ⟨w.heap.size + 1 + 1, 1, none⟩ = false := hg.free 1; have HG4 := Lib.hid hg; clear hg))
    all_goals
      have HP := Lib.hid ((HG4.out.put 0 (.slice A5 n5 c5)).put 1 (.int .i64 K))
      have HB5 := Lib.hid (HBD.out.trans (hb.out.mono HBD.out.size))
      have HO5 := Lib.hid ((ho.out.far (p := ⟨w.heap.size + 1 + 1, 0, none⟩) (by show w.heap.size + 1 + 1 < W.heap.size; omega) (.slice A5 n5 c5)).far (p := ⟨w.heap.size + 1 + 1, 1, none⟩) (by show w.heap.size + 1 + 1 < W.heap.size; omega) (.int .i64 K))
      have HZ3 : Hid (w.heap.size ≤ W.heap.size) := by show _ ≤ _; omega
      go_wp2_with fail
      exact bodyPost_ret (schEnd rfl _ (w.heap.size + 2) _ _ _ rfl HP.out) rfl ⟨_, by rw [HE.out, HK.out]; rfl, by rw [HE.out, HL.out]; exact ownC_down HO5.out HZ3.out, (HB5.out.setCell (by show w.heap.size ≤ w.heap.size + 1 + 1; omega) _).setCell (by show w.heap.size ≤ w.heap.size + 1 + 1; omega) _⟩
  · have HL : Hid (applyL L ⟨df, dt, dm, de⟩ cn kd = []) := by show _ = _; unfold applyL; rw [if_neg he]
    have HK : Hid (applyK K ⟨df, dt, dm, de⟩ = 0) := by show _ = _; unfold applyK; rw [if_neg he]
    have hq : (de != 0) = true := by simp [he]
    have HG2 := Lib.hid (HG1.out.alloc (.cells #[.int .i64 df, .int .i64 dt, .int .i64 dm] 88))
    have HB2 := Lib.hid (HB1.out.alloc HB1.out.size (.cells #[.int .i64 df, .int .i64 dt, .int .i64 dm] 88))
    have g0 : (w1.alloc (.cells #[.int .i64 df, .int .i64 dt, .int .i64 dm] 88)).cell? ⟨w.heap.size + 1 + 1, 0, none⟩ = some (.slice none 0 0) := HG2.out.cell 0
    have g1 : (w1.alloc (.cells #[.int .i64 df, .int .i64 dt, .int .i64 dm] 88)).cell? ⟨w.heap.size + 1 + 1, 1, none⟩ = some (.int .i64 0) := HG2.out.cell 1
    have e0 : (w1.alloc (.cells #[.int .i64 df, .int .i64 dt, .int .i64 dm] 88)).frozen? ⟨w.heap.size + 1 + 1, 0, none⟩ = false := HG2.out.free 0
    have e1 : (w1.alloc (.cells #[.int .i64 df, .int .i64 dt, .int .i64 dm] 88)).frozen? ⟨w.heap.size + 1 + 1, 1, none⟩ = false := HG2.out.free 1
    unfold Dn.val
    go_wp2_with fail
    have HP := Lib.hid ((HG2.out.put 0 (.slice none 0 0)).put 1 (.int .i64 0))
    exact bodyPost_ret (schEnd rfl _ (w.heap.size + 2) _ _ _ rfl HP.out) rfl ⟨_, by rw [HE.out, HK.out]; rfl, by rw [HE.out, HL.out]; exact ownC_nil _ _, (HB2.out.setCell (by show w.heap.size ≤ w.heap.size + 1 + 1; omega) _).setCell (by show w.heap.size ≤ w.heap.size + 1 + 1; omega) _⟩
end Go.Proofs.YtiefogofiajmnaaDoor
