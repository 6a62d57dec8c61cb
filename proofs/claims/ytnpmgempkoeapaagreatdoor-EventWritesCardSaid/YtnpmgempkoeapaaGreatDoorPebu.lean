/-
  Put together, as far as it is used: REvt.
-/
import Derived.Test.YtnpmgempkoeapaaGreatDoorPebb
import Derived.Deep.RegionHeld3
set_option linter.unusedVariables false
set_option linter.unusedSimpArgs false
set_option linter.defProp false
namespace Go.Proofs.YtnpmgempkoeapaaGreatDoor
open Go.RowKit Dg
set_option maxRecDepth 100000
theorem rx12 {w W : World} {g q : Nat} {e : Array Value} {s0 s1 : Value} {o : Array Value} (S : Sv w W g q e s0 s1 o) (u0 u1 u2 u3 u4 u5 u6 u7 u8 u9 u10 u11 : Value) : Hid (Has (put12 W (w.heap.size + 1) u0 u1 u2 u3 u4 u5 u6 u7 u8 u9 u10 u11) (w.heap.size + 1) 33 #[u0, u1, u2, u3, u4, u5, u6, u7, u8, u9, u10, u11]) ∧ Tur [w.heap.size + 1] W (put12 W (w.heap.size + 1) u0 u1 u2 u3 u4 u5 u6 u7 u8 u9 u10 u11) ∧ Below w.heap.size w (put12 W (w.heap.size + 1) u0 u1 u2 u3 u4 u5 u6 u7 u8 u9 u10 u11) :=
 ⟨put12_has S.hr u0 u1 u2 u3 u4 u5 u6 u7 u8 u9 u10 u11, put12_tur _ _ u0 u1 u2 u3 u4 u5 u6 u7 u8 u9 u10 u11, ((Tur.of_below (X := [w.heap.size + 1]) S.bel).trans (put12_tur _ _ u0 u1 u2 u3 u4 u5 u6 u7 u8 u9 u10 u11) (Fre.refl _ _)).below (B := w.heap.size) (fun k hk => by simp at hk; omega) (Nat.le_refl _)⟩
theorem evEndH {w' : World} {g : Nat} {u0 u1 u2 u3 u4 u5 u6 u7 u8 u9 u10 u11 : Value} {tmps : Array Value} (hh : Has w' g 33 #[u0, u1, u2, u3, u4, u5, u6, u7, u8, u9, u10, u11]) (hp : tmps.getD 4 undef = .pointer (some ⟨g, 0, none⟩)) : (results Tryz.f7 tmps).run Tryz.prog w' = .ok (.agg #[u0, u1, u2, u3, u4, u5, u6, u7, u8, u9, u10, u11]) w' := evEnd w' g u0 u1 u2 u3 u4 u5 u6 u7 u8 u9 u10 u11 tmps hp hh
theorem su_new {w w1 w2 : World} {e : Array Value} (hE : Has w1 w.heap.size 33 e) (hR : Has w1 (w.heap.size + 1) 33 #[.int .i64 0, .int .i64 0, .string ⟨#[]⟩, .slice none 0 0, .slice none 0 0, .int .i64 0, .string ⟨#[]⟩, .slice none 0 0, .int .i64 0, .string ⟨#[]⟩, .int .i64 0, .bool false]) (hB : Below w.heap.size w w1) (hb : Below w1.heap.size w1 w2) (hl : w.heap.size + 1 < w2.heap.size) : Su w (w2.alloc (.cells #[.slice none 0 0, .int .i64 0] 27)) w2.heap.size e (.slice none 0 0) (.int .i64 0) :=
 ⟨(hE.below hb hE.lt).alloc _, (hR.below hb hR.lt).alloc _, Has.new _ _ _, (hB.trans (hb.mono hB.size)).alloc (hB.trans (hb.mono hB.size)).size _, hl⟩
set_option maxHeartbeats 16000000 in
theorem revent_any (x : Ev) (Ab : Option Addr) (nb zb : Nat) (Aa : Option Addr) (na za : Nat) (A : Option Addr) (n c : Nat) (At : Option Addr) (nt ctt : Nat) (T : List Tb) (w : World) (h : EvW w x Ab nb zb Aa na za A n c) (hfB : ∀ y ∈ x.B, y.fits) (hfA : ∀ y ∈ x.A, y.fits) (hzb : zb ≤ maxLen) (hza : za ≤ maxLen) (hT : TbW w At nt ctt T) (hGS : ∀ y ∈ T, ∃ k : Nat, y.K = (k : Int) ∧ GoodS y.L k) (hm : -9223372036854775808 ≤ x.n ∧ x.n ≤ 9223372036854775807) :
 Calls Tryz.prog 7 #[.agg #[.int .i64 x.k, .int .i64 x.n, .string x.t, .slice Ab nb zb, .slice Aa na za, .int .i64 x.ck, .string x.ct, .slice A n c, .int .i64 x.K, .string x.cl.nm, .int .i64 x.cl.k, .bool x.cl.no], .slice At nt ctt] w fun e w' => EvOut w e w' := by
 obtain ⟨w1, hw1⟩ : ∃ W, W = (w.alloc (.cells #[.int .i64 x.k, .int .i64 x.n, .string x.t, .slice Ab nb zb, .slice Aa na za, .int .i64 x.ck, .string x.ct, .slice A n c, .int .i64 x.K, .string x.cl.nm, .int .i64 x.cl.k, .bool x.cl.no] 33)).alloc (.cells #[.int .i64 0, .int .i64 0, .string ⟨#[]⟩, .slice none 0 0, .slice none 0 0, .int .i64 0, .string ⟨#[]⟩, .slice none 0 0, .int .i64 0, .string ⟨#[]⟩, .int .i64 0, .bool false] 33) := ⟨_, rfl⟩
 have hb1 : Below w.heap.size w w1 := by rw [hw1]; exact ((Below.refl w.heap.size w).alloc (Nat.le_refl _) _).alloc (by simp) _
 have HE1 : Hid (Has w1 w.heap.size 33 #[.int .i64 x.k, .int .i64 x.n, .string x.t, .slice Ab nb zb, .slice Aa na za, .int .i64 x.ck, .string x.ct, .slice A n c, .int .i64 x.K, .string x.cl.nm, .int .i64 x.cl.k, .bool x.cl.no]) := by rw [hw1]; exact (Has.new _ _ _).alloc _
 have hr := Has.new (w.alloc (.cells #[.int .i64 x.k, .int .i64 x.n, .string x.t, .slice Ab nb zb, .slice Aa na za, .int .i64 x.ck, .string x.ct, .slice A n c, .int .i64 x.K, .string x.cl.nm, .int .i64 x.cl.k, .bool x.cl.no] 33)) 33 #[.int .i64 0, .int .i64 0, .string ⟨#[]⟩, .slice none 0 0, .slice none 0 0, .int .i64 0, .string ⟨#[]⟩, .slice none 0 0, .int .i64 0, .string ⟨#[]⟩, .int .i64 0, .bool false]
 rw [World.size_alloc, ← hw1] at hr
 have HR1 := Lib.hid hr
 have HB1 := Lib.hid hb1
 have HFD := Lib.hid (find6_any At T nt ctt x.t w1 hT.len hT.few (hT.row.below hb1))
 have HFF : Hid ((∀ y ∈ x.B, y.fits) ∧ (∀ y ∈ x.A, y.fits) ∧ zb ≤ maxLen ∧ za ≤ maxLen) := ⟨hfB, hfA, hzb, hza⟩
 have HGS := Lib.hid hGS
 have HW := Lib.hid h
 have HTT := Lib.hid hT
 have u2 : w1.cell? ⟨w.heap.size, 2, none⟩ = some (.string x.t) := HE1.out.cell 2
 replace hw1 := hw1.symm
 clear hr hb1 h hT hfB hfA hzb hza hGS
 obtain ⟨k, m, t, B, AA, ck, ct, L, K, ⟨cn, cq, cb⟩⟩ := x
 have hsz1 : w.heap.size + 1 < w1.heap.size := HR1.out.lt
 by_cases hk : k = 3 ∨ k = 4 ∨ k = 5 ∨ k = 6
 ·rcases hk with rfl | rfl | rfl | rfl
  ·cases hp : plF T t
   ·go_enter Tryz.func7, Tryz.ntmps7
    go_wp2_with fail
    refine HFD.out.mono ?_
    rintro e w2 ⟨rfl, hb2⟩
    rw [tfV_no HTT.out.sort hp]
    by_cases hnt : 0 < nt
    ·have g0 : (0 : Int) < (nt : Int) := by omega
     have h0T : 0 < T.length := by rw [HTT.out.len]; omega
     obtain ⟨bt, ot, rfl, hct⟩ := HTT.out.row (by intro e; rw [e] at h0T; simp at h0T)
     have hct0 := hct 0 h0T
     obtain ⟨y, hy⟩ : ∃ y, T[0] = y := ⟨_, rfl⟩
     have hyT : y ∈ T := hy ▸ List.getElem_mem h0T
     rw [hy] at hct0
     clear hct hy
     obtain ⟨kk, hK, hgs⟩ := HGS.out y hyT
     have hok := HTT.out.ok y hyT
     obtain ⟨ynm, yA, yn, yc, yL, yK⟩ := y
     dsimp only at hK hgs hok hct0
     subst hK
     simp only [Nat.zero_mul, Nat.add_zero] at hct0
     obtain ⟨p0, p1, p2⟩ := hct0
     obtain ⟨W3z, hW3z⟩ : ∃ W, W = w2.alloc (.cells #[.slice none 0 0, .int .i64 0] 27) := ⟨_, rfl⟩
     have hsz2 : w.heap.size + 1 < w2.heap.size := Nat.lt_of_lt_of_le hsz1 hb2.out.size
     have HS3z := Lib.hid (su_new HE1.out HR1.out HB1.out hb2.out hsz2)
     rw [← hW3z] at HS3z
     replace hW3z := hW3z.symm
     obtain ⟨g, hg⟩ : ∃ g, w2.heap.size = g := ⟨_, rfl⟩
     rw [hg] at HS3z hsz2
     clear hb2 HFD HE1 HR1 HB1 u2 hw1
     have zz0 := HS3z.out.hs.cell 0
     have zz1 := HS3z.out.hs.cell 1
     have zzf0 := HS3z.out.hs.free 0
     have zzf1 := HS3z.out.hs.free 1
     simp only [zG, zH, zI] at zz0 zz1
     obtain ⟨W3, hW3⟩ : ∃ W, W = (W3z.setCell ⟨g, 0, none⟩ (.slice none 0 0)).setCell ⟨g, 1, none⟩ (.int .i64 0) := ⟨_, rfl⟩
     have HS3 := Lib.hid (HS3z.out.puts (.slice none 0 0) (.int .i64 0))
     rw [← hW3] at HS3
     replace hW3 := hW3.symm
     have hb3w := HS3.out.bel
     have x0 : W3.cell? ⟨bt, ot, none⟩ = some (.string ynm) := keepW3 hb3w p0
     obtain ⟨W3a, hW3a⟩ : ∃ W, W = W3.setCell ⟨w.heap.size, 2, none⟩ (.string ynm) := ⟨_, rfl⟩
     have HS3a : Hid (Su w W3a g #[.int .i64 3, .int .i64 m, .string ynm, .slice Ab nb zb, .slice Aa na za, .int .i64 ck, .string ct, .slice A n c, .int .i64 K, .string cn, .int .i64 cq, .bool cb] (.slice none 0 0) (.int .i64 0)) := by rw [hW3a]; exact HS3.out.pute 2 _
     replace hW3a := hW3a.symm
     have x1 : W3a.cell? ⟨bt, ot + 1, none⟩ = some (.slice yA yn yc) := keepW3 HS3a.out.bel p1
     have x2 : W3a.cell? ⟨bt, ot + 1 + 1, none⟩ = some (.int .i64 (kk : Int)) := keepW3 HS3a.out.bel p2
     have x2b : W3a.cell? ⟨bt, ot + 2, none⟩ = some (.int .i64 (kk : Int)) := keepW3 HS3a.out.bel p2
     obtain ⟨W3b, hW3b⟩ : ∃ W, W = (W3a.setCell ⟨g, 0, none⟩ (.slice yA yn yc)).setCell ⟨g, 1, none⟩ (.int .i64 (kk : Int)) := ⟨_, rfl⟩
     have HS3b : Hid (Su w W3b g #[.int .i64 3, .int .i64 m, .string ynm, .slice Ab nb zb, .slice Aa na za, .int .i64 ck, .string ct, .slice A n c, .int .i64 K, .string cn, .int .i64 cq, .bool cb] (.slice yA yn yc) (.int .i64 (kk : Int))) := by rw [hW3b]; exact HS3a.out.puts _ _
     replace hW3b := hW3b.symm
     have x_e0 := HS3.out.he.cell 0
     have x_e2 := HS3.out.he.cell 2
     have x_ef0 := HS3.out.he.free 0
     have x_ef2 := HS3.out.he.free 2
     simp only [zG, zH, zI] at x_e0 x_e2
     have x_s0 := HS3a.out.hs.cell 0
     have x_s1 := HS3a.out.hs.cell 1
     have x_sf0 := HS3a.out.hs.free 0
     have x_sf1 := HS3a.out.hs.free 1
     simp only [zG, zH, zI] at x_s0 x_s1
     obtain ⟨W4z, hW4z⟩ : ∃ W, W = W3b.alloc (.cells #[.int .i64 0, .int .i64 0, .string ⟨#[]⟩, .slice none 0 0, .slice none 0 0, .int .i64 0, .string ⟨#[]⟩, .slice none 0 0, .int .i64 0, .string ⟨#[]⟩, .int .i64 0, .bool false] 33) := ⟨_, rfl⟩
     have s4 := HS3b.out.out #[.int .i64 0, .int .i64 0, .string ⟨#[]⟩, .slice none 0 0, .slice none 0 0, .int .i64 0, .string ⟨#[]⟩, .slice none 0 0, .int .i64 0, .string ⟨#[]⟩, .int .i64 0, .bool false]
     rw [← hW4z] at s4
     replace hW4z := hW4z.symm
     obtain ⟨q, hq⟩ : ∃ q, W3b.heap.size = q := ⟨_, rfl⟩
     rw [hq] at s4
     have HS4z := Lib.hid s4
     obtain ⟨nz0, nz1, nz2, nz3, nz4, nz5, nz6, nz7, nz8, nz9, nz10, nz11, nzf0, nzf1, nzf2, nzf3, nzf4, nzf5, nzf6, nzf7, nzf8, nzf9, nzf10, nzf11⟩ := all12 HS4z.out.ho
     obtain ⟨W4, hW4⟩ : ∃ W, put12 W4z q (.int .i64 3) (.int .i64 0) (.string ⟨#[]⟩) (.slice none 0 0) (.slice none 0 0) (.int .i64 0) (.string ⟨#[]⟩) (.slice none 0 0) (.int .i64 0) (.string ⟨#[]⟩) (.int .i64 0) (.bool false) = W := ⟨_, rfl⟩
     have s4b := s4.put12 (.int .i64 3) (.int .i64 0) (.string ⟨#[]⟩) (.slice none 0 0) (.slice none 0 0) (.int .i64 0) (.string ⟨#[]⟩) (.slice none 0 0) (.int .i64 0) (.string ⟨#[]⟩) (.int .i64 0) (.bool false)
     rw [hW4] at s4b
     have HS4 := Lib.hid s4b
     have hW4' := hW4
     unfold put12 at hW4'
     clear s4 s4b hW4
     have hlo := HS4.out.lo
     have e0 := HS3b.out.he.cell 0
     have ef0 := HS3b.out.he.free 0
     simp only [zG, zH, zI] at e0
     have a0 := HS4.out.he.cell 0
     have a1 := HS4.out.he.cell 1
     have a2 := HS4.out.he.cell 2
     have af0 := HS4.out.he.free 0
     have af1 := HS4.out.he.free 1
     have af2 := HS4.out.he.free 2
     simp only [zG, zH, zI] at a0 a1 a2
     have b2 := HS4.out.ho.cell 2
     have bf2 := HS4.out.ho.free 2
     simp only [zG, zH, zI] at b2
     obtain ⟨W5, hW5⟩ : ∃ W, W = (W4.setCell ⟨q, 2, none⟩ (.string ynm)) := ⟨_, rfl⟩
     have HS5 : Hid (Sv w W5 g q #[.int .i64 3, .int .i64 m, .string ynm, .slice Ab nb zb, .slice Aa na za, .int .i64 ck, .string ct, .slice A n c, .int .i64 K, .string cn, .int .i64 cq, .bool cb] (.slice yA yn yc) (.int .i64 (kk : Int)) #[.int .i64 3, .int .i64 0, .string ynm, .slice none 0 0, .slice none 0 0, .int .i64 0, .string ⟨#[]⟩, .slice none 0 0, .int .i64 0, .string ⟨#[]⟩, .int .i64 0, .bool false]) := by rw [hW5]; exact (HS4.out.put 2 (.string ynm))
     replace hW5 := hW5.symm
     have c2 := HS5.out.he.cell 2
     have c3 := HS5.out.he.cell 3
     have c4 := HS5.out.he.cell 4
     have cf2 := HS5.out.he.free 2
     have cf3 := HS5.out.he.free 3
     have cf4 := HS5.out.he.free 4
     simp only [zG, zH, zI] at c2 c3 c4
     have s0 := HS5.out.hs.cell 0
     have s1 := HS5.out.hs.cell 1
     have sf0 := HS5.out.hs.free 0
     have sf1 := HS5.out.hs.free 1
     simp only [zG, zH, zI] at s0 s1
     have hbw5 := HS5.out.bel
     have HRW := Lib.hid (row_any yA yL yn yc (kk : Int) Aa AA na za W5 hok.len hok.few (hok.row.below hbw5) (fun y hy => (goodS_fit yL kk hgs y hy).2.2.2) HW.out.a.1 HW.out.a.2.1 HFF.out.2.2.2 (HW.out.a.2.2.1.below hbw5) HFF.out.2.1)
     go_wp2_with fail
     refine HRW.out.mono ?_
     rintro e w6 ⟨v6, rfl, ho6, hb6⟩
     obtain ⟨A6, n6, c6, rfl, hn6, hc6, hm6, hr6, hg6, _⟩ := ownV_blk ho6.out
     have HS6 := Lib.hid (HS5.out.below hb6.out)
     have hq5 : q < W5.heap.size := HS5.out.ho.lt
     clear HRW ho6 hb6 hbw5 c2 cf2 c3 cf3 c4 cf4 s0 sf0 s1 sf1 b2 bf2 a0 af0 a1 af1 a2 af2 e0 ef0 nz0 nzf0 nz1 nzf1 nz2 nzf2 nz3 nzf3 nz4 nzf4 nz5 nzf5 nz6 nzf6 nz7 nzf7 nz8 nzf8 nz9 nzf9 nz10 nzf10 nz11 nzf11
     have b4 := HS6.out.ho.cell 4
     have bf4 := HS6.out.ho.free 4
     simp only [zG, zH, zI] at b4
     obtain ⟨W7, hW7⟩ : ∃ W, W = (w6.setCell ⟨q, 4, none⟩ (.slice A6 n6 c6)) := ⟨_, rfl⟩
     have HS7 : Hid (Sv w W7 g q #[.int .i64 3, .int .i64 m, .string ynm, .slice Ab nb zb, .slice Aa na za, .int .i64 ck, .string ct, .slice A n c, .int .i64 K, .string cn, .int .i64 cq, .bool cb] (.slice yA yn yc) (.int .i64 (kk : Int)) #[.int .i64 3, .int .i64 0, .string ynm, .slice none 0 0, .slice A6 n6 c6, .int .i64 0, .string ⟨#[]⟩, .slice none 0 0, .int .i64 0, .string ⟨#[]⟩, .int .i64 0, .bool false]) := by rw [hW7]; exact (HS6.out.put 4 (.slice A6 n6 c6))
     replace hW7 := hW7.symm
     have ht7 : Tur [q] w6 W7 := by rw [← hW7]; exact Tur.setCell w6 (p := ⟨q, 4, none⟩) (by simp) _
     obtain ⟨u0, u1, u2, u3, u4, u5, u6, u7, u8, u9, u10, u11, uf0, uf1, uf2, uf3, uf4, uf5, uf6, uf7, uf8, uf9, uf10, uf11⟩ := all12 HS7.out.ho
     obtain ⟨v0, v1, v2, v3, v4, v5, v6, v7, v8, v9, v10, v11, vf0, vf1, vf2, vf3, vf4, vf5, vf6, vf7, vf8, vf9, vf10, vf11⟩ := all12 HS7.out.hr
     go_wp2_with fail
     obtain ⟨HF, ht, hbe⟩ := rx12 HS7.out (.int .i64 3) (.int .i64 0) (.string ynm) (.slice none 0 0) (.slice A6 n6 c6) (.int .i64 0) (.string ⟨#[]⟩) (.slice none 0 0) (.int .i64 0) (.string ⟨#[]⟩) (.int .i64 0) (.bool false)
     refine bodyPost_ret (evEndH HF.out rfl) rfl ?_
     exact ⟨⟨3, 0, ynm, [], rowF yL AA, 0, ⟨#[]⟩, [], 0, ⟨⟨#[]⟩, 0, false⟩⟩, none, 0, 0, A6, n6, c6, none, 0, 0, rfl, evw_row 3 0 ynm [] (rowF yL AA) none 0 0 A6 n6 c6 (nilB _) ⟨hn6.out, hc6, ((hr6.out.tur ht7 (fun a e hh => by have := (hg6.out a e).1; simp at hh; omega)).tur ht (fun a e hh => by have := (hg6.out a e).1; simp at hh; omega)), fun y hy => (rowF_fit yL AA (fun c hc => ⟨(goodS_fit yL kk hgs c hc).2.1, (goodS_fit yL kk hgs c hc).2.2.1⟩) HFF.out.2.1 y hy).1⟩ (by omega) (by unfold maxLen at hm6; omega), hbe, small_a (fun c hc => ⟨(goodS_fit yL kk hgs c hc).2.1, (goodS_fit yL kk hgs c hc).2.2.1⟩) HFF.out.2.1⟩
    ·have g0 : ¬ (0 : Int) < (nt : Int) := by omega
     obtain ⟨W3z, hW3z⟩ : ∃ W, W = w2.alloc (.cells #[.slice none 0 0, .int .i64 0] 27) := ⟨_, rfl⟩
     have hsz2 : w.heap.size + 1 < w2.heap.size := Nat.lt_of_lt_of_le hsz1 hb2.out.size
     have HS3z := Lib.hid (su_new HE1.out HR1.out HB1.out hb2.out hsz2)
     rw [← hW3z] at HS3z
     replace hW3z := hW3z.symm
     obtain ⟨g, hg⟩ : ∃ g, w2.heap.size = g := ⟨_, rfl⟩
     rw [hg] at HS3z hsz2
     clear hb2 HFD HE1 HR1 HB1 u2 hw1
     have zz0 := HS3z.out.hs.cell 0
     have zz1 := HS3z.out.hs.cell 1
     have zzf0 := HS3z.out.hs.free 0
     have zzf1 := HS3z.out.hs.free 1
     simp only [zG, zH, zI] at zz0 zz1
     obtain ⟨W3, hW3⟩ : ∃ W, W = (W3z.setCell ⟨g, 0, none⟩ (.slice none 0 0)).setCell ⟨g, 1, none⟩ (.int .i64 0) := ⟨_, rfl⟩
     have HS3 := Lib.hid (HS3z.out.puts (.slice none 0 0) (.int .i64 0))
     rw [← hW3] at HS3
     replace hW3 := hW3.symm
     obtain ⟨W4z, hW4z⟩ : ∃ W, W = W3.alloc (.cells #[.int .i64 0, .int .i64 0, .string ⟨#[]⟩, .slice none 0 0, .slice none 0 0, .int .i64 0, .string ⟨#[]⟩, .slice none 0 0, .int .i64 0, .string ⟨#[]⟩, .int .i64 0, .bool false] 33) := ⟨_, rfl⟩
     have s4 := HS3.out.out #[.int .i64 0, .int .i64 0, .string ⟨#[]⟩, .slice none 0 0, .slice none 0 0, .int .i64 0, .string ⟨#[]⟩, .slice none 0 0, .int .i64 0, .string ⟨#[]⟩, .int .i64 0, .bool false]
     rw [← hW4z] at s4
     replace hW4z := hW4z.symm
     obtain ⟨q, hq⟩ : ∃ q, W3.heap.size = q := ⟨_, rfl⟩
     rw [hq] at s4
     have HS4z := Lib.hid s4
     obtain ⟨nz0, nz1, nz2, nz3, nz4, nz5, nz6, nz7, nz8, nz9, nz10, nz11, nzf0, nzf1, nzf2, nzf3, nzf4, nzf5, nzf6, nzf7, nzf8, nzf9, nzf10, nzf11⟩ := all12 HS4z.out.ho
     obtain ⟨W4, hW4⟩ : ∃ W, put12 W4z q (.int .i64 3) (.int .i64 0) (.string ⟨#[]⟩) (.slice none 0 0) (.slice none 0 0) (.int .i64 0) (.string ⟨#[]⟩) (.slice none 0 0) (.int .i64 0) (.string ⟨#[]⟩) (.int .i64 0) (.bool false) = W := ⟨_, rfl⟩
     have s4b := s4.put12 (.int .i64 3) (.int .i64 0) (.string ⟨#[]⟩) (.slice none 0 0) (.slice none 0 0) (.int .i64 0) (.string ⟨#[]⟩) (.slice none 0 0) (.int .i64 0) (.string ⟨#[]⟩) (.int .i64 0) (.bool false)
     rw [hW4] at s4b
     have HS4 := Lib.hid s4b
     have hW4' := hW4
     unfold put12 at hW4'
     clear s4 s4b hW4
     have hlo := HS4.out.lo
     have e0 := HS3.out.he.cell 0
     have ef0 := HS3.out.he.free 0
     simp only [zG, zH, zI] at e0
     have a0 := HS4.out.he.cell 0
     have a1 := HS4.out.he.cell 1
     have a2 := HS4.out.he.cell 2
     have af0 := HS4.out.he.free 0
     have af1 := HS4.out.he.free 1
     have af2 := HS4.out.he.free 2
     simp only [zG, zH, zI] at a0 a1 a2
     have b2 := HS4.out.ho.cell 2
     have bf2 := HS4.out.ho.free 2
     simp only [zG, zH, zI] at b2
     obtain ⟨W7, hW7⟩ : ∃ W, W = (W4.setCell ⟨q, 2, none⟩ (.string t)) := ⟨_, rfl⟩
     have HS7 : Hid (Sv w W7 g q #[.int .i64 3, .int .i64 m, .string t, .slice Ab nb zb, .slice Aa na za, .int .i64 ck, .string ct, .slice A n c, .int .i64 K, .string cn, .int .i64 cq, .bool cb] (.slice none 0 0) (.int .i64 0) #[.int .i64 3, .int .i64 0, .string t, .slice none 0 0, .slice none 0 0, .int .i64 0, .string ⟨#[]⟩, .slice none 0 0, .int .i64 0, .string ⟨#[]⟩, .int .i64 0, .bool false]) := by rw [hW7]; exact (HS4.out.put 2 (.string t))
     replace hW7 := hW7.symm
     obtain ⟨u0, u1, u2, u3, u4, u5, u6, u7, u8, u9, u10, u11, uf0, uf1, uf2, uf3, uf4, uf5, uf6, uf7, uf8, uf9, uf10, uf11⟩ := all12 HS7.out.ho
     obtain ⟨v0, v1, v2, v3, v4, v5, v6, v7, v8, v9, v10, v11, vf0, vf1, vf2, vf3, vf4, vf5, vf6, vf7, vf8, vf9, vf10, vf11⟩ := all12 HS7.out.hr
     go_wp2_with fail
     obtain ⟨HF, ht, hbe⟩ := rx12 HS7.out (.int .i64 3) (.int .i64 0) (.string t) (.slice none 0 0) (.slice none 0 0) (.int .i64 0) (.string ⟨#[]⟩) (.slice none 0 0) (.int .i64 0) (.string ⟨#[]⟩) (.int .i64 0) (.bool false)
     refine bodyPost_ret (evEndH HF.out rfl) rfl ?_
     exact ⟨⟨3, 0, t, [], [], 0, ⟨#[]⟩, [], 0, ⟨⟨#[]⟩, 0, false⟩⟩, none, 0, 0, none, 0, 0, none, 0, 0, rfl, evw_row 3 0 t [] [] none 0 0 none 0 0 (nilB _) (nilB _) (by omega) (by omega), hbe, small_no (by omega)⟩
   ·obtain ⟨hl, _⟩ := plF_tat hp
    go_enter Tryz.func7, Tryz.ntmps7
    go_wp2_with fail
    refine HFD.out.mono ?_
    rintro e w2 ⟨rfl, hb2⟩
    rw [tfV_yes hp hl]
    obtain ⟨y, hy⟩ : ∃ y, T[lbN T t] = y := ⟨_, rfl⟩
    have hyT : y ∈ T := hy ▸ List.getElem_mem hl
    rw [hy]
    clear hy
    obtain ⟨kk, hK, hgs⟩ := HGS.out y hyT
    have hok := HTT.out.ok y hyT
    obtain ⟨ynm, yA, yn, yc, yL, yK⟩ := y
    dsimp only at hK hgs hok ⊢
    subst hK
    obtain ⟨W3, hW3⟩ : ∃ W, W = w2.alloc (.cells #[.slice yA yn yc, .int .i64 (kk : Int)] 27) := ⟨_, rfl⟩
    have hsz2 : w.heap.size + 1 < w2.heap.size := Nat.lt_of_lt_of_le hsz1 hb2.out.size
    have HS3 : Hid (Su w W3 w2.heap.size #[.int .i64 3, .int .i64 m, .string t, .slice Ab nb zb, .slice Aa na za, .int .i64 ck, .string ct, .slice A n c, .int .i64 K, .string cn, .int .i64 cq, .bool cb] (.slice yA yn yc) (.int .i64 (kk : Int))) := by
     rw [hW3]
     exact ⟨(HE1.out.below hb2.out HE1.out.lt).alloc _, (HR1.out.below hb2.out HR1.out.lt).alloc _, Has.new _ _ _, (HB1.out.trans (hb2.out.mono HB1.out.size)).alloc (HB1.out.trans (hb2.out.mono HB1.out.size)).size _, hsz2⟩
    replace hW3 := hW3.symm
    obtain ⟨g, hg⟩ : ∃ g, w2.heap.size = g := ⟨_, rfl⟩
    rw [hg] at HS3 hsz2
    clear hb2 HFD HE1 HR1 HB1 u2 hw1
    obtain ⟨W4z, hW4z⟩ : ∃ W, W = W3.alloc (.cells #[.int .i64 0, .int .i64 0, .string ⟨#[]⟩, .slice none 0 0, .slice none 0 0, .int .i64 0, .string ⟨#[]⟩, .slice none 0 0, .int .i64 0, .string ⟨#[]⟩, .int .i64 0, .bool false] 33) := ⟨_, rfl⟩
    have s4 := HS3.out.out #[.int .i64 0, .int .i64 0, .string ⟨#[]⟩, .slice none 0 0, .slice none 0 0, .int .i64 0, .string ⟨#[]⟩, .slice none 0 0, .int .i64 0, .string ⟨#[]⟩, .int .i64 0, .bool false]
    rw [← hW4z] at s4
    replace hW4z := hW4z.symm
    obtain ⟨q, hq⟩ : ∃ q, W3.heap.size = q := ⟨_, rfl⟩
    rw [hq] at s4
    have HS4z := Lib.hid s4
    obtain ⟨nz0, nz1, nz2, nz3, nz4, nz5, nz6, nz7, nz8, nz9, nz10, nz11, nzf0, nzf1, nzf2, nzf3, nzf4, nzf5, nzf6, nzf7, nzf8, nzf9, nzf10, nzf11⟩ := all12 HS4z.out.ho
    obtain ⟨W4, hW4⟩ : ∃ W, put12 W4z q (.int .i64 3) (.int .i64 0) (.string ⟨#[]⟩) (.slice none 0 0) (.slice none 0 0) (.int .i64 0) (.string ⟨#[]⟩) (.slice none 0 0) (.int .i64 0) (.string ⟨#[]⟩) (.int .i64 0) (.bool false) = W := ⟨_, rfl⟩
    have s4b := s4.put12 (.int .i64 3) (.int .i64 0) (.string ⟨#[]⟩) (.slice none 0 0) (.slice none 0 0) (.int .i64 0) (.string ⟨#[]⟩) (.slice none 0 0) (.int .i64 0) (.string ⟨#[]⟩) (.int .i64 0) (.bool false)
    rw [hW4] at s4b
    have HS4 := Lib.hid s4b
    have hW4' := hW4
    unfold put12 at hW4'
    clear s4 s4b hW4
    have hlo := HS4.out.lo
    have e0 := HS3.out.he.cell 0
    have ef0 := HS3.out.he.free 0
    simp only [zG, zH, zI] at e0
    have a0 := HS4.out.he.cell 0
    have a1 := HS4.out.he.cell 1
    have a2 := HS4.out.he.cell 2
    have af0 := HS4.out.he.free 0
    have af1 := HS4.out.he.free 1
    have af2 := HS4.out.he.free 2
    simp only [zG, zH, zI] at a0 a1 a2
    have b2 := HS4.out.ho.cell 2
    have bf2 := HS4.out.ho.free 2
    simp only [zG, zH, zI] at b2
    obtain ⟨W5, hW5⟩ : ∃ W, W = (W4.setCell ⟨q, 2, none⟩ (.string t)) := ⟨_, rfl⟩
    have HS5 : Hid (Sv w W5 g q #[.int .i64 3, .int .i64 m, .string t, .slice Ab nb zb, .slice Aa na za, .int .i64 ck, .string ct, .slice A n c, .int .i64 K, .string cn, .int .i64 cq, .bool cb] (.slice yA yn yc) (.int .i64 (kk : Int)) #[.int .i64 3, .int .i64 0, .string t, .slice none 0 0, .slice none 0 0, .int .i64 0, .string ⟨#[]⟩, .slice none 0 0, .int .i64 0, .string ⟨#[]⟩, .int .i64 0, .bool false]) := by rw [hW5]; exact (HS4.out.put 2 (.string t))
    replace hW5 := hW5.symm
    have c2 := HS5.out.he.cell 2
    have c3 := HS5.out.he.cell 3
    have c4 := HS5.out.he.cell 4
    have cf2 := HS5.out.he.free 2
    have cf3 := HS5.out.he.free 3
    have cf4 := HS5.out.he.free 4
    simp only [zG, zH, zI] at c2 c3 c4
    have s0 := HS5.out.hs.cell 0
    have s1 := HS5.out.hs.cell 1
    have sf0 := HS5.out.hs.free 0
    have sf1 := HS5.out.hs.free 1
    simp only [zG, zH, zI] at s0 s1
    have hbw5 := HS5.out.bel
    have HRW := Lib.hid (row_any yA yL yn yc (kk : Int) Aa AA na za W5 hok.len hok.few (hok.row.below hbw5) (fun y hy => (goodS_fit yL kk hgs y hy).2.2.2) HW.out.a.1 HW.out.a.2.1 HFF.out.2.2.2 (HW.out.a.2.2.1.below hbw5) HFF.out.2.1)
    go_wp2_with fail
    refine HRW.out.mono ?_
    rintro e w6 ⟨v6, rfl, ho6, hb6⟩
    obtain ⟨A6, n6, c6, rfl, hn6, hc6, hm6, hr6, hg6, _⟩ := ownV_blk ho6.out
    have HS6 := Lib.hid (HS5.out.below hb6.out)
    have hq5 : q < W5.heap.size := HS5.out.ho.lt
    clear HRW ho6 hb6 hbw5 c2 cf2 c3 cf3 c4 cf4 s0 sf0 s1 sf1 b2 bf2 a0 af0 a1 af1 a2 af2 e0 ef0 nz0 nzf0 nz1 nzf1 nz2 nzf2 nz3 nzf3 nz4 nzf4 nz5 nzf5 nz6 nzf6 nz7 nzf7 nz8 nzf8 nz9 nzf9 nz10 nzf10 nz11 nzf11
    have b4 := HS6.out.ho.cell 4
    have bf4 := HS6.out.ho.free 4
    simp only [zG, zH, zI] at b4
    obtain ⟨W7, hW7⟩ : ∃ W, W = (w6.setCell ⟨q, 4, none⟩ (.slice A6 n6 c6)) := ⟨_, rfl⟩
    have HS7 : Hid (Sv w W7 g q #[.int .i64 3, .int .i64 m, .string t, .slice Ab nb zb, .slice Aa na za, .int .i64 ck, .string ct, .slice A n c, .int .i64 K, .string cn, .int .i64 cq, .bool cb] (.slice yA yn yc) (.int .i64 (kk : Int)) #[.int .i64 3, .int .i64 0, .string t, .slice none 0 0, .slice A6 n6 c6, .int .i64 0, .string ⟨#[]⟩, .slice none 0 0, .int .i64 0, .string ⟨#[]⟩, .int .i64 0, .bool false]) := by rw [hW7]; exact (HS6.out.put 4 (.slice A6 n6 c6))
    replace hW7 := hW7.symm
    have ht7 : Tur [q] w6 W7 := by rw [← hW7]; exact Tur.setCell w6 (p := ⟨q, 4, none⟩) (by simp) _
    obtain ⟨u0, u1, u2, u3, u4, u5, u6, u7, u8, u9, u10, u11, uf0, uf1, uf2, uf3, uf4, uf5, uf6, uf7, uf8, uf9, uf10, uf11⟩ := all12 HS7.out.ho
    obtain ⟨v0, v1, v2, v3, v4, v5, v6, v7, v8, v9, v10, v11, vf0, vf1, vf2, vf3, vf4, vf5, vf6, vf7, vf8, vf9, vf10, vf11⟩ := all12 HS7.out.hr
    go_wp2_with fail
    obtain ⟨HF, ht, hbe⟩ := rx12 HS7.out (.int .i64 3) (.int .i64 0) (.string t) (.slice none 0 0) (.slice A6 n6 c6) (.int .i64 0) (.string ⟨#[]⟩) (.slice none 0 0) (.int .i64 0) (.string ⟨#[]⟩) (.int .i64 0) (.bool false)
    refine bodyPost_ret (evEndH HF.out rfl) rfl ?_
    exact ⟨⟨3, 0, t, [], rowF yL AA, 0, ⟨#[]⟩, [], 0, ⟨⟨#[]⟩, 0, false⟩⟩, none, 0, 0, A6, n6, c6, none, 0, 0, rfl, evw_row 3 0 t [] (rowF yL AA) none 0 0 A6 n6 c6 (nilB _) ⟨hn6.out, hc6, ((hr6.out.tur ht7 (fun a e hh => by have := (hg6.out a e).1; simp at hh; omega)).tur ht (fun a e hh => by have := (hg6.out a e).1; simp at hh; omega)), fun y hy => (rowF_fit yL AA (fun c hc => ⟨(goodS_fit yL kk hgs c hc).2.1, (goodS_fit yL kk hgs c hc).2.2.1⟩) HFF.out.2.1 y hy).1⟩ (by omega) (by unfold maxLen at hm6; omega), hbe, small_a (fun c hc => ⟨(goodS_fit yL kk hgs c hc).2.1, (goodS_fit yL kk hgs c hc).2.2.1⟩) HFF.out.2.1⟩
  ·cases hp : plF T t
   ·go_enter Tryz.func7, Tryz.ntmps7
    go_wp2_with fail
    refine HFD.out.mono ?_
    rintro e w2 ⟨rfl, hb2⟩
    rw [tfV_no HTT.out.sort hp]
    by_cases hnt : 0 < nt
    ·have g0 : (0 : Int) < (nt : Int) := by omega
     have h0T : 0 < T.length := by rw [HTT.out.len]; omega
     obtain ⟨bt, ot, rfl, hct⟩ := HTT.out.row (by intro e; rw [e] at h0T; simp at h0T)
     have hct0 := hct 0 h0T
     obtain ⟨y, hy⟩ : ∃ y, T[0] = y := ⟨_, rfl⟩
     have hyT : y ∈ T := hy ▸ List.getElem_mem h0T
     rw [hy] at hct0
     clear hct hy
     obtain ⟨kk, hK, hgs⟩ := HGS.out y hyT
     have hok := HTT.out.ok y hyT
     obtain ⟨ynm, yA, yn, yc, yL, yK⟩ := y
     dsimp only at hK hgs hok hct0
     subst hK
     simp only [Nat.zero_mul, Nat.add_zero] at hct0
     obtain ⟨p0, p1, p2⟩ := hct0
     obtain ⟨W3z, hW3z⟩ : ∃ W, W = w2.alloc (.cells #[.slice none 0 0, .int .i64 0] 27) := ⟨_, rfl⟩
     have hsz2 : w.heap.size + 1 < w2.heap.size := Nat.lt_of_lt_of_le hsz1 hb2.out.size
     have HS3z := Lib.hid (su_new HE1.out HR1.out HB1.out hb2.out hsz2)
     rw [← hW3z] at HS3z
     replace hW3z := hW3z.symm
     obtain ⟨g, hg⟩ : ∃ g, w2.heap.size = g := ⟨_, rfl⟩
     rw [hg] at HS3z hsz2
     clear hb2 HFD HE1 HR1 HB1 u2 hw1
     have zz0 := HS3z.out.hs.cell 0
     have zz1 := HS3z.out.hs.cell 1
     have zzf0 := HS3z.out.hs.free 0
     have zzf1 := HS3z.out.hs.free 1
     simp only [zG, zH, zI] at zz0 zz1
     obtain ⟨W3, hW3⟩ : ∃ W, W = (W3z.setCell ⟨g, 0, none⟩ (.slice none 0 0)).setCell ⟨g, 1, none⟩ (.int .i64 0) := ⟨_, rfl⟩
     have HS3 := Lib.hid (HS3z.out.puts (.slice none 0 0) (.int .i64 0))
     rw [← hW3] at HS3
     replace hW3 := hW3.symm
     have hb3w := HS3.out.bel
     have x0 : W3.cell? ⟨bt, ot, none⟩ = some (.string ynm) := keepW3 hb3w p0
     obtain ⟨W3a, hW3a⟩ : ∃ W, W = W3.setCell ⟨w.heap.size, 2, none⟩ (.string ynm) := ⟨_, rfl⟩
     have HS3a : Hid (Su w W3a g #[.int .i64 4, .int .i64 m, .string ynm, .slice Ab nb zb, .slice Aa na za, .int .i64 ck, .string ct, .slice A n c, .int .i64 K, .string cn, .int .i64 cq, .bool cb] (.slice none 0 0) (.int .i64 0)) := by rw [hW3a]; exact HS3.out.pute 2 _
     replace hW3a := hW3a.symm
     have x1 : W3a.cell? ⟨bt, ot + 1, none⟩ = some (.slice yA yn yc) := keepW3 HS3a.out.bel p1
     have x2 : W3a.cell? ⟨bt, ot + 1 + 1, none⟩ = some (.int .i64 (kk : Int)) := keepW3 HS3a.out.bel p2
     have x2b : W3a.cell? ⟨bt, ot + 2, none⟩ = some (.int .i64 (kk : Int)) := keepW3 HS3a.out.bel p2
     obtain ⟨W3b, hW3b⟩ : ∃ W, W = (W3a.setCell ⟨g, 0, none⟩ (.slice yA yn yc)).setCell ⟨g, 1, none⟩ (.int .i64 (kk : Int)) := ⟨_, rfl⟩
     have HS3b : Hid (Su w W3b g #[.int .i64 4, .int .i64 m, .string ynm, .slice Ab nb zb, .slice Aa na za, .int .i64 ck, .string ct, .slice A n c, .int .i64 K, .string cn, .int .i64 cq, .bool cb] (.slice yA yn yc) (.int .i64 (kk : Int))) := by rw [hW3b]; exact HS3a.out.puts _ _
     replace hW3b := hW3b.symm
     have x_e0 := HS3.out.he.cell 0
     have x_e2 := HS3.out.he.cell 2
     have x_ef0 := HS3.out.he.free 0
     have x_ef2 := HS3.out.he.free 2
     simp only [zG, zH, zI] at x_e0 x_e2
     have x_s0 := HS3a.out.hs.cell 0
     have x_s1 := HS3a.out.hs.cell 1
     have x_sf0 := HS3a.out.hs.free 0
     have x_sf1 := HS3a.out.hs.free 1
     simp only [zG, zH, zI] at x_s0 x_s1
     obtain ⟨W4z, hW4z⟩ : ∃ W, W = W3b.alloc (.cells #[.int .i64 0, .int .i64 0, .string ⟨#[]⟩, .slice none 0 0, .slice none 0 0, .int .i64 0, .string ⟨#[]⟩, .slice none 0 0, .int .i64 0, .string ⟨#[]⟩, .int .i64 0, .bool false] 33) := ⟨_, rfl⟩
     have s4 := HS3b.out.out #[.int .i64 0, .int .i64 0, .string ⟨#[]⟩, .slice none 0 0, .slice none 0 0, .int .i64 0, .string ⟨#[]⟩, .slice none 0 0, .int .i64 0, .string ⟨#[]⟩, .int .i64 0, .bool false]
     rw [← hW4z] at s4
     replace hW4z := hW4z.symm
     obtain ⟨q, hq⟩ : ∃ q, W3b.heap.size = q := ⟨_, rfl⟩
     rw [hq] at s4
     have HS4z := Lib.hid s4
     obtain ⟨nz0, nz1, nz2, nz3, nz4, nz5, nz6, nz7, nz8, nz9, nz10, nz11, nzf0, nzf1, nzf2, nzf3, nzf4, nzf5, nzf6, nzf7, nzf8, nzf9, nzf10, nzf11⟩ := all12 HS4z.out.ho
     obtain ⟨W4, hW4⟩ : ∃ W, put12 W4z q (.int .i64 4) (.int .i64 0) (.string ⟨#[]⟩) (.slice none 0 0) (.slice none 0 0) (.int .i64 0) (.string ⟨#[]⟩) (.slice none 0 0) (.int .i64 0) (.string ⟨#[]⟩) (.int .i64 0) (.bool false) = W := ⟨_, rfl⟩
     have s4b := s4.put12 (.int .i64 4) (.int .i64 0) (.string ⟨#[]⟩) (.slice none 0 0) (.slice none 0 0) (.int .i64 0) (.string ⟨#[]⟩) (.slice none 0 0) (.int .i64 0) (.string ⟨#[]⟩) (.int .i64 0) (.bool false)
     rw [hW4] at s4b
     have HS4 := Lib.hid s4b
     have hW4' := hW4
     unfold put12 at hW4'
     clear s4 s4b hW4
     have hlo := HS4.out.lo
     have e0 := HS3b.out.he.cell 0
     have ef0 := HS3b.out.he.free 0
     simp only [zG, zH, zI] at e0
     have a0 := HS4.out.he.cell 0
     have a1 := HS4.out.he.cell 1
     have a2 := HS4.out.he.cell 2
     have af0 := HS4.out.he.free 0
     have af1 := HS4.out.he.free 1
     have af2 := HS4.out.he.free 2
     simp only [zG, zH, zI] at a0 a1 a2
     have b2 := HS4.out.ho.cell 2
     have bf2 := HS4.out.ho.free 2
     simp only [zG, zH, zI] at b2
     obtain ⟨W5, hW5⟩ : ∃ W, W = (W4.setCell ⟨q, 2, none⟩ (.string ynm)) := ⟨_, rfl⟩
     have HS5 : Hid (Sv w W5 g q #[.int .i64 4, .int .i64 m, .string ynm, .slice Ab nb zb, .slice Aa na za, .int .i64 ck, .string ct, .slice A n c, .int .i64 K, .string cn, .int .i64 cq, .bool cb] (.slice yA yn yc) (.int .i64 (kk : Int)) #[.int .i64 4, .int .i64 0, .string ynm, .slice none 0 0, .slice none 0 0, .int .i64 0, .string ⟨#[]⟩, .slice none 0 0, .int .i64 0, .string ⟨#[]⟩, .int .i64 0, .bool false]) := by rw [hW5]; exact (HS4.out.put 2 (.string ynm))
     replace hW5 := hW5.symm
     have c2 := HS5.out.he.cell 2
     have c3 := HS5.out.he.cell 3
     have c4 := HS5.out.he.cell 4
     have cf2 := HS5.out.he.free 2
     have cf3 := HS5.out.he.free 3
     have cf4 := HS5.out.he.free 4
     simp only [zG, zH, zI] at c2 c3 c4
     have s0 := HS5.out.hs.cell 0
     have s1 := HS5.out.hs.cell 1
     have sf0 := HS5.out.hs.free 0
     have sf1 := HS5.out.hs.free 1
     simp only [zG, zH, zI] at s0 s1
     have hbw5 := HS5.out.bel
     have HRW := Lib.hid (row_any yA yL yn yc (kk : Int) Aa AA na za W5 hok.len hok.few (hok.row.below hbw5) (fun y hy => (goodS_fit yL kk hgs y hy).2.2.2) HW.out.a.1 HW.out.a.2.1 HFF.out.2.2.2 (HW.out.a.2.2.1.below hbw5) HFF.out.2.1)
     go_wp2_with fail
     refine HRW.out.mono ?_
     rintro e w6 ⟨v6, rfl, ho6, hb6⟩
     obtain ⟨A6, n6, c6, rfl, hn6, hc6, hm6, hr6, hg6, _⟩ := ownV_blk ho6.out
     have HS6 := Lib.hid (HS5.out.below hb6.out)
     have hq5 : q < W5.heap.size := HS5.out.ho.lt
     clear HRW ho6 hb6 hbw5 c2 cf2 c3 cf3 c4 cf4 s0 sf0 s1 sf1 b2 bf2 a0 af0 a1 af1 a2 af2 e0 ef0 nz0 nzf0 nz1 nzf1 nz2 nzf2 nz3 nzf3 nz4 nzf4 nz5 nzf5 nz6 nzf6 nz7 nzf7 nz8 nzf8 nz9 nzf9 nz10 nzf10 nz11 nzf11
     have b4 := HS6.out.ho.cell 4
     have bf4 := HS6.out.ho.free 4
     simp only [zG, zH, zI] at b4
     obtain ⟨W7, hW7⟩ : ∃ W, W = (w6.setCell ⟨q, 4, none⟩ (.slice A6 n6 c6)) := ⟨_, rfl⟩
     have HS7 : Hid (Sv w W7 g q #[.int .i64 4, .int .i64 m, .string ynm, .slice Ab nb zb, .slice Aa na za, .int .i64 ck, .string ct, .slice A n c, .int .i64 K, .string cn, .int .i64 cq, .bool cb] (.slice yA yn yc) (.int .i64 (kk : Int)) #[.int .i64 4, .int .i64 0, .string ynm, .slice none 0 0, .slice A6 n6 c6, .int .i64 0, .string ⟨#[]⟩, .slice none 0 0, .int .i64 0, .string ⟨#[]⟩, .int .i64 0, .bool false]) := by rw [hW7]; exact (HS6.out.put 4 (.slice A6 n6 c6))
     replace hW7 := hW7.symm
     have ht7 : Tur [q] w6 W7 := by rw [← hW7]; exact Tur.setCell w6 (p := ⟨q, 4, none⟩) (by simp) _
     obtain ⟨u0, u1, u2, u3, u4, u5, u6, u7, u8, u9, u10, u11, uf0, uf1, uf2, uf3, uf4, uf5, uf6, uf7, uf8, uf9, uf10, uf11⟩ := all12 HS7.out.ho
     obtain ⟨v0, v1, v2, v3, v4, v5, v6, v7, v8, v9, v10, v11, vf0, vf1, vf2, vf3, vf4, vf5, vf6, vf7, vf8, vf9, vf10, vf11⟩ := all12 HS7.out.hr
     go_wp2_with fail
     obtain ⟨HF, ht, hbe⟩ := rx12 HS7.out (.int .i64 4) (.int .i64 0) (.string ynm) (.slice none 0 0) (.slice A6 n6 c6) (.int .i64 0) (.string ⟨#[]⟩) (.slice none 0 0) (.int .i64 0) (.string ⟨#[]⟩) (.int .i64 0) (.bool false)
     refine bodyPost_ret (evEndH HF.out rfl) rfl ?_
     exact ⟨⟨4, 0, ynm, [], rowF yL AA, 0, ⟨#[]⟩, [], 0, ⟨⟨#[]⟩, 0, false⟩⟩, none, 0, 0, A6, n6, c6, none, 0, 0, rfl, evw_row 4 0 ynm [] (rowF yL AA) none 0 0 A6 n6 c6 (nilB _) ⟨hn6.out, hc6, ((hr6.out.tur ht7 (fun a e hh => by have := (hg6.out a e).1; simp at hh; omega)).tur ht (fun a e hh => by have := (hg6.out a e).1; simp at hh; omega)), fun y hy => (rowF_fit yL AA (fun c hc => ⟨(goodS_fit yL kk hgs c hc).2.1, (goodS_fit yL kk hgs c hc).2.2.1⟩) HFF.out.2.1 y hy).1⟩ (by omega) (by unfold maxLen at hm6; omega), hbe, small_a (fun c hc => ⟨(goodS_fit yL kk hgs c hc).2.1, (goodS_fit yL kk hgs c hc).2.2.1⟩) HFF.out.2.1⟩
    ·have g0 : ¬ (0 : Int) < (nt : Int) := by omega
     obtain ⟨W3z, hW3z⟩ : ∃ W, W = w2.alloc (.cells #[.slice none 0 0, .int .i64 0] 27) := ⟨_, rfl⟩
     have hsz2 : w.heap.size + 1 < w2.heap.size := Nat.lt_of_lt_of_le hsz1 hb2.out.size
     have HS3z := Lib.hid (su_new HE1.out HR1.out HB1.out hb2.out hsz2)
     rw [← hW3z] at HS3z
     replace hW3z := hW3z.symm
     obtain ⟨g, hg⟩ : ∃ g, w2.heap.size = g := ⟨_, rfl⟩
     rw [hg] at HS3z hsz2
     clear hb2 HFD HE1 HR1 HB1 u2 hw1
     have zz0 := HS3z.out.hs.cell 0
     have zz1 := HS3z.out.hs.cell 1
     have zzf0 := HS3z.out.hs.free 0
     have zzf1 := HS3z.out.hs.free 1
     simp only [zG, zH, zI] at zz0 zz1
     obtain ⟨W3, hW3⟩ : ∃ W, W = (W3z.setCell ⟨g, 0, none⟩ (.slice none 0 0)).setCell ⟨g, 1, none⟩ (.int .i64 0) := ⟨_, rfl⟩
     have HS3 := Lib.hid (HS3z.out.puts (.slice none 0 0) (.int .i64 0))
     rw [← hW3] at HS3
     replace hW3 := hW3.symm
     obtain ⟨W4z, hW4z⟩ : ∃ W, W = W3.alloc (.cells #[.int .i64 0, .int .i64 0, .string ⟨#[]⟩, .slice none 0 0, .slice none 0 0, .int .i64 0, .string ⟨#[]⟩, .slice none 0 0, .int .i64 0, .string ⟨#[]⟩, .int .i64 0, .bool false] 33) := ⟨_, rfl⟩
     have s4 := HS3.out.out #[.int .i64 0, .int .i64 0, .string ⟨#[]⟩, .slice none 0 0, .slice none 0 0, .int .i64 0, .string ⟨#[]⟩, .slice none 0 0, .int .i64 0, .string ⟨#[]⟩, .int .i64 0, .bool false]
     rw [← hW4z] at s4
     replace hW4z := hW4z.symm
     obtain ⟨q, hq⟩ : ∃ q, W3.heap.size = q := ⟨_, rfl⟩
     rw [hq] at s4
     have HS4z := Lib.hid s4
     obtain ⟨nz0, nz1, nz2, nz3, nz4, nz5, nz6, nz7, nz8, nz9, nz10, nz11, nzf0, nzf1, nzf2, nzf3, nzf4, nzf5, nzf6, nzf7, nzf8, nzf9, nzf10, nzf11⟩ := all12 HS4z.out.ho
     obtain ⟨W4, hW4⟩ : ∃ W, put12 W4z q (.int .i64 4) (.int .i64 0) (.string ⟨#[]⟩) (.slice none 0 0) (.slice none 0 0) (.int .i64 0) (.string ⟨#[]⟩) (.slice none 0 0) (.int .i64 0) (.string ⟨#[]⟩) (.int .i64 0) (.bool false) = W := ⟨_, rfl⟩
     have s4b := s4.put12 (.int .i64 4) (.int .i64 0) (.string ⟨#[]⟩) (.slice none 0 0) (.slice none 0 0) (.int .i64 0) (.string ⟨#[]⟩) (.slice none 0 0) (.int .i64 0) (.string ⟨#[]⟩) (.int .i64 0) (.bool false)
     rw [hW4] at s4b
     have HS4 := Lib.hid s4b
     have hW4' := hW4
     unfold put12 at hW4'
     clear s4 s4b hW4
     have hlo := HS4.out.lo
     have e0 := HS3.out.he.cell 0
     have ef0 := HS3.out.he.free 0
     simp only [zG, zH, zI] at e0
     have a0 := HS4.out.he.cell 0
     have a1 := HS4.out.he.cell 1
     have a2 := HS4.out.he.cell 2
     have af0 := HS4.out.he.free 0
     have af1 := HS4.out.he.free 1
     have af2 := HS4.out.he.free 2
     simp only [zG, zH, zI] at a0 a1 a2
     have b2 := HS4.out.ho.cell 2
     have bf2 := HS4.out.ho.free 2
     simp only [zG, zH, zI] at b2
     obtain ⟨W7, hW7⟩ : ∃ W, W = (W4.setCell ⟨q, 2, none⟩ (.string t)) := ⟨_, rfl⟩
     have HS7 : Hid (Sv w W7 g q #[.int .i64 4, .int .i64 m, .string t, .slice Ab nb zb, .slice Aa na za, .int .i64 ck, .string ct, .slice A n c, .int .i64 K, .string cn, .int .i64 cq, .bool cb] (.slice none 0 0) (.int .i64 0) #[.int .i64 4, .int .i64 0, .string t, .slice none 0 0, .slice none 0 0, .int .i64 0, .string ⟨#[]⟩, .slice none 0 0, .int .i64 0, .string ⟨#[]⟩, .int .i64 0, .bool false]) := by rw [hW7]; exact (HS4.out.put 2 (.string t))
     replace hW7 := hW7.symm
     obtain ⟨u0, u1, u2, u3, u4, u5, u6, u7, u8, u9, u10, u11, uf0, uf1, uf2, uf3, uf4, uf5, uf6, uf7, uf8, uf9, uf10, uf11⟩ := all12 HS7.out.ho
     obtain ⟨v0, v1, v2, v3, v4, v5, v6, v7, v8, v9, v10, v11, vf0, vf1, vf2, vf3, vf4, vf5, vf6, vf7, vf8, vf9, vf10, vf11⟩ := all12 HS7.out.hr
     go_wp2_with fail
     obtain ⟨HF, ht, hbe⟩ := rx12 HS7.out (.int .i64 4) (.int .i64 0) (.string t) (.slice none 0 0) (.slice none 0 0) (.int .i64 0) (.string ⟨#[]⟩) (.slice none 0 0) (.int .i64 0) (.string ⟨#[]⟩) (.int .i64 0) (.bool false)
     refine bodyPost_ret (evEndH HF.out rfl) rfl ?_
     exact ⟨⟨4, 0, t, [], [], 0, ⟨#[]⟩, [], 0, ⟨⟨#[]⟩, 0, false⟩⟩, none, 0, 0, none, 0, 0, none, 0, 0, rfl, evw_row 4 0 t [] [] none 0 0 none 0 0 (nilB _) (nilB _) (by omega) (by omega), hbe, small_no (by omega)⟩
   ·obtain ⟨hl, _⟩ := plF_tat hp
    go_enter Tryz.func7, Tryz.ntmps7
    go_wp2_with fail
    refine HFD.out.mono ?_
    rintro e w2 ⟨rfl, hb2⟩
    rw [tfV_yes hp hl]
    obtain ⟨y, hy⟩ : ∃ y, T[lbN T t] = y := ⟨_, rfl⟩
    have hyT : y ∈ T := hy ▸ List.getElem_mem hl
    rw [hy]
    clear hy
    obtain ⟨kk, hK, hgs⟩ := HGS.out y hyT
    have hok := HTT.out.ok y hyT
    obtain ⟨ynm, yA, yn, yc, yL, yK⟩ := y
    dsimp only at hK hgs hok ⊢
    subst hK
    obtain ⟨W3, hW3⟩ : ∃ W, W = w2.alloc (.cells #[.slice yA yn yc, .int .i64 (kk : Int)] 27) := ⟨_, rfl⟩
    have hsz2 : w.heap.size + 1 < w2.heap.size := Nat.lt_of_lt_of_le hsz1 hb2.out.size
    have HS3 : Hid (Su w W3 w2.heap.size #[.int .i64 4, .int .i64 m, .string t, .slice Ab nb zb, .slice Aa na za, .int .i64 ck, .string ct, .slice A n c, .int .i64 K, .string cn, .int .i64 cq, .bool cb] (.slice yA yn yc) (.int .i64 (kk : Int))) := by
     rw [hW3]
     exact ⟨(HE1.out.below hb2.out HE1.out.lt).alloc _, (HR1.out.below hb2.out HR1.out.lt).alloc _, Has.new _ _ _, (HB1.out.trans (hb2.out.mono HB1.out.size)).alloc (HB1.out.trans (hb2.out.mono HB1.out.size)).size _, hsz2⟩
    replace hW3 := hW3.symm
    obtain ⟨g, hg⟩ : ∃ g, w2.heap.size = g := ⟨_, rfl⟩
    rw [hg] at HS3 hsz2
    clear hb2 HFD HE1 HR1 HB1 u2 hw1
    obtain ⟨W4z, hW4z⟩ : ∃ W, W = W3.alloc (.cells #[.int .i64 0, .int .i64 0, .string ⟨#[]⟩, .slice none 0 0, .slice none 0 0, .int .i64 0, .string ⟨#[]⟩, .slice none 0 0, .int .i64 0, .string ⟨#[]⟩, .int .i64 0, .bool false] 33) := ⟨_, rfl⟩
    have s4 := HS3.out.out #[.int .i64 0, .int .i64 0, .string ⟨#[]⟩, .slice none 0 0, .slice none 0 0, .int .i64 0, .string ⟨#[]⟩, .slice none 0 0, .int .i64 0, .string ⟨#[]⟩, .int .i64 0, .bool false]
    rw [← hW4z] at s4
    replace hW4z := hW4z.symm
    obtain ⟨q, hq⟩ : ∃ q, W3.heap.size = q := ⟨_, rfl⟩
    rw [hq] at s4
    have HS4z := Lib.hid s4
    obtain ⟨nz0, nz1, nz2, nz3, nz4, nz5, nz6, nz7, nz8, nz9, nz10, nz11, nzf0, nzf1, nzf2, nzf3, nzf4, nzf5, nzf6, nzf7, nzf8, nzf9, nzf10, nzf11⟩ := all12 HS4z.out.ho
    obtain ⟨W4, hW4⟩ : ∃ W, put12 W4z q (.int .i64 4) (.int .i64 0) (.string ⟨#[]⟩) (.slice none 0 0) (.slice none 0 0) (.int .i64 0) (.string ⟨#[]⟩) (.slice none 0 0) (.int .i64 0) (.string ⟨#[]⟩) (.int .i64 0) (.bool false) = W := ⟨_, rfl⟩
    have s4b := s4.put12 (.int .i64 4) (.int .i64 0) (.string ⟨#[]⟩) (.slice none 0 0) (.slice none 0 0) (.int .i64 0) (.string ⟨#[]⟩) (.slice none 0 0) (.int .i64 0) (.string ⟨#[]⟩) (.int .i64 0) (.bool false)
    rw [hW4] at s4b
    have HS4 := Lib.hid s4b
    have hW4' := hW4
    unfold put12 at hW4'
    clear s4 s4b hW4
    have hlo := HS4.out.lo
    have e0 := HS3.out.he.cell 0
    have ef0 := HS3.out.he.free 0
    simp only [zG, zH, zI] at e0
    have a0 := HS4.out.he.cell 0
    have a1 := HS4.out.he.cell 1
    have a2 := HS4.out.he.cell 2
    have af0 := HS4.out.he.free 0
    have af1 := HS4.out.he.free 1
    have af2 := HS4.out.he.free 2
    simp only [zG, zH, zI] at a0 a1 a2
    have b2 := HS4.out.ho.cell 2
    have bf2 := HS4.out.ho.free 2
    simp only [zG, zH, zI] at b2
    obtain ⟨W5, hW5⟩ : ∃ W, W = (W4.setCell ⟨q, 2, none⟩ (.string t)) := ⟨_, rfl⟩
    have HS5 : Hid (Sv w W5 g q #[.int .i64 4, .int .i64 m, .string t, .slice Ab nb zb, .slice Aa na za, .int .i64 ck, .string ct, .slice A n c, .int .i64 K, .string cn, .int .i64 cq, .bool cb] (.slice yA yn yc) (.int .i64 (kk : Int)) #[.int .i64 4, .int .i64 0, .string t, .slice none 0 0, .slice none 0 0, .int .i64 0, .string ⟨#[]⟩, .slice none 0 0, .int .i64 0, .string ⟨#[]⟩, .int .i64 0, .bool false]) := by rw [hW5]; exact (HS4.out.put 2 (.string t))
    replace hW5 := hW5.symm
    have c2 := HS5.out.he.cell 2
    have c3 := HS5.out.he.cell 3
    have c4 := HS5.out.he.cell 4
    have cf2 := HS5.out.he.free 2
    have cf3 := HS5.out.he.free 3
    have cf4 := HS5.out.he.free 4
    simp only [zG, zH, zI] at c2 c3 c4
    have s0 := HS5.out.hs.cell 0
    have s1 := HS5.out.hs.cell 1
    have sf0 := HS5.out.hs.free 0
    have sf1 := HS5.out.hs.free 1
    simp only [zG, zH, zI] at s0 s1
    have hbw5 := HS5.out.bel
    have HRW := Lib.hid (row_any yA yL yn yc (kk : Int) Aa AA na za W5 hok.len hok.few (hok.row.below hbw5) (fun y hy => (goodS_fit yL kk hgs y hy).2.2.2) HW.out.a.1 HW.out.a.2.1 HFF.out.2.2.2 (HW.out.a.2.2.1.below hbw5) HFF.out.2.1)
    go_wp2_with fail
    refine HRW.out.mono ?_
    rintro e w6 ⟨v6, rfl, ho6, hb6⟩
    obtain ⟨A6, n6, c6, rfl, hn6, hc6, hm6, hr6, hg6, _⟩ := ownV_blk ho6.out
    have HS6 := Lib.hid (HS5.out.below hb6.out)
    have hq5 : q < W5.heap.size := HS5.out.ho.lt
    clear HRW ho6 hb6 hbw5 c2 cf2 c3 cf3 c4 cf4 s0 sf0 s1 sf1 b2 bf2 a0 af0 a1 af1 a2 af2 e0 ef0 nz0 nzf0 nz1 nzf1 nz2 nzf2 nz3 nzf3 nz4 nzf4 nz5 nzf5 nz6 nzf6 nz7 nzf7 nz8 nzf8 nz9 nzf9 nz10 nzf10 nz11 nzf11
    have b4 := HS6.out.ho.cell 4
    have bf4 := HS6.out.ho.free 4
    simp only [zG, zH, zI] at b4
    obtain ⟨W7, hW7⟩ : ∃ W, W = (w6.setCell ⟨q, 4, none⟩ (.slice A6 n6 c6)) := ⟨_, rfl⟩
    have HS7 : Hid (Sv w W7 g q #[.int .i64 4, .int .i64 m, .string t, .slice Ab nb zb, .slice Aa na za, .int .i64 ck, .string ct, .slice A n c, .int .i64 K, .string cn, .int .i64 cq, .bool cb] (.slice yA yn yc) (.int .i64 (kk : Int)) #[.int .i64 4, .int .i64 0, .string t, .slice none 0 0, .slice A6 n6 c6, .int .i64 0, .string ⟨#[]⟩, .slice none 0 0, .int .i64 0, .string ⟨#[]⟩, .int .i64 0, .bool false]) := by rw [hW7]; exact (HS6.out.put 4 (.slice A6 n6 c6))
    replace hW7 := hW7.symm
    have ht7 : Tur [q] w6 W7 := by rw [← hW7]; exact Tur.setCell w6 (p := ⟨q, 4, none⟩) (by simp) _
    obtain ⟨u0, u1, u2, u3, u4, u5, u6, u7, u8, u9, u10, u11, uf0, uf1, uf2, uf3, uf4, uf5, uf6, uf7, uf8, uf9, uf10, uf11⟩ := all12 HS7.out.ho
    obtain ⟨v0, v1, v2, v3, v4, v5, v6, v7, v8, v9, v10, v11, vf0, vf1, vf2, vf3, vf4, vf5, vf6, vf7, vf8, vf9, vf10, vf11⟩ := all12 HS7.out.hr
    go_wp2_with fail
    obtain ⟨HF, ht, hbe⟩ := rx12 HS7.out (.int .i64 4) (.int .i64 0) (.string t) (.slice none 0 0) (.slice A6 n6 c6) (.int .i64 0) (.string ⟨#[]⟩) (.slice none 0 0) (.int .i64 0) (.string ⟨#[]⟩) (.int .i64 0) (.bool false)
    refine bodyPost_ret (evEndH HF.out rfl) rfl ?_
    exact ⟨⟨4, 0, t, [], rowF yL AA, 0, ⟨#[]⟩, [], 0, ⟨⟨#[]⟩, 0, false⟩⟩, none, 0, 0, A6, n6, c6, none, 0, 0, rfl, evw_row 4 0 t [] (rowF yL AA) none 0 0 A6 n6 c6 (nilB _) ⟨hn6.out, hc6, ((hr6.out.tur ht7 (fun a e hh => by have := (hg6.out a e).1; simp at hh; omega)).tur ht (fun a e hh => by have := (hg6.out a e).1; simp at hh; omega)), fun y hy => (rowF_fit yL AA (fun c hc => ⟨(goodS_fit yL kk hgs c hc).2.1, (goodS_fit yL kk hgs c hc).2.2.1⟩) HFF.out.2.1 y hy).1⟩ (by omega) (by unfold maxLen at hm6; omega), hbe, small_a (fun c hc => ⟨(goodS_fit yL kk hgs c hc).2.1, (goodS_fit yL kk hgs c hc).2.2.1⟩) HFF.out.2.1⟩
  ·cases hp : plF T t
   ·go_enter Tryz.func7, Tryz.ntmps7
    go_wp2_with fail
    refine HFD.out.mono ?_
    rintro e w2 ⟨rfl, hb2⟩
    rw [tfV_no HTT.out.sort hp]
    by_cases hnt : 0 < nt
    ·have g0 : (0 : Int) < (nt : Int) := by omega
     have h0T : 0 < T.length := by rw [HTT.out.len]; omega
     obtain ⟨bt, ot, rfl, hct⟩ := HTT.out.row (by intro e; rw [e] at h0T; simp at h0T)
     have hct0 := hct 0 h0T
     obtain ⟨y, hy⟩ : ∃ y, T[0] = y := ⟨_, rfl⟩
     have hyT : y ∈ T := hy ▸ List.getElem_mem h0T
     rw [hy] at hct0
     clear hct hy
     obtain ⟨kk, hK, hgs⟩ := HGS.out y hyT
     have hok := HTT.out.ok y hyT
     obtain ⟨ynm, yA, yn, yc, yL, yK⟩ := y
     dsimp only at hK hgs hok hct0
     subst hK
     simp only [Nat.zero_mul, Nat.add_zero] at hct0
     obtain ⟨p0, p1, p2⟩ := hct0
     obtain ⟨W3z, hW3z⟩ : ∃ W, W = w2.alloc (.cells #[.slice none 0 0, .int .i64 0] 27) := ⟨_, rfl⟩
     have hsz2 : w.heap.size + 1 < w2.heap.size := Nat.lt_of_lt_of_le hsz1 hb2.out.size
     have HS3z := Lib.hid (su_new HE1.out HR1.out HB1.out hb2.out hsz2)
     rw [← hW3z] at HS3z
     replace hW3z := hW3z.symm
     obtain ⟨g, hg⟩ : ∃ g, w2.heap.size = g := ⟨_, rfl⟩
     rw [hg] at HS3z hsz2
     clear hb2 HFD HE1 HR1 HB1 u2 hw1
     have zz0 := HS3z.out.hs.cell 0
     have zz1 := HS3z.out.hs.cell 1
     have zzf0 := HS3z.out.hs.free 0
     have zzf1 := HS3z.out.hs.free 1
     simp only [zG, zH, zI] at zz0 zz1
     obtain ⟨W3, hW3⟩ : ∃ W, W = (W3z.setCell ⟨g, 0, none⟩ (.slice none 0 0)).setCell ⟨g, 1, none⟩ (.int .i64 0) := ⟨_, rfl⟩
     have HS3 := Lib.hid (HS3z.out.puts (.slice none 0 0) (.int .i64 0))
     rw [← hW3] at HS3
     replace hW3 := hW3.symm
     have hb3w := HS3.out.bel
     have x0 : W3.cell? ⟨bt, ot, none⟩ = some (.string ynm) := keepW3 hb3w p0
     obtain ⟨W3a, hW3a⟩ : ∃ W, W = W3.setCell ⟨w.heap.size, 2, none⟩ (.string ynm) := ⟨_, rfl⟩
     have HS3a : Hid (Su w W3a g #[.int .i64 5, .int .i64 m, .string ynm, .slice Ab nb zb, .slice Aa na za, .int .i64 ck, .string ct, .slice A n c, .int .i64 K, .string cn, .int .i64 cq, .bool cb] (.slice none 0 0) (.int .i64 0)) := by rw [hW3a]; exact HS3.out.pute 2 _
     replace hW3a := hW3a.symm
     have x1 : W3a.cell? ⟨bt, ot + 1, none⟩ = some (.slice yA yn yc) := keepW3 HS3a.out.bel p1
     have x2 : W3a.cell? ⟨bt, ot + 1 + 1, none⟩ = some (.int .i64 (kk : Int)) := keepW3 HS3a.out.bel p2
     have x2b : W3a.cell? ⟨bt, ot + 2, none⟩ = some (.int .i64 (kk : Int)) := keepW3 HS3a.out.bel p2
     obtain ⟨W3b, hW3b⟩ : ∃ W, W = (W3a.setCell ⟨g, 0, none⟩ (.slice yA yn yc)).setCell ⟨g, 1, none⟩ (.int .i64 (kk : Int)) := ⟨_, rfl⟩
     have HS3b : Hid (Su w W3b g #[.int .i64 5, .int .i64 m, .string ynm, .slice Ab nb zb, .slice Aa na za, .int .i64 ck, .string ct, .slice A n c, .int .i64 K, .string cn, .int .i64 cq, .bool cb] (.slice yA yn yc) (.int .i64 (kk : Int))) := by rw [hW3b]; exact HS3a.out.puts _ _
     replace hW3b := hW3b.symm
     have x_e0 := HS3.out.he.cell 0
     have x_e2 := HS3.out.he.cell 2
     have x_ef0 := HS3.out.he.free 0
     have x_ef2 := HS3.out.he.free 2
     simp only [zG, zH, zI] at x_e0 x_e2
     have x_s0 := HS3a.out.hs.cell 0
     have x_s1 := HS3a.out.hs.cell 1
     have x_sf0 := HS3a.out.hs.free 0
     have x_sf1 := HS3a.out.hs.free 1
     simp only [zG, zH, zI] at x_s0 x_s1
     obtain ⟨W4z, hW4z⟩ : ∃ W, W = W3b.alloc (.cells #[.int .i64 0, .int .i64 0, .string ⟨#[]⟩, .slice none 0 0, .slice none 0 0, .int .i64 0, .string ⟨#[]⟩, .slice none 0 0, .int .i64 0, .string ⟨#[]⟩, .int .i64 0, .bool false] 33) := ⟨_, rfl⟩
     have s4 := HS3b.out.out #[.int .i64 0, .int .i64 0, .string ⟨#[]⟩, .slice none 0 0, .slice none 0 0, .int .i64 0, .string ⟨#[]⟩, .slice none 0 0, .int .i64 0, .string ⟨#[]⟩, .int .i64 0, .bool false]
     rw [← hW4z] at s4
     replace hW4z := hW4z.symm
     obtain ⟨q, hq⟩ : ∃ q, W3b.heap.size = q := ⟨_, rfl⟩
     rw [hq] at s4
     have HS4z := Lib.hid s4
     obtain ⟨nz0, nz1, nz2, nz3, nz4, nz5, nz6, nz7, nz8, nz9, nz10, nz11, nzf0, nzf1, nzf2, nzf3, nzf4, nzf5, nzf6, nzf7, nzf8, nzf9, nzf10, nzf11⟩ := all12 HS4z.out.ho
     obtain ⟨W4, hW4⟩ : ∃ W, put12 W4z q (.int .i64 5) (.int .i64 0) (.string ⟨#[]⟩) (.slice none 0 0) (.slice none 0 0) (.int .i64 0) (.string ⟨#[]⟩) (.slice none 0 0) (.int .i64 0) (.string ⟨#[]⟩) (.int .i64 0) (.bool false) = W := ⟨_, rfl⟩
     have s4b := s4.put12 (.int .i64 5) (.int .i64 0) (.string ⟨#[]⟩) (.slice none 0 0) (.slice none 0 0) (.int .i64 0) (.string ⟨#[]⟩) (.slice none 0 0) (.int .i64 0) (.string ⟨#[]⟩) (.int .i64 0) (.bool false)
     rw [hW4] at s4b
     have HS4 := Lib.hid s4b
     have hW4' := hW4
     unfold put12 at hW4'
     clear s4 s4b hW4
     have hlo := HS4.out.lo
     have e0 := HS3b.out.he.cell 0
     have ef0 := HS3b.out.he.free 0
     simp only [zG, zH, zI] at e0
     have a0 := HS4.out.he.cell 0
     have a1 := HS4.out.he.cell 1
     have a2 := HS4.out.he.cell 2
     have af0 := HS4.out.he.free 0
     have af1 := HS4.out.he.free 1
     have af2 := HS4.out.he.free 2
     simp only [zG, zH, zI] at a0 a1 a2
     have b2 := HS4.out.ho.cell 2
     have bf2 := HS4.out.ho.free 2
     simp only [zG, zH, zI] at b2
     obtain ⟨W5, hW5⟩ : ∃ W, W = (W4.setCell ⟨q, 2, none⟩ (.string ynm)) := ⟨_, rfl⟩
     have HS5 : Hid (Sv w W5 g q #[.int .i64 5, .int .i64 m, .string ynm, .slice Ab nb zb, .slice Aa na za, .int .i64 ck, .string ct, .slice A n c, .int .i64 K, .string cn, .int .i64 cq, .bool cb] (.slice yA yn yc) (.int .i64 (kk : Int)) #[.int .i64 5, .int .i64 0, .string ynm, .slice none 0 0, .slice none 0 0, .int .i64 0, .string ⟨#[]⟩, .slice none 0 0, .int .i64 0, .string ⟨#[]⟩, .int .i64 0, .bool false]) := by rw [hW5]; exact (HS4.out.put 2 (.string ynm))
     replace hW5 := hW5.symm
     have c2 := HS5.out.he.cell 2
     have c3 := HS5.out.he.cell 3
     have c4 := HS5.out.he.cell 4
     have cf2 := HS5.out.he.free 2
     have cf3 := HS5.out.he.free 3
     have cf4 := HS5.out.he.free 4
     simp only [zG, zH, zI] at c2 c3 c4
     have s0 := HS5.out.hs.cell 0
     have s1 := HS5.out.hs.cell 1
     have sf0 := HS5.out.hs.free 0
     have sf1 := HS5.out.hs.free 1
     simp only [zG, zH, zI] at s0 s1
     have hbw5 := HS5.out.bel
     have HRW := Lib.hid (row_any yA yL yn yc (kk : Int) Ab B nb zb W5.drew hok.len hok.few (hok.row.below (show Below w.heap.size w W5.drew from hbw5.drew)) (fun y hy => (goodS_fit yL kk hgs y hy).2.2.2) HW.out.b.1 HW.out.b.2.1 HFF.out.2.2.1 (HW.out.b.2.2.1.below (show Below w.heap.size w W5.drew from hbw5.drew)) HFF.out.1)
     have hq5 : q < W5.heap.size := HS5.out.ho.lt
     go_wp2_with fail
     refine wp_region_held_drew (S := (fun X : World => X.cell? ⟨w.heap.size, 3, none⟩ = some (.slice Ab nb zb) ∧ X.cell? ⟨g, 0, none⟩ = some (.slice yA yn yc) ∧ X.cell? ⟨g, 1, none⟩ = some (.int .i64 (kk : Int)))) (by kernel_rfl) ⟨c3, s0, s1⟩ (fun _ => ?_)
     (refine wpAnyH_take (i := 0) (v := ?_) rfl (by kernel_rfl) (by kernel_rfl) (by kernel_rfl) (fun _ _ _ h => h) (Or.inl ⟨by rfl, ?_⟩) (by assumption) ?_; rotate_left; (intro w hSw; (try dsimp only at hSw); go_simp; try with_reducible rfl); ((try simp only [zA, zB, zC, Act.put, zD, zE, zF])))
     (refine wpAnyH_take (i := 1) (v := ?_) rfl (by kernel_rfl) (by kernel_rfl) (by kernel_rfl) (fun _ _ _ h => h) (Or.inl ⟨by rfl, ?_⟩) (by assumption) ?_; rotate_left; (intro w hSw; (try dsimp only at hSw); go_simp; try with_reducible rfl); ((try simp only [zA, zB, zC, Act.put, zD, zE, zF])))
     (refine wpAnyH_take (i := 2) (v := ?_) rfl (by kernel_rfl) (by kernel_rfl) (by kernel_rfl) (fun _ _ _ h => h) (Or.inl ⟨by rfl, ?_⟩) (by assumption) ?_; rotate_left; (intro w hSw; (try dsimp only at hSw); go_simp; try with_reducible rfl); ((try simp only [zA, zB, zC, Act.put, zD, zE, zF])))
     (refine wpAnyH_take (i := 4) (v := ?_) rfl (by kernel_rfl) (by kernel_rfl) (by kernel_rfl) (fun _ _ _ h => h) (Or.inl ⟨by rfl, ?_⟩) (by assumption) ?_; rotate_left; (intro w hSw; (try dsimp only at hSw); go_simp; try with_reducible rfl); ((try simp only [zA, zB, zC, Act.put, zD, zE, zF])))
     (refine wpAnyH_take (i := 5) (v := ?_) rfl (by kernel_rfl) (by kernel_rfl) (by kernel_rfl) (fun _ _ _ h => h) (Or.inl ⟨by rfl, ?_⟩) (by assumption) ?_; rotate_left; (intro w hSw; (try dsimp only at hSw); go_simp; try with_reducible rfl); ((try simp only [zA, zB, zC, Act.put, zD, zE, zF])))
     refine wpAnyH_ready (rs := [3]) (by kernel_rfl) (by simp) ?_
     refine AllReadyH.cons rfl (fun K2 hK2 => ?_) AllReadyH.nil
     go_simp
     refine (HRW.out).mono ?_
     rintro e w6 ⟨v6, rfl, ho6, hb6⟩
     obtain ⟨A6, n6, c6, rfl, hn6, hc6, hm6, hr6, hg6, hA6⟩ := ownV_blk ho6.out
     have HS6 := Lib.hid ((show Sv w W5.drew g q _ _ _ _ from ⟨HS5.out.he, HS5.out.hr, HS5.out.hs, HS5.out.ho, HS5.out.bel.drew, HS5.out.lo⟩ : Sv w W5.drew g q #[.int .i64 5, .int .i64 m, .string ynm, .slice Ab nb zb, .slice Aa na za, .int .i64 ck, .string ct, .slice A n c, .int .i64 K, .string cn, .int .i64 cq, .bool cb] (.slice yA yn yc) (.int .i64 (kk : Int)) #[.int .i64 5, .int .i64 0, .string ynm, .slice none 0 0, .slice none 0 0, .int .i64 0, .string ⟨#[]⟩, .slice none 0 0, .int .i64 0, .string ⟨#[]⟩, .int .i64 0, .bool false]).below hb6.out)
     go_wp2_with fail
     refine hK2.out _ _ (by (try dsimp only); exact ⟨HS6.out.he.cell 3, HS6.out.hs.cell 0, HS6.out.hs.cell 1⟩) (fun _ => ?_)
     clear hK2 K2
     (try simp only [zA, zB, zC, Act.put, zD, zE, zF])
     have hkl : kk ≤ n6 := by have h1 := hgs.keys.2.1; have h2 := hn6.out; rw [rowF_len] at h2; omega
     have hk1 : 1 ≤ kk := hgs.keys.1
     unfold maxLen at hm6
     have hkc : (kk : Int) ≤ (c6 : Int) := by omega
     have hk0 : (0 : Int) ≤ (kk : Int) := by omega
     rcases hA6.out with rfl | ⟨bb6, oo6, rfl⟩
     ·exact absurd (hr6.out (by intro e; have := hn6.out; rw [e] at this; simp at this; omega)) (fun ⟨_, _, e, _⟩ => by cases e)
     ·refine wpAnyH_ready (rs := [6]) (by kernel_rfl) (by simp) ?_
      refine AllReadyH.cons rfl (fun K2 hK2 => ?_) (AllReadyH.nil)
      go_simp
      refine hK2.out _ _ (by (try dsimp only); exact ⟨HS6.out.he.cell 3, HS6.out.hs.cell 0, HS6.out.hs.cell 1⟩) (fun _ => ?_)
      clear hK2 K2
      (try simp only [zA, zB, zC, Act.put, zD, zE, zF])
      (refine wpAnyH_take (i := 7) (v := ?_) rfl (by kernel_rfl) (by kernel_rfl) (by kernel_rfl) (fun _ _ _ h => h) (Or.inl ⟨by rfl, ?_⟩) (by assumption) ?_; rotate_left; (intro w hSw; (try dsimp only at hSw); go_simp; try with_reducible rfl); ((try simp only [zA, zB, zC, Act.put, zD, zE, zF])))
      have b3 := HS6.out.ho.cell 3
      have bf3 := HS6.out.ho.free 3
      simp only [zG, zH, zI] at b3
      obtain ⟨W7, hW7⟩ : ∃ W, W = (w6.setCell ⟨q, 3, none⟩ (.slice (some ⟨bb6, oo6, none⟩) kk c6)) := ⟨_, rfl⟩
      have HS7 : Hid (Sv w W7 g q #[.int .i64 5, .int .i64 m, .string ynm, .slice Ab nb zb, .slice Aa na za, .int .i64 ck, .string ct, .slice A n c, .int .i64 K, .string cn, .int .i64 cq, .bool cb] (.slice yA yn yc) (.int .i64 (kk : Int)) #[.int .i64 5, .int .i64 0, .string ynm, .slice (some ⟨bb6, oo6, none⟩) kk c6, .slice none 0 0, .int .i64 0, .string ⟨#[]⟩, .slice none 0 0, .int .i64 0, .string ⟨#[]⟩, .int .i64 0, .bool false]) := by rw [hW7]; exact (HS6.out.put 3 (.slice (some ⟨bb6, oo6, none⟩) kk c6))
      replace hW7 := hW7.symm
      have ht7 : Tur [q] w6 W7 := by rw [← hW7]; exact Tur.setCell w6 (p := ⟨q, 3, none⟩) (by simp) _
      refine wpAnyH_ready (rs := [8]) (by kernel_rfl) (by simp) ?_
      refine AllReadyH.cons rfl (fun K2 hK2 => ?_) (AllReadyH.nil)
      go_simp
      refine hK2.out _ _ (by (try dsimp only); exact ⟨HS7.out.he.cell 3, HS7.out.hs.cell 0, HS7.out.hs.cell 1⟩) (fun _ => ?_)
      clear hK2 K2
      (try simp only [zA, zB, zC, Act.put, zD, zE, zF])
      refine wpAnyH_done (by kernel_rfl) ?_ _
      clear HRW ho6 hb6 hbw5 c2 cf2 c3 cf3 c4 cf4 s0 sf0 s1 sf1 b2 bf2 b3 bf3 a0 af0 a1 af1 a2 af2 e0 ef0 nz0 nzf0 nz1 nzf1 nz2 nzf2 nz3 nzf3 nz4 nzf4 nz5 nzf5 nz6 nzf6 nz7 nzf7 nz8 nzf8 nz9 nzf9 nz10 nzf10 nz11 nzf11
      obtain ⟨u0, u1, u2, u3, u4, u5, u6, u7, u8, u9, u10, u11, uf0, uf1, uf2, uf3, uf4, uf5, uf6, uf7, uf8, uf9, uf10, uf11⟩ := all12 HS7.out.ho
      obtain ⟨v0, v1, v2, v3, v4, v5, v6, v7, v8, v9, v10, v11, vf0, vf1, vf2, vf3, vf4, vf5, vf6, vf7, vf8, vf9, vf10, vf11⟩ := all12 HS7.out.hr
      go_wp2_with fail
      obtain ⟨HF, ht, hbe⟩ := rx12 HS7.out (.int .i64 5) (.int .i64 0) (.string ynm) (.slice (some ⟨bb6, oo6, none⟩) kk c6) (.slice none 0 0) (.int .i64 0) (.string ⟨#[]⟩) (.slice none 0 0) (.int .i64 0) (.string ⟨#[]⟩) (.int .i64 0) (.bool false)
      refine bodyPost_ret (evEndH HF.out rfl) rfl ?_
      exact ⟨⟨5, 0, ynm, (rowF yL B).take kk, [], 0, ⟨#[]⟩, [], 0, ⟨⟨#[]⟩, 0, false⟩⟩, some ⟨bb6, oo6, none⟩, kk, c6, none, 0, 0, none, 0, 0, rfl, evw_row 5 0 ynm ((rowF yL B).take kk) [] (some ⟨bb6, oo6, none⟩) kk c6 none 0 0 ⟨by rw [List.length_take, hn6.out]; omega, by omega, ((hr6.out.takeK kk |>.tur ht7 (fun a e hh => by have := (hg6.out a e).1; simp at hh; have h5 : W5.drew.heap.size = W5.heap.size := rfl; omega)).tur ht (fun a e hh => by have := (hg6.out a e).1; simp at hh; have h5 : W5.drew.heap.size = W5.heap.size := rfl; omega)), fun y hy => (rowF_fit yL B (fun c hc => ⟨(goodS_fit yL kk hgs c hc).2.1, (goodS_fit yL kk hgs c hc).2.2.1⟩) HFF.out.1 y (List.mem_of_mem_take hy)).1⟩ (nilB _) (by omega) (by omega), hbe, small_b kk (fun c hc => ⟨(goodS_fit yL kk hgs c hc).2.1, (goodS_fit yL kk hgs c hc).2.2.1⟩) HFF.out.1⟩
    ·have g0 : ¬ (0 : Int) < (nt : Int) := by omega
     obtain ⟨W3z, hW3z⟩ : ∃ W, W = w2.alloc (.cells #[.slice none 0 0, .int .i64 0] 27) := ⟨_, rfl⟩
     have hsz2 : w.heap.size + 1 < w2.heap.size := Nat.lt_of_lt_of_le hsz1 hb2.out.size
     have HS3z := Lib.hid (su_new HE1.out HR1.out HB1.out hb2.out hsz2)
     rw [← hW3z] at HS3z
     replace hW3z := hW3z.symm
     obtain ⟨g, hg⟩ : ∃ g, w2.heap.size = g := ⟨_, rfl⟩
     rw [hg] at HS3z hsz2
     clear hb2 HFD HE1 HR1 HB1 u2 hw1
     have zz0 := HS3z.out.hs.cell 0
     have zz1 := HS3z.out.hs.cell 1
     have zzf0 := HS3z.out.hs.free 0
     have zzf1 := HS3z.out.hs.free 1
     simp only [zG, zH, zI] at zz0 zz1
     obtain ⟨W3, hW3⟩ : ∃ W, W = (W3z.setCell ⟨g, 0, none⟩ (.slice none 0 0)).setCell ⟨g, 1, none⟩ (.int .i64 0) := ⟨_, rfl⟩
     have HS3 := Lib.hid (HS3z.out.puts (.slice none 0 0) (.int .i64 0))
     rw [← hW3] at HS3
     replace hW3 := hW3.symm
     obtain ⟨W4z, hW4z⟩ : ∃ W, W = W3.alloc (.cells #[.int .i64 0, .int .i64 0, .string ⟨#[]⟩, .slice none 0 0, .slice none 0 0, .int .i64 0, .string ⟨#[]⟩, .slice none 0 0, .int .i64 0, .string ⟨#[]⟩, .int .i64 0, .bool false] 33) := ⟨_, rfl⟩
     have s4 := HS3.out.out #[.int .i64 0, .int .i64 0, .string ⟨#[]⟩, .slice none 0 0, .slice none 0 0, .int .i64 0, .string ⟨#[]⟩, .slice none 0 0, .int .i64 0, .string ⟨#[]⟩, .int .i64 0, .bool false]
     rw [← hW4z] at s4
     replace hW4z := hW4z.symm
     obtain ⟨q, hq⟩ : ∃ q, W3.heap.size = q := ⟨_, rfl⟩
     rw [hq] at s4
     have HS4z := Lib.hid s4
     obtain ⟨nz0, nz1, nz2, nz3, nz4, nz5, nz6, nz7, nz8, nz9, nz10, nz11, nzf0, nzf1, nzf2, nzf3, nzf4, nzf5, nzf6, nzf7, nzf8, nzf9, nzf10, nzf11⟩ := all12 HS4z.out.ho
     obtain ⟨W4, hW4⟩ : ∃ W, put12 W4z q (.int .i64 5) (.int .i64 0) (.string ⟨#[]⟩) (.slice none 0 0) (.slice none 0 0) (.int .i64 0) (.string ⟨#[]⟩) (.slice none 0 0) (.int .i64 0) (.string ⟨#[]⟩) (.int .i64 0) (.bool false) = W := ⟨_, rfl⟩
     have s4b := s4.put12 (.int .i64 5) (.int .i64 0) (.string ⟨#[]⟩) (.slice none 0 0) (.slice none 0 0) (.int .i64 0) (.string ⟨#[]⟩) (.slice none 0 0) (.int .i64 0) (.string ⟨#[]⟩) (.int .i64 0) (.bool false)
     rw [hW4] at s4b
     have HS4 := Lib.hid s4b
     have hW4' := hW4
     unfold put12 at hW4'
     clear s4 s4b hW4
     have hlo := HS4.out.lo
     have e0 := HS3.out.he.cell 0
     have ef0 := HS3.out.he.free 0
     simp only [zG, zH, zI] at e0
     have a0 := HS4.out.he.cell 0
     have a1 := HS4.out.he.cell 1
     have a2 := HS4.out.he.cell 2
     have af0 := HS4.out.he.free 0
     have af1 := HS4.out.he.free 1
     have af2 := HS4.out.he.free 2
     simp only [zG, zH, zI] at a0 a1 a2
     have b2 := HS4.out.ho.cell 2
     have bf2 := HS4.out.ho.free 2
     simp only [zG, zH, zI] at b2
     obtain ⟨W7, hW7⟩ : ∃ W, W = (W4.setCell ⟨q, 2, none⟩ (.string t)) := ⟨_, rfl⟩
     have HS7 : Hid (Sv w W7 g q #[.int .i64 5, .int .i64 m, .string t, .slice Ab nb zb, .slice Aa na za, .int .i64 ck, .string ct, .slice A n c, .int .i64 K, .string cn, .int .i64 cq, .bool cb] (.slice none 0 0) (.int .i64 0) #[.int .i64 5, .int .i64 0, .string t, .slice none 0 0, .slice none 0 0, .int .i64 0, .string ⟨#[]⟩, .slice none 0 0, .int .i64 0, .string ⟨#[]⟩, .int .i64 0, .bool false]) := by rw [hW7]; exact (HS4.out.put 2 (.string t))
     replace hW7 := hW7.symm
     obtain ⟨u0, u1, u2, u3, u4, u5, u6, u7, u8, u9, u10, u11, uf0, uf1, uf2, uf3, uf4, uf5, uf6, uf7, uf8, uf9, uf10, uf11⟩ := all12 HS7.out.ho
     obtain ⟨v0, v1, v2, v3, v4, v5, v6, v7, v8, v9, v10, v11, vf0, vf1, vf2, vf3, vf4, vf5, vf6, vf7, vf8, vf9, vf10, vf11⟩ := all12 HS7.out.hr
     go_wp2_with fail
     obtain ⟨HF, ht, hbe⟩ := rx12 HS7.out (.int .i64 5) (.int .i64 0) (.string t) (.slice none 0 0) (.slice none 0 0) (.int .i64 0) (.string ⟨#[]⟩) (.slice none 0 0) (.int .i64 0) (.string ⟨#[]⟩) (.int .i64 0) (.bool false)
     refine bodyPost_ret (evEndH HF.out rfl) rfl ?_
     exact ⟨⟨5, 0, t, [], [], 0, ⟨#[]⟩, [], 0, ⟨⟨#[]⟩, 0, false⟩⟩, none, 0, 0, none, 0, 0, none, 0, 0, rfl, evw_row 5 0 t [] [] none 0 0 none 0 0 (nilB _) (nilB _) (by omega) (by omega), hbe, small_no (by omega)⟩
   ·obtain ⟨hl, _⟩ := plF_tat hp
    go_enter Tryz.func7, Tryz.ntmps7
    go_wp2_with fail
    refine HFD.out.mono ?_
    rintro e w2 ⟨rfl, hb2⟩
    rw [tfV_yes hp hl]
    obtain ⟨y, hy⟩ : ∃ y, T[lbN T t] = y := ⟨_, rfl⟩
    have hyT : y ∈ T := hy ▸ List.getElem_mem hl
    rw [hy]
    clear hy
    obtain ⟨kk, hK, hgs⟩ := HGS.out y hyT
    have hok := HTT.out.ok y hyT
    obtain ⟨ynm, yA, yn, yc, yL, yK⟩ := y
    dsimp only at hK hgs hok ⊢
    subst hK
    obtain ⟨W3, hW3⟩ : ∃ W, W = w2.alloc (.cells #[.slice yA yn yc, .int .i64 (kk : Int)] 27) := ⟨_, rfl⟩
    have hsz2 : w.heap.size + 1 < w2.heap.size := Nat.lt_of_lt_of_le hsz1 hb2.out.size
    have HS3 : Hid (Su w W3 w2.heap.size #[.int .i64 5, .int .i64 m, .string t, .slice Ab nb zb, .slice Aa na za, .int .i64 ck, .string ct, .slice A n c, .int .i64 K, .string cn, .int .i64 cq, .bool cb] (.slice yA yn yc) (.int .i64 (kk : Int))) := by
     rw [hW3]
     exact ⟨(HE1.out.below hb2.out HE1.out.lt).alloc _, (HR1.out.below hb2.out HR1.out.lt).alloc _, Has.new _ _ _, (HB1.out.trans (hb2.out.mono HB1.out.size)).alloc (HB1.out.trans (hb2.out.mono HB1.out.size)).size _, hsz2⟩
    replace hW3 := hW3.symm
    obtain ⟨g, hg⟩ : ∃ g, w2.heap.size = g := ⟨_, rfl⟩
    rw [hg] at HS3 hsz2
    clear hb2 HFD HE1 HR1 HB1 u2 hw1
    obtain ⟨W4z, hW4z⟩ : ∃ W, W = W3.alloc (.cells #[.int .i64 0, .int .i64 0, .string ⟨#[]⟩, .slice none 0 0, .slice none 0 0, .int .i64 0, .string ⟨#[]⟩, .slice none 0 0, .int .i64 0, .string ⟨#[]⟩, .int .i64 0, .bool false] 33) := ⟨_, rfl⟩
    have s4 := HS3.out.out #[.int .i64 0, .int .i64 0, .string ⟨#[]⟩, .slice none 0 0, .slice none 0 0, .int .i64 0, .string ⟨#[]⟩, .slice none 0 0, .int .i64 0, .string ⟨#[]⟩, .int .i64 0, .bool false]
    rw [← hW4z] at s4
    replace hW4z := hW4z.symm
    obtain ⟨q, hq⟩ : ∃ q, W3.heap.size = q := ⟨_, rfl⟩
    rw [hq] at s4
    have HS4z := Lib.hid s4
    obtain ⟨nz0, nz1, nz2, nz3, nz4, nz5, nz6, nz7, nz8, nz9, nz10, nz11, nzf0, nzf1, nzf2, nzf3, nzf4, nzf5, nzf6, nzf7, nzf8, nzf9, nzf10, nzf11⟩ := all12 HS4z.out.ho
    obtain ⟨W4, hW4⟩ : ∃ W, put12 W4z q (.int .i64 5) (.int .i64 0) (.string ⟨#[]⟩) (.slice none 0 0) (.slice none 0 0) (.int .i64 0) (.string ⟨#[]⟩) (.slice none 0 0) (.int .i64 0) (.string ⟨#[]⟩) (.int .i64 0) (.bool false) = W := ⟨_, rfl⟩
    have s4b := s4.put12 (.int .i64 5) (.int .i64 0) (.string ⟨#[]⟩) (.slice none 0 0) (.slice none 0 0) (.int .i64 0) (.string ⟨#[]⟩) (.slice none 0 0) (.int .i64 0) (.string ⟨#[]⟩) (.int .i64 0) (.bool false)
    rw [hW4] at s4b
    have HS4 := Lib.hid s4b
    have hW4' := hW4
    unfold put12 at hW4'
    clear s4 s4b hW4
    have hlo := HS4.out.lo
    have e0 := HS3.out.he.cell 0
    have ef0 := HS3.out.he.free 0
    simp only [zG, zH, zI] at e0
    have a0 := HS4.out.he.cell 0
    have a1 := HS4.out.he.cell 1
    have a2 := HS4.out.he.cell 2
    have af0 := HS4.out.he.free 0
    have af1 := HS4.out.he.free 1
    have af2 := HS4.out.he.free 2
    simp only [zG, zH, zI] at a0 a1 a2
    have b2 := HS4.out.ho.cell 2
    have bf2 := HS4.out.ho.free 2
    simp only [zG, zH, zI] at b2
    obtain ⟨W5, hW5⟩ : ∃ W, W = (W4.setCell ⟨q, 2, none⟩ (.string t)) := ⟨_, rfl⟩
    have HS5 : Hid (Sv w W5 g q #[.int .i64 5, .int .i64 m, .string t, .slice Ab nb zb, .slice Aa na za, .int .i64 ck, .string ct, .slice A n c, .int .i64 K, .string cn, .int .i64 cq, .bool cb] (.slice yA yn yc) (.int .i64 (kk : Int)) #[.int .i64 5, .int .i64 0, .string t, .slice none 0 0, .slice none 0 0, .int .i64 0, .string ⟨#[]⟩, .slice none 0 0, .int .i64 0, .string ⟨#[]⟩, .int .i64 0, .bool false]) := by rw [hW5]; exact (HS4.out.put 2 (.string t))
    replace hW5 := hW5.symm
    have c2 := HS5.out.he.cell 2
    have c3 := HS5.out.he.cell 3
    have c4 := HS5.out.he.cell 4
    have cf2 := HS5.out.he.free 2
    have cf3 := HS5.out.he.free 3
    have cf4 := HS5.out.he.free 4
    simp only [zG, zH, zI] at c2 c3 c4
    have s0 := HS5.out.hs.cell 0
    have s1 := HS5.out.hs.cell 1
    have sf0 := HS5.out.hs.free 0
    have sf1 := HS5.out.hs.free 1
    simp only [zG, zH, zI] at s0 s1
    have hbw5 := HS5.out.bel
    have HRW := Lib.hid (row_any yA yL yn yc (kk : Int) Ab B nb zb W5.drew hok.len hok.few (hok.row.below (show Below w.heap.size w W5.drew from hbw5.drew)) (fun y hy => (goodS_fit yL kk hgs y hy).2.2.2) HW.out.b.1 HW.out.b.2.1 HFF.out.2.2.1 (HW.out.b.2.2.1.below (show Below w.heap.size w W5.drew from hbw5.drew)) HFF.out.1)
    have hq5 : q < W5.heap.size := HS5.out.ho.lt
    go_wp2_with fail
    refine wp_region_held_drew (S := (fun X : World => X.cell? ⟨w.heap.size, 3, none⟩ = some (.slice Ab nb zb) ∧ X.cell? ⟨g, 0, none⟩ = some (.slice yA yn yc) ∧ X.cell? ⟨g, 1, none⟩ = some (.int .i64 (kk : Int)))) (by kernel_rfl) ⟨c3, s0, s1⟩ (fun _ => ?_)
    (refine wpAnyH_take (i := 0) (v := ?_) rfl (by kernel_rfl) (by kernel_rfl) (by kernel_rfl) (fun _ _ _ h => h) (Or.inl ⟨by rfl, ?_⟩) (by assumption) ?_; rotate_left; (intro w hSw; (try dsimp only at hSw); go_simp; try with_reducible rfl); ((try simp only [zA, zB, zC, Act.put, zD, zE, zF])))
    (refine wpAnyH_take (i := 1) (v := ?_) rfl (by kernel_rfl) (by kernel_rfl) (by kernel_rfl) (fun _ _ _ h => h) (Or.inl ⟨by rfl, ?_⟩) (by assumption) ?_; rotate_left; (intro w hSw; (try dsimp only at hSw); go_simp; try with_reducible rfl); ((try simp only [zA, zB, zC, Act.put, zD, zE, zF])))
    (refine wpAnyH_take (i := 2) (v := ?_) rfl (by kernel_rfl) (by kernel_rfl) (by kernel_rfl) (fun _ _ _ h => h) (Or.inl ⟨by rfl, ?_⟩) (by assumption) ?_; rotate_left; (intro w hSw; (try dsimp only at hSw); go_simp; try with_reducible rfl); ((try simp only [zA, zB, zC, Act.put, zD, zE, zF])))
    (refine wpAnyH_take (i := 4) (v := ?_) rfl (by kernel_rfl) (by kernel_rfl) (by kernel_rfl) (fun _ _ _ h => h) (Or.inl ⟨by rfl, ?_⟩) (by assumption) ?_; rotate_left; (intro w hSw; (try dsimp only at hSw); go_simp; try with_reducible rfl); ((try simp only [zA, zB, zC, Act.put, zD, zE, zF])))
    (refine wpAnyH_take (i := 5) (v := ?_) rfl (by kernel_rfl) (by kernel_rfl) (by kernel_rfl) (fun _ _ _ h => h) (Or.inl ⟨by rfl, ?_⟩) (by assumption) ?_; rotate_left; (intro w hSw; (try dsimp only at hSw); go_simp; try with_reducible rfl); ((try simp only [zA, zB, zC, Act.put, zD, zE, zF])))
    refine wpAnyH_ready (rs := [3]) (by kernel_rfl) (by simp) ?_
    refine AllReadyH.cons rfl (fun K2 hK2 => ?_) AllReadyH.nil
    go_simp
    refine (HRW.out).mono ?_
    rintro e w6 ⟨v6, rfl, ho6, hb6⟩
    obtain ⟨A6, n6, c6, rfl, hn6, hc6, hm6, hr6, hg6, hA6⟩ := ownV_blk ho6.out
    have HS6 := Lib.hid ((show Sv w W5.drew g q _ _ _ _ from ⟨HS5.out.he, HS5.out.hr, HS5.out.hs, HS5.out.ho, HS5.out.bel.drew, HS5.out.lo⟩ : Sv w W5.drew g q #[.int .i64 5, .int .i64 m, .string t, .slice Ab nb zb, .slice Aa na za, .int .i64 ck, .string ct, .slice A n c, .int .i64 K, .string cn, .int .i64 cq, .bool cb] (.slice yA yn yc) (.int .i64 (kk : Int)) #[.int .i64 5, .int .i64 0, .string t, .slice none 0 0, .slice none 0 0, .int .i64 0, .string ⟨#[]⟩, .slice none 0 0, .int .i64 0, .string ⟨#[]⟩, .int .i64 0, .bool false]).below hb6.out)
    go_wp2_with fail
    refine hK2.out _ _ (by (try dsimp only); exact ⟨HS6.out.he.cell 3, HS6.out.hs.cell 0, HS6.out.hs.cell 1⟩) (fun _ => ?_)
    clear hK2 K2
    (try simp only [zA, zB, zC, Act.put, zD, zE, zF])
    have hkl : kk ≤ n6 := by have h1 := hgs.keys.2.1; have h2 := hn6.out; rw [rowF_len] at h2; omega
    have hk1 : 1 ≤ kk := hgs.keys.1
    unfold maxLen at hm6
    have hkc : (kk : Int) ≤ (c6 : Int) := by omega
    have hk0 : (0 : Int) ≤ (kk : Int) := by omega
    rcases hA6.out with rfl | ⟨bb6, oo6, rfl⟩
    ·exact absurd (hr6.out (by intro e; have := hn6.out; rw [e] at this; simp at this; omega)) (fun ⟨_, _, e, _⟩ => by cases e)
    ·refine wpAnyH_ready (rs := [6]) (by kernel_rfl) (by simp) ?_
     refine AllReadyH.cons rfl (fun K2 hK2 => ?_) (AllReadyH.nil)
     go_simp
     refine hK2.out _ _ (by (try dsimp only); exact ⟨HS6.out.he.cell 3, HS6.out.hs.cell 0, HS6.out.hs.cell 1⟩) (fun _ => ?_)
     clear hK2 K2
     (try simp only [zA, zB, zC, Act.put, zD, zE, zF])
     (refine wpAnyH_take (i := 7) (v := ?_) rfl (by kernel_rfl) (by kernel_rfl) (by kernel_rfl) (fun _ _ _ h => h) (Or.inl ⟨by rfl, ?_⟩) (by assumption) ?_; rotate_left; (intro w hSw; (try dsimp only at hSw); go_simp; try with_reducible rfl); ((try simp only [zA, zB, zC, Act.put, zD, zE, zF])))
     have b3 := HS6.out.ho.cell 3
     have bf3 := HS6.out.ho.free 3
     simp only [zG, zH, zI] at b3
     obtain ⟨W7, hW7⟩ : ∃ W, W = (w6.setCell ⟨q, 3, none⟩ (.slice (some ⟨bb6, oo6, none⟩) kk c6)) := ⟨_, rfl⟩
     have HS7 : Hid (Sv w W7 g q #[.int .i64 5, .int .i64 m, .string t, .slice Ab nb zb, .slice Aa na za, .int .i64 ck, .string ct, .slice A n c, .int .i64 K, .string cn, .int .i64 cq, .bool cb] (.slice yA yn yc) (.int .i64 (kk : Int)) #[.int .i64 5, .int .i64 0, .string t, .slice (some ⟨bb6, oo6, none⟩) kk c6, .slice none 0 0, .int .i64 0, .string ⟨#[]⟩, .slice none 0 0, .int .i64 0, .string ⟨#[]⟩, .int .i64 0, .bool false]) := by rw [hW7]; exact (HS6.out.put 3 (.slice (some ⟨bb6, oo6, none⟩) kk c6))
     replace hW7 := hW7.symm
     have ht7 : Tur [q] w6 W7 := by rw [← hW7]; exact Tur.setCell w6 (p := ⟨q, 3, none⟩) (by simp) _
     refine wpAnyH_ready (rs := [8]) (by kernel_rfl) (by simp) ?_
     refine AllReadyH.cons rfl (fun K2 hK2 => ?_) (AllReadyH.nil)
     go_simp
     refine hK2.out _ _ (by (try dsimp only); exact ⟨HS7.out.he.cell 3, HS7.out.hs.cell 0, HS7.out.hs.cell 1⟩) (fun _ => ?_)
     clear hK2 K2
     (try simp only [zA, zB, zC, Act.put, zD, zE, zF])
     refine wpAnyH_done (by kernel_rfl) ?_ _
     clear HRW ho6 hb6 hbw5 c2 cf2 c3 cf3 c4 cf4 s0 sf0 s1 sf1 b2 bf2 b3 bf3 a0 af0 a1 af1 a2 af2 e0 ef0 nz0 nzf0 nz1 nzf1 nz2 nzf2 nz3 nzf3 nz4 nzf4 nz5 nzf5 nz6 nzf6 nz7 nzf7 nz8 nzf8 nz9 nzf9 nz10 nzf10 nz11 nzf11
     obtain ⟨u0, u1, u2, u3, u4, u5, u6, u7, u8, u9, u10, u11, uf0, uf1, uf2, uf3, uf4, uf5, uf6, uf7, uf8, uf9, uf10, uf11⟩ := all12 HS7.out.ho
     obtain ⟨v0, v1, v2, v3, v4, v5, v6, v7, v8, v9, v10, v11, vf0, vf1, vf2, vf3, vf4, vf5, vf6, vf7, vf8, vf9, vf10, vf11⟩ := all12 HS7.out.hr
     go_wp2_with fail
     obtain ⟨HF, ht, hbe⟩ := rx12 HS7.out (.int .i64 5) (.int .i64 0) (.string t) (.slice (some ⟨bb6, oo6, none⟩) kk c6) (.slice none 0 0) (.int .i64 0) (.string ⟨#[]⟩) (.slice none 0 0) (.int .i64 0) (.string ⟨#[]⟩) (.int .i64 0) (.bool false)
     refine bodyPost_ret (evEndH HF.out rfl) rfl ?_
     exact ⟨⟨5, 0, t, (rowF yL B).take kk, [], 0, ⟨#[]⟩, [], 0, ⟨⟨#[]⟩, 0, false⟩⟩, some ⟨bb6, oo6, none⟩, kk, c6, none, 0, 0, none, 0, 0, rfl, evw_row 5 0 t ((rowF yL B).take kk) [] (some ⟨bb6, oo6, none⟩) kk c6 none 0 0 ⟨by rw [List.length_take, hn6.out]; omega, by omega, ((hr6.out.takeK kk |>.tur ht7 (fun a e hh => by have := (hg6.out a e).1; simp at hh; have h5 : W5.drew.heap.size = W5.heap.size := rfl; omega)).tur ht (fun a e hh => by have := (hg6.out a e).1; simp at hh; have h5 : W5.drew.heap.size = W5.heap.size := rfl; omega)), fun y hy => (rowF_fit yL B (fun c hc => ⟨(goodS_fit yL kk hgs c hc).2.1, (goodS_fit yL kk hgs c hc).2.2.1⟩) HFF.out.1 y (List.mem_of_mem_take hy)).1⟩ (nilB _) (by omega) (by omega), hbe, small_b kk (fun c hc => ⟨(goodS_fit yL kk hgs c hc).2.1, (goodS_fit yL kk hgs c hc).2.2.1⟩) HFF.out.1⟩
  ·cases hp : plF T t
   ·go_enter Tryz.func7, Tryz.ntmps7
    go_wp2_with fail
    refine HFD.out.mono ?_
    rintro e w2 ⟨rfl, hb2⟩
    rw [tfV_no HTT.out.sort hp]
    by_cases hnt : 0 < nt
    ·have g0 : (0 : Int) < (nt : Int) := by omega
     obtain ⟨W3z, hW3z⟩ : ∃ W, W = w2.alloc (.cells #[.slice none 0 0, .int .i64 0] 27) := ⟨_, rfl⟩
     have hsz2 : w.heap.size + 1 < w2.heap.size := Nat.lt_of_lt_of_le hsz1 hb2.out.size
     have HS3z := Lib.hid (su_new HE1.out HR1.out HB1.out hb2.out hsz2)
     rw [← hW3z] at HS3z
     replace hW3z := hW3z.symm
     obtain ⟨g, hg⟩ : ∃ g, w2.heap.size = g := ⟨_, rfl⟩
     rw [hg] at HS3z hsz2
     clear hb2 HFD HE1 HR1 HB1 u2 hw1
     have zz0 := HS3z.out.hs.cell 0
     have zz1 := HS3z.out.hs.cell 1
     have zzf0 := HS3z.out.hs.free 0
     have zzf1 := HS3z.out.hs.free 1
     simp only [zG, zH, zI] at zz0 zz1
     obtain ⟨W3, hW3⟩ : ∃ W, W = (W3z.setCell ⟨g, 0, none⟩ (.slice none 0 0)).setCell ⟨g, 1, none⟩ (.int .i64 0) := ⟨_, rfl⟩
     have HS3 := Lib.hid (HS3z.out.puts (.slice none 0 0) (.int .i64 0))
     rw [← hW3] at HS3
     replace hW3 := hW3.symm
     have x_e0 := HS3.out.he.cell 0
     have x_ef0 := HS3.out.he.free 0
     simp only [zG, zH, zI] at x_e0
     obtain ⟨W4z, hW4z⟩ : ∃ W, W = W3.alloc (.cells #[.int .i64 0, .int .i64 0, .string ⟨#[]⟩, .slice none 0 0, .slice none 0 0, .int .i64 0, .string ⟨#[]⟩, .slice none 0 0, .int .i64 0, .string ⟨#[]⟩, .int .i64 0, .bool false] 33) := ⟨_, rfl⟩
     have s4 := HS3.out.out #[.int .i64 0, .int .i64 0, .string ⟨#[]⟩, .slice none 0 0, .slice none 0 0, .int .i64 0, .string ⟨#[]⟩, .slice none 0 0, .int .i64 0, .string ⟨#[]⟩, .int .i64 0, .bool false]
     rw [← hW4z] at s4
     replace hW4z := hW4z.symm
     obtain ⟨q, hq⟩ : ∃ q, W3.heap.size = q := ⟨_, rfl⟩
     rw [hq] at s4
     have HS4z := Lib.hid s4
     obtain ⟨nz0, nz1, nz2, nz3, nz4, nz5, nz6, nz7, nz8, nz9, nz10, nz11, nzf0, nzf1, nzf2, nzf3, nzf4, nzf5, nzf6, nzf7, nzf8, nzf9, nzf10, nzf11⟩ := all12 HS4z.out.ho
     obtain ⟨W4, hW4⟩ : ∃ W, put12 W4z q (.int .i64 6) (.int .i64 0) (.string ⟨#[]⟩) (.slice none 0 0) (.slice none 0 0) (.int .i64 0) (.string ⟨#[]⟩) (.slice none 0 0) (.int .i64 0) (.string ⟨#[]⟩) (.int .i64 0) (.bool false) = W := ⟨_, rfl⟩
     have s4b := s4.put12 (.int .i64 6) (.int .i64 0) (.string ⟨#[]⟩) (.slice none 0 0) (.slice none 0 0) (.int .i64 0) (.string ⟨#[]⟩) (.slice none 0 0) (.int .i64 0) (.string ⟨#[]⟩) (.int .i64 0) (.bool false)
     rw [hW4] at s4b
     have HS4 := Lib.hid s4b
     have hW4' := hW4
     unfold put12 at hW4'
     clear s4 s4b hW4
     have hlo := HS4.out.lo
     have e0 := HS3.out.he.cell 0
     have ef0 := HS3.out.he.free 0
     simp only [zG, zH, zI] at e0
     have a0 := HS4.out.he.cell 0
     have a1 := HS4.out.he.cell 1
     have a2 := HS4.out.he.cell 2
     have af0 := HS4.out.he.free 0
     have af1 := HS4.out.he.free 1
     have af2 := HS4.out.he.free 2
     simp only [zG, zH, zI] at a0 a1 a2
     have d5 := HS4.out.he.cell 5
     have d6 := HS4.out.he.cell 6
     have d7 := HS4.out.he.cell 7
     have d8 := HS4.out.he.cell 8
     have d9 := HS4.out.he.cell 9
     have d10 := HS4.out.he.cell 10
     have d11 := HS4.out.he.cell 11
     have df5 := HS4.out.he.free 5
     have df6 := HS4.out.he.free 6
     have df7 := HS4.out.he.free 7
     have df8 := HS4.out.he.free 8
     have df9 := HS4.out.he.free 9
     have df10 := HS4.out.he.free 10
     have df11 := HS4.out.he.free 11
     simp only [zG, zH, zI] at d5 d6 d7 d8 d9 d10 d11
     have b5 := HS4.out.ho.cell 5
     have b6 := HS4.out.ho.cell 6
     have b7 := HS4.out.ho.cell 7
     have b8 := HS4.out.ho.cell 8
     have b9 := HS4.out.ho.cell 9
     have b10 := HS4.out.ho.cell 10
     have b11 := HS4.out.ho.cell 11
     have bf5 := HS4.out.ho.free 5
     have bf6 := HS4.out.ho.free 6
     have bf7 := HS4.out.ho.free 7
     have bf8 := HS4.out.ho.free 8
     have bf9 := HS4.out.ho.free 9
     have bf10 := HS4.out.ho.free 10
     have bf11 := HS4.out.ho.free 11
     simp only [zG, zH, zI] at b5 b6 b7 b8 b9 b10 b11
     obtain ⟨W7, hW7⟩ : ∃ W, W = (((((((W4.setCell ⟨q, 5, none⟩ (.int .i64 ck)).setCell ⟨q, 6, none⟩ (.string ct)).setCell ⟨q, 7, none⟩ (.slice A n c)).setCell ⟨q, 8, none⟩ (.int .i64 K)).setCell ⟨q, 9, none⟩ (.string cn)).setCell ⟨q, 10, none⟩ (.int .i64 cq)).setCell ⟨q, 11, none⟩ (.bool cb)) := ⟨_, rfl⟩
     have HS7 : Hid (Sv w W7 g q #[.int .i64 6, .int .i64 m, .string t, .slice Ab nb zb, .slice Aa na za, .int .i64 ck, .string ct, .slice A n c, .int .i64 K, .string cn, .int .i64 cq, .bool cb] (.slice none 0 0) (.int .i64 0) #[.int .i64 6, .int .i64 0, .string ⟨#[]⟩, .slice none 0 0, .slice none 0 0, .int .i64 ck, .string ct, .slice A n c, .int .i64 K, .string cn, .int .i64 cq, .bool cb]) := by rw [hW7]; exact (((((((HS4.out.put 5 (.int .i64 ck)).put 6 (.string ct)).put 7 (.slice A n c)).put 8 (.int .i64 K)).put 9 (.string cn)).put 10 (.int .i64 cq)).put 11 (.bool cb))
     replace hW7 := hW7.symm
     obtain ⟨u0, u1, u2, u3, u4, u5, u6, u7, u8, u9, u10, u11, uf0, uf1, uf2, uf3, uf4, uf5, uf6, uf7, uf8, uf9, uf10, uf11⟩ := all12 HS7.out.ho
     obtain ⟨v0, v1, v2, v3, v4, v5, v6, v7, v8, v9, v10, v11, vf0, vf1, vf2, vf3, vf4, vf5, vf6, vf7, vf8, vf9, vf10, vf11⟩ := all12 HS7.out.hr
     go_wp2_with fail
     obtain ⟨HF, ht, hbe⟩ := rx12 HS7.out (.int .i64 6) (.int .i64 0) (.string ⟨#[]⟩) (.slice none 0 0) (.slice none 0 0) (.int .i64 ck) (.string ct) (.slice A n c) (.int .i64 K) (.string cn) (.int .i64 cq) (.bool cb)
     refine bodyPost_ret (evEndH HF.out rfl) rfl ?_
     exact ⟨⟨6, 0, ⟨#[]⟩, [], [], ck, ct, L, K, ⟨cn, cq, cb⟩⟩, none, 0, 0, none, 0, 0, A, n, c, rfl, evw_chg ck ct A n c L K ⟨cn, cq, cb⟩ ⟨HW.out.l.1, HW.out.l.2.1, HW.out.l.2.2.1.below hbe, HW.out.l.2.2.2⟩ HW.out.ct HW.out.cl, hbe, small_no (by omega)⟩
    ·have g0 : ¬ (0 : Int) < (nt : Int) := by omega
     obtain ⟨W3z, hW3z⟩ : ∃ W, W = w2.alloc (.cells #[.slice none 0 0, .int .i64 0] 27) := ⟨_, rfl⟩
     have hsz2 : w.heap.size + 1 < w2.heap.size := Nat.lt_of_lt_of_le hsz1 hb2.out.size
     have HS3z := Lib.hid (su_new HE1.out HR1.out HB1.out hb2.out hsz2)
     rw [← hW3z] at HS3z
     replace hW3z := hW3z.symm
     obtain ⟨g, hg⟩ : ∃ g, w2.heap.size = g := ⟨_, rfl⟩
     rw [hg] at HS3z hsz2
     clear hb2 HFD HE1 HR1 HB1 u2 hw1
     have zz0 := HS3z.out.hs.cell 0
     have zz1 := HS3z.out.hs.cell 1
     have zzf0 := HS3z.out.hs.free 0
     have zzf1 := HS3z.out.hs.free 1
     simp only [zG, zH, zI] at zz0 zz1
     obtain ⟨W3, hW3⟩ : ∃ W, W = (W3z.setCell ⟨g, 0, none⟩ (.slice none 0 0)).setCell ⟨g, 1, none⟩ (.int .i64 0) := ⟨_, rfl⟩
     have HS3 := Lib.hid (HS3z.out.puts (.slice none 0 0) (.int .i64 0))
     rw [← hW3] at HS3
     replace hW3 := hW3.symm
     have x_e0 := HS3.out.he.cell 0
     have x_ef0 := HS3.out.he.free 0
     simp only [zG, zH, zI] at x_e0
     obtain ⟨W4z, hW4z⟩ : ∃ W, W = W3.alloc (.cells #[.int .i64 0, .int .i64 0, .string ⟨#[]⟩, .slice none 0 0, .slice none 0 0, .int .i64 0, .string ⟨#[]⟩, .slice none 0 0, .int .i64 0, .string ⟨#[]⟩, .int .i64 0, .bool false] 33) := ⟨_, rfl⟩
     have s4 := HS3.out.out #[.int .i64 0, .int .i64 0, .string ⟨#[]⟩, .slice none 0 0, .slice none 0 0, .int .i64 0, .string ⟨#[]⟩, .slice none 0 0, .int .i64 0, .string ⟨#[]⟩, .int .i64 0, .bool false]
     rw [← hW4z] at s4
     replace hW4z := hW4z.symm
     obtain ⟨q, hq⟩ : ∃ q, W3.heap.size = q := ⟨_, rfl⟩
     rw [hq] at s4
     have HS4z := Lib.hid s4
     obtain ⟨nz0, nz1, nz2, nz3, nz4, nz5, nz6, nz7, nz8, nz9, nz10, nz11, nzf0, nzf1, nzf2, nzf3, nzf4, nzf5, nzf6, nzf7, nzf8, nzf9, nzf10, nzf11⟩ := all12 HS4z.out.ho
     obtain ⟨W4, hW4⟩ : ∃ W, put12 W4z q (.int .i64 6) (.int .i64 0) (.string ⟨#[]⟩) (.slice none 0 0) (.slice none 0 0) (.int .i64 0) (.string ⟨#[]⟩) (.slice none 0 0) (.int .i64 0) (.string ⟨#[]⟩) (.int .i64 0) (.bool false) = W := ⟨_, rfl⟩
     have s4b := s4.put12 (.int .i64 6) (.int .i64 0) (.string ⟨#[]⟩) (.slice none 0 0) (.slice none 0 0) (.int .i64 0) (.string ⟨#[]⟩) (.slice none 0 0) (.int .i64 0) (.string ⟨#[]⟩) (.int .i64 0) (.bool false)
     rw [hW4] at s4b
     have HS4 := Lib.hid s4b
     have hW4' := hW4
     unfold put12 at hW4'
     clear s4 s4b hW4
     have hlo := HS4.out.lo
     have e0 := HS3.out.he.cell 0
     have ef0 := HS3.out.he.free 0
     simp only [zG, zH, zI] at e0
     have a0 := HS4.out.he.cell 0
     have a1 := HS4.out.he.cell 1
     have a2 := HS4.out.he.cell 2
     have af0 := HS4.out.he.free 0
     have af1 := HS4.out.he.free 1
     have af2 := HS4.out.he.free 2
     simp only [zG, zH, zI] at a0 a1 a2
     have d5 := HS4.out.he.cell 5
     have d6 := HS4.out.he.cell 6
     have d7 := HS4.out.he.cell 7
     have d8 := HS4.out.he.cell 8
     have d9 := HS4.out.he.cell 9
     have d10 := HS4.out.he.cell 10
     have d11 := HS4.out.he.cell 11
     have df5 := HS4.out.he.free 5
     have df6 := HS4.out.he.free 6
     have df7 := HS4.out.he.free 7
     have df8 := HS4.out.he.free 8
     have df9 := HS4.out.he.free 9
     have df10 := HS4.out.he.free 10
     have df11 := HS4.out.he.free 11
     simp only [zG, zH, zI] at d5 d6 d7 d8 d9 d10 d11
     have b5 := HS4.out.ho.cell 5
     have b6 := HS4.out.ho.cell 6
     have b7 := HS4.out.ho.cell 7
     have b8 := HS4.out.ho.cell 8
     have b9 := HS4.out.ho.cell 9
     have b10 := HS4.out.ho.cell 10
     have b11 := HS4.out.ho.cell 11
     have bf5 := HS4.out.ho.free 5
     have bf6 := HS4.out.ho.free 6
     have bf7 := HS4.out.ho.free 7
     have bf8 := HS4.out.ho.free 8
     have bf9 := HS4.out.ho.free 9
     have bf10 := HS4.out.ho.free 10
     have bf11 := HS4.out.ho.free 11
     simp only [zG, zH, zI] at b5 b6 b7 b8 b9 b10 b11
     obtain ⟨W7, hW7⟩ : ∃ W, W = (((((((W4.setCell ⟨q, 5, none⟩ (.int .i64 ck)).setCell ⟨q, 6, none⟩ (.string ct)).setCell ⟨q, 7, none⟩ (.slice A n c)).setCell ⟨q, 8, none⟩ (.int .i64 K)).setCell ⟨q, 9, none⟩ (.string cn)).setCell ⟨q, 10, none⟩ (.int .i64 cq)).setCell ⟨q, 11, none⟩ (.bool cb)) := ⟨_, rfl⟩
     have HS7 : Hid (Sv w W7 g q #[.int .i64 6, .int .i64 m, .string t, .slice Ab nb zb, .slice Aa na za, .int .i64 ck, .string ct, .slice A n c, .int .i64 K, .string cn, .int .i64 cq, .bool cb] (.slice none 0 0) (.int .i64 0) #[.int .i64 6, .int .i64 0, .string ⟨#[]⟩, .slice none 0 0, .slice none 0 0, .int .i64 ck, .string ct, .slice A n c, .int .i64 K, .string cn, .int .i64 cq, .bool cb]) := by rw [hW7]; exact (((((((HS4.out.put 5 (.int .i64 ck)).put 6 (.string ct)).put 7 (.slice A n c)).put 8 (.int .i64 K)).put 9 (.string cn)).put 10 (.int .i64 cq)).put 11 (.bool cb))
     replace hW7 := hW7.symm
     obtain ⟨u0, u1, u2, u3, u4, u5, u6, u7, u8, u9, u10, u11, uf0, uf1, uf2, uf3, uf4, uf5, uf6, uf7, uf8, uf9, uf10, uf11⟩ := all12 HS7.out.ho
     obtain ⟨v0, v1, v2, v3, v4, v5, v6, v7, v8, v9, v10, v11, vf0, vf1, vf2, vf3, vf4, vf5, vf6, vf7, vf8, vf9, vf10, vf11⟩ := all12 HS7.out.hr
     go_wp2_with fail
     obtain ⟨HF, ht, hbe⟩ := rx12 HS7.out (.int .i64 6) (.int .i64 0) (.string ⟨#[]⟩) (.slice none 0 0) (.slice none 0 0) (.int .i64 ck) (.string ct) (.slice A n c) (.int .i64 K) (.string cn) (.int .i64 cq) (.bool cb)
     refine bodyPost_ret (evEndH HF.out rfl) rfl ?_
     exact ⟨⟨6, 0, ⟨#[]⟩, [], [], ck, ct, L, K, ⟨cn, cq, cb⟩⟩, none, 0, 0, none, 0, 0, A, n, c, rfl, evw_chg ck ct A n c L K ⟨cn, cq, cb⟩ ⟨HW.out.l.1, HW.out.l.2.1, HW.out.l.2.2.1.below hbe, HW.out.l.2.2.2⟩ HW.out.ct HW.out.cl, hbe, small_no (by omega)⟩
   ·obtain ⟨hl, _⟩ := plF_tat hp
    go_enter Tryz.func7, Tryz.ntmps7
    go_wp2_with fail
    refine HFD.out.mono ?_
    rintro e w2 ⟨rfl, hb2⟩
    rw [tfV_yes hp hl]
    obtain ⟨y, hy⟩ : ∃ y, T[lbN T t] = y := ⟨_, rfl⟩
    have hyT : y ∈ T := hy ▸ List.getElem_mem hl
    rw [hy]
    clear hy
    obtain ⟨kk, hK, hgs⟩ := HGS.out y hyT
    have hok := HTT.out.ok y hyT
    obtain ⟨ynm, yA, yn, yc, yL, yK⟩ := y
    dsimp only at hK hgs hok ⊢
    subst hK
    obtain ⟨W3, hW3⟩ : ∃ W, W = w2.alloc (.cells #[.slice yA yn yc, .int .i64 (kk : Int)] 27) := ⟨_, rfl⟩
    have hsz2 : w.heap.size + 1 < w2.heap.size := Nat.lt_of_lt_of_le hsz1 hb2.out.size
    have HS3 : Hid (Su w W3 w2.heap.size #[.int .i64 6, .int .i64 m, .string t, .slice Ab nb zb, .slice Aa na za, .int .i64 ck, .string ct, .slice A n c, .int .i64 K, .string cn, .int .i64 cq, .bool cb] (.slice yA yn yc) (.int .i64 (kk : Int))) := by
     rw [hW3]
     exact ⟨(HE1.out.below hb2.out HE1.out.lt).alloc _, (HR1.out.below hb2.out HR1.out.lt).alloc _, Has.new _ _ _, (HB1.out.trans (hb2.out.mono HB1.out.size)).alloc (HB1.out.trans (hb2.out.mono HB1.out.size)).size _, hsz2⟩
    replace hW3 := hW3.symm
    obtain ⟨g, hg⟩ : ∃ g, w2.heap.size = g := ⟨_, rfl⟩
    rw [hg] at HS3 hsz2
    clear hb2 HFD HE1 HR1 HB1 u2 hw1
    obtain ⟨W4z, hW4z⟩ : ∃ W, W = W3.alloc (.cells #[.int .i64 0, .int .i64 0, .string ⟨#[]⟩, .slice none 0 0, .slice none 0 0, .int .i64 0, .string ⟨#[]⟩, .slice none 0 0, .int .i64 0, .string ⟨#[]⟩, .int .i64 0, .bool false] 33) := ⟨_, rfl⟩
    have s4 := HS3.out.out #[.int .i64 0, .int .i64 0, .string ⟨#[]⟩, .slice none 0 0, .slice none 0 0, .int .i64 0, .string ⟨#[]⟩, .slice none 0 0, .int .i64 0, .string ⟨#[]⟩, .int .i64 0, .bool false]
    rw [← hW4z] at s4
    replace hW4z := hW4z.symm
    obtain ⟨q, hq⟩ : ∃ q, W3.heap.size = q := ⟨_, rfl⟩
    rw [hq] at s4
    have HS4z := Lib.hid s4
    obtain ⟨nz0, nz1, nz2, nz3, nz4, nz5, nz6, nz7, nz8, nz9, nz10, nz11, nzf0, nzf1, nzf2, nzf3, nzf4, nzf5, nzf6, nzf7, nzf8, nzf9, nzf10, nzf11⟩ := all12 HS4z.out.ho
    obtain ⟨W4, hW4⟩ : ∃ W, put12 W4z q (.int .i64 6) (.int .i64 0) (.string ⟨#[]⟩) (.slice none 0 0) (.slice none 0 0) (.int .i64 0) (.string ⟨#[]⟩) (.slice none 0 0) (.int .i64 0) (.string ⟨#[]⟩) (.int .i64 0) (.bool false) = W := ⟨_, rfl⟩
    have s4b := s4.put12 (.int .i64 6) (.int .i64 0) (.string ⟨#[]⟩) (.slice none 0 0) (.slice none 0 0) (.int .i64 0) (.string ⟨#[]⟩) (.slice none 0 0) (.int .i64 0) (.string ⟨#[]⟩) (.int .i64 0) (.bool false)
    rw [hW4] at s4b
    have HS4 := Lib.hid s4b
    have hW4' := hW4
    unfold put12 at hW4'
    clear s4 s4b hW4
    have hlo := HS4.out.lo
    have e0 := HS3.out.he.cell 0
    have ef0 := HS3.out.he.free 0
    simp only [zG, zH, zI] at e0
    have a0 := HS4.out.he.cell 0
    have a1 := HS4.out.he.cell 1
    have a2 := HS4.out.he.cell 2
    have af0 := HS4.out.he.free 0
    have af1 := HS4.out.he.free 1
    have af2 := HS4.out.he.free 2
    simp only [zG, zH, zI] at a0 a1 a2
    have d5 := HS4.out.he.cell 5
    have d6 := HS4.out.he.cell 6
    have d7 := HS4.out.he.cell 7
    have d8 := HS4.out.he.cell 8
    have d9 := HS4.out.he.cell 9
    have d10 := HS4.out.he.cell 10
    have d11 := HS4.out.he.cell 11
    have df5 := HS4.out.he.free 5
    have df6 := HS4.out.he.free 6
    have df7 := HS4.out.he.free 7
    have df8 := HS4.out.he.free 8
    have df9 := HS4.out.he.free 9
    have df10 := HS4.out.he.free 10
    have df11 := HS4.out.he.free 11
    simp only [zG, zH, zI] at d5 d6 d7 d8 d9 d10 d11
    have b5 := HS4.out.ho.cell 5
    have b6 := HS4.out.ho.cell 6
    have b7 := HS4.out.ho.cell 7
    have b8 := HS4.out.ho.cell 8
    have b9 := HS4.out.ho.cell 9
    have b10 := HS4.out.ho.cell 10
    have b11 := HS4.out.ho.cell 11
    have bf5 := HS4.out.ho.free 5
    have bf6 := HS4.out.ho.free 6
    have bf7 := HS4.out.ho.free 7
    have bf8 := HS4.out.ho.free 8
    have bf9 := HS4.out.ho.free 9
    have bf10 := HS4.out.ho.free 10
    have bf11 := HS4.out.ho.free 11
    simp only [zG, zH, zI] at b5 b6 b7 b8 b9 b10 b11
    obtain ⟨W7, hW7⟩ : ∃ W, W = (((((((W4.setCell ⟨q, 5, none⟩ (.int .i64 ck)).setCell ⟨q, 6, none⟩ (.string ct)).setCell ⟨q, 7, none⟩ (.slice A n c)).setCell ⟨q, 8, none⟩ (.int .i64 K)).setCell ⟨q, 9, none⟩ (.string cn)).setCell ⟨q, 10, none⟩ (.int .i64 cq)).setCell ⟨q, 11, none⟩ (.bool cb)) := ⟨_, rfl⟩
    have HS7 : Hid (Sv w W7 g q #[.int .i64 6, .int .i64 m, .string t, .slice Ab nb zb, .slice Aa na za, .int .i64 ck, .string ct, .slice A n c, .int .i64 K, .string cn, .int .i64 cq, .bool cb] (.slice yA yn yc) (.int .i64 (kk : Int)) #[.int .i64 6, .int .i64 0, .string ⟨#[]⟩, .slice none 0 0, .slice none 0 0, .int .i64 ck, .string ct, .slice A n c, .int .i64 K, .string cn, .int .i64 cq, .bool cb]) := by rw [hW7]; exact (((((((HS4.out.put 5 (.int .i64 ck)).put 6 (.string ct)).put 7 (.slice A n c)).put 8 (.int .i64 K)).put 9 (.string cn)).put 10 (.int .i64 cq)).put 11 (.bool cb))
    replace hW7 := hW7.symm
    obtain ⟨u0, u1, u2, u3, u4, u5, u6, u7, u8, u9, u10, u11, uf0, uf1, uf2, uf3, uf4, uf5, uf6, uf7, uf8, uf9, uf10, uf11⟩ := all12 HS7.out.ho
    obtain ⟨v0, v1, v2, v3, v4, v5, v6, v7, v8, v9, v10, v11, vf0, vf1, vf2, vf3, vf4, vf5, vf6, vf7, vf8, vf9, vf10, vf11⟩ := all12 HS7.out.hr
    go_wp2_with fail
    obtain ⟨HF, ht, hbe⟩ := rx12 HS7.out (.int .i64 6) (.int .i64 0) (.string ⟨#[]⟩) (.slice none 0 0) (.slice none 0 0) (.int .i64 ck) (.string ct) (.slice A n c) (.int .i64 K) (.string cn) (.int .i64 cq) (.bool cb)
    refine bodyPost_ret (evEndH HF.out rfl) rfl ?_
    exact ⟨⟨6, 0, ⟨#[]⟩, [], [], ck, ct, L, K, ⟨cn, cq, cb⟩⟩, none, 0, 0, none, 0, 0, A, n, c, rfl, evw_chg ck ct A n c L K ⟨cn, cq, cb⟩ ⟨HW.out.l.1, HW.out.l.2.1, HW.out.l.2.2.1.below hbe, HW.out.l.2.2.2⟩ HW.out.ct HW.out.cl, hbe, small_no (by omega)⟩
 ·have q3 : (k == 3) = false := by simp; omega
  have q4 : (k == 4) = false := by simp; omega
  have q5 : (k == 5) = false := by simp; omega
  have q6 : (k == 6) = false := by simp; omega
  have q35 : k < 3 ∨ 5 < k := by omega
  cases hp : plF T t
  ·rcases q35 with q3a | q3a
   ·have q3b : ¬ (3 : Int) ≤ k := by omega
    go_enter Tryz.func7, Tryz.ntmps7
    go_wp2_with fail
    refine HFD.out.mono ?_
    rintro e w2 ⟨rfl, hb2⟩
    rw [tfV_no HTT.out.sort hp]
    by_cases hnt : 0 < nt
    ·have g0 : (0 : Int) < (nt : Int) := by omega
     obtain ⟨W3z, hW3z⟩ : ∃ W, W = w2.alloc (.cells #[.slice none 0 0, .int .i64 0] 27) := ⟨_, rfl⟩
     have hsz2 : w.heap.size + 1 < w2.heap.size := Nat.lt_of_lt_of_le hsz1 hb2.out.size
     have HS3z := Lib.hid (su_new HE1.out HR1.out HB1.out hb2.out hsz2)
     rw [← hW3z] at HS3z
     replace hW3z := hW3z.symm
     obtain ⟨g, hg⟩ : ∃ g, w2.heap.size = g := ⟨_, rfl⟩
     rw [hg] at HS3z hsz2
     clear hb2 HFD HE1 HR1 HB1 u2 hw1
     have zz0 := HS3z.out.hs.cell 0
     have zz1 := HS3z.out.hs.cell 1
     have zzf0 := HS3z.out.hs.free 0
     have zzf1 := HS3z.out.hs.free 1
     simp only [zG, zH, zI] at zz0 zz1
     obtain ⟨W3, hW3⟩ : ∃ W, W = (W3z.setCell ⟨g, 0, none⟩ (.slice none 0 0)).setCell ⟨g, 1, none⟩ (.int .i64 0) := ⟨_, rfl⟩
     have HS3 := Lib.hid (HS3z.out.puts (.slice none 0 0) (.int .i64 0))
     rw [← hW3] at HS3
     replace hW3 := hW3.symm
     have x_e0 := HS3.out.he.cell 0
     have x_ef0 := HS3.out.he.free 0
     simp only [zG, zH, zI] at x_e0
     obtain ⟨W4z, hW4z⟩ : ∃ W, W = W3.alloc (.cells #[.int .i64 0, .int .i64 0, .string ⟨#[]⟩, .slice none 0 0, .slice none 0 0, .int .i64 0, .string ⟨#[]⟩, .slice none 0 0, .int .i64 0, .string ⟨#[]⟩, .int .i64 0, .bool false] 33) := ⟨_, rfl⟩
     have s4 := HS3.out.out #[.int .i64 0, .int .i64 0, .string ⟨#[]⟩, .slice none 0 0, .slice none 0 0, .int .i64 0, .string ⟨#[]⟩, .slice none 0 0, .int .i64 0, .string ⟨#[]⟩, .int .i64 0, .bool false]
     rw [← hW4z] at s4
     replace hW4z := hW4z.symm
     obtain ⟨q, hq⟩ : ∃ q, W3.heap.size = q := ⟨_, rfl⟩
     rw [hq] at s4
     have HS4z := Lib.hid s4
     obtain ⟨nz0, nz1, nz2, nz3, nz4, nz5, nz6, nz7, nz8, nz9, nz10, nz11, nzf0, nzf1, nzf2, nzf3, nzf4, nzf5, nzf6, nzf7, nzf8, nzf9, nzf10, nzf11⟩ := all12 HS4z.out.ho
     obtain ⟨W4, hW4⟩ : ∃ W, put12 W4z q (.int .i64 k) (.int .i64 0) (.string ⟨#[]⟩) (.slice none 0 0) (.slice none 0 0) (.int .i64 0) (.string ⟨#[]⟩) (.slice none 0 0) (.int .i64 0) (.string ⟨#[]⟩) (.int .i64 0) (.bool false) = W := ⟨_, rfl⟩
     have s4b := s4.put12 (.int .i64 k) (.int .i64 0) (.string ⟨#[]⟩) (.slice none 0 0) (.slice none 0 0) (.int .i64 0) (.string ⟨#[]⟩) (.slice none 0 0) (.int .i64 0) (.string ⟨#[]⟩) (.int .i64 0) (.bool false)
     rw [hW4] at s4b
     have HS4 := Lib.hid s4b
     have hW4' := hW4
     unfold put12 at hW4'
     clear s4 s4b hW4
     have hlo := HS4.out.lo
     have e0 := HS3.out.he.cell 0
     have ef0 := HS3.out.he.free 0
     simp only [zG, zH, zI] at e0
     have a0 := HS4.out.he.cell 0
     have a1 := HS4.out.he.cell 1
     have a2 := HS4.out.he.cell 2
     have af0 := HS4.out.he.free 0
     have af1 := HS4.out.he.free 1
     have af2 := HS4.out.he.free 2
     simp only [zG, zH, zI] at a0 a1 a2
     have b1 := HS4.out.ho.cell 1
     have bf1 := HS4.out.ho.free 1
     simp only [zG, zH, zI] at b1
     obtain ⟨W5, hW5⟩ : ∃ W, W = (W4.setCell ⟨q, 1, none⟩ (.int .i64 m)) := ⟨_, rfl⟩
     have HS5 : Hid (Sv w W5 g q #[.int .i64 k, .int .i64 m, .string t, .slice Ab nb zb, .slice Aa na za, .int .i64 ck, .string ct, .slice A n c, .int .i64 K, .string cn, .int .i64 cq, .bool cb] (.slice none 0 0) (.int .i64 0) #[.int .i64 k, .int .i64 m, .string ⟨#[]⟩, .slice none 0 0, .slice none 0 0, .int .i64 0, .string ⟨#[]⟩, .slice none 0 0, .int .i64 0, .string ⟨#[]⟩, .int .i64 0, .bool false]) := by rw [hW5]; exact (HS4.out.put 1 (.int .i64 m))
     replace hW5 := hW5.symm
     have c1 := HS5.out.ho.cell 1
     have cf1 := HS5.out.ho.free 1
     simp only [zG, zH, zI] at c1
     by_cases hm0 : m < 0
     ·obtain ⟨W7, hW7⟩ : ∃ W, W = (W5.setCell ⟨q, 1, none⟩ (.int .i64 (-(m + 1)))) := ⟨_, rfl⟩
      have HS7 : Hid (Sv w W7 g q #[.int .i64 k, .int .i64 m, .string t, .slice Ab nb zb, .slice Aa na za, .int .i64 ck, .string ct, .slice A n c, .int .i64 K, .string cn, .int .i64 cq, .bool cb] (.slice none 0 0) (.int .i64 0) #[.int .i64 k, .int .i64 (-(m + 1)), .string ⟨#[]⟩, .slice none 0 0, .slice none 0 0, .int .i64 0, .string ⟨#[]⟩, .slice none 0 0, .int .i64 0, .string ⟨#[]⟩, .int .i64 0, .bool false]) := by rw [hW7]; exact (HS5.out.put 1 (.int .i64 (-(m + 1))))
      replace hW7 := hW7.symm
      obtain ⟨u0, u1, u2, u3, u4, u5, u6, u7, u8, u9, u10, u11, uf0, uf1, uf2, uf3, uf4, uf5, uf6, uf7, uf8, uf9, uf10, uf11⟩ := all12 HS7.out.ho
      obtain ⟨v0, v1, v2, v3, v4, v5, v6, v7, v8, v9, v10, v11, vf0, vf1, vf2, vf3, vf4, vf5, vf6, vf7, vf8, vf9, vf10, vf11⟩ := all12 HS7.out.hr
      go_wp2_with fail
      have HF : Hid (Has (put12 W7 (w.heap.size + 1) (.int .i64 k) (.int .i64 (-(m + 1))) (.string ⟨#[]⟩) (.slice none 0 0) (.slice none 0 0) (.int .i64 0) (.string ⟨#[]⟩) (.slice none 0 0) (.int .i64 0) (.string ⟨#[]⟩) (.int .i64 0) (.bool false)) (w.heap.size + 1) 33 #[.int .i64 k, .int .i64 (-(m + 1)), .string ⟨#[]⟩, .slice none 0 0, .slice none 0 0, .int .i64 0, .string ⟨#[]⟩, .slice none 0 0, .int .i64 0, .string ⟨#[]⟩, .int .i64 0, .bool false]) := put12_has HS7.out.hr (.int .i64 k) (.int .i64 (-(m + 1))) (.string ⟨#[]⟩) (.slice none 0 0) (.slice none 0 0) (.int .i64 0) (.string ⟨#[]⟩) (.slice none 0 0) (.int .i64 0) (.string ⟨#[]⟩) (.int .i64 0) (.bool false)
      have ht : Tur [w.heap.size + 1] W7 (put12 W7 (w.heap.size + 1) (.int .i64 k) (.int .i64 (-(m + 1))) (.string ⟨#[]⟩) (.slice none 0 0) (.slice none 0 0) (.int .i64 0) (.string ⟨#[]⟩) (.slice none 0 0) (.int .i64 0) (.string ⟨#[]⟩) (.int .i64 0) (.bool false)) := put12_tur _ _ (.int .i64 k) (.int .i64 (-(m + 1))) (.string ⟨#[]⟩) (.slice none 0 0) (.slice none 0 0) (.int .i64 0) (.string ⟨#[]⟩) (.slice none 0 0) (.int .i64 0) (.string ⟨#[]⟩) (.int .i64 0) (.bool false)
      have hbe : Below w.heap.size w (put12 W7 (w.heap.size + 1) (.int .i64 k) (.int .i64 (-(m + 1))) (.string ⟨#[]⟩) (.slice none 0 0) (.slice none 0 0) (.int .i64 0) (.string ⟨#[]⟩) (.slice none 0 0) (.int .i64 0) (.string ⟨#[]⟩) (.int .i64 0) (.bool false)) := (Tur.of_below (X := [w.heap.size + 1]) HS7.out.bel).trans ht (Fre.refl _ _) |>.below (B := w.heap.size) (fun k hk => by simp at hk; omega) (Nat.le_refl _)
      refine bodyPost_ret (v := .agg #[.int .i64 k, .int .i64 (-(m + 1)), .string ⟨#[]⟩, .slice none 0 0, .slice none 0 0, .int .i64 0, .string ⟨#[]⟩, .slice none 0 0, .int .i64 0, .string ⟨#[]⟩, .int .i64 0, .bool false]) (evEnd (put12 W7 (w.heap.size + 1) (.int .i64 k) (.int .i64 (-(m + 1))) (.string ⟨#[]⟩) (.slice none 0 0) (.slice none 0 0) (.int .i64 0) (.string ⟨#[]⟩) (.slice none 0 0) (.int .i64 0) (.string ⟨#[]⟩) (.int .i64 0) (.bool false)) (w.heap.size + 1) (.int .i64 k) (.int .i64 (-(m + 1))) (.string ⟨#[]⟩) (.slice none 0 0) (.slice none 0 0) (.int .i64 0) (.string ⟨#[]⟩) (.slice none 0 0) (.int .i64 0) (.string ⟨#[]⟩) (.int .i64 0) (.bool false) _ rfl HF.out) rfl ?_
      exact ⟨⟨k, -(m + 1), ⟨#[]⟩, [], [], 0, ⟨#[]⟩, [], 0, ⟨⟨#[]⟩, 0, false⟩⟩, none, 0, 0, none, 0, 0, none, 0, 0, rfl, evw_row k (-(m + 1)) ⟨#[]⟩ [] [] none 0 0 none 0 0 (nilB _) (nilB _) (by omega) (by omega), hbe, small_no (by omega)⟩
     ·have u0 := HS5.out.ho.cell 0
      have u1 := HS5.out.ho.cell 1
      have u2 := HS5.out.ho.cell 2
      have u3 := HS5.out.ho.cell 3
      have u4 := HS5.out.ho.cell 4
      have u5 := HS5.out.ho.cell 5
      have u6 := HS5.out.ho.cell 6
      have u7 := HS5.out.ho.cell 7
      have u8 := HS5.out.ho.cell 8
      have u9 := HS5.out.ho.cell 9
      have u10 := HS5.out.ho.cell 10
      have u11 := HS5.out.ho.cell 11
      have uf0 := HS5.out.ho.free 0
      have uf1 := HS5.out.ho.free 1
      have uf2 := HS5.out.ho.free 2
      have uf3 := HS5.out.ho.free 3
      have uf4 := HS5.out.ho.free 4
      have uf5 := HS5.out.ho.free 5
      have uf6 := HS5.out.ho.free 6
      have uf7 := HS5.out.ho.free 7
      have uf8 := HS5.out.ho.free 8
      have uf9 := HS5.out.ho.free 9
      have uf10 := HS5.out.ho.free 10
      have uf11 := HS5.out.ho.free 11
      simp only [zG, zH, zI] at u0 u1 u2 u3 u4 u5 u6 u7 u8 u9 u10 u11
      obtain ⟨v0, v1, v2, v3, v4, v5, v6, v7, v8, v9, v10, v11, vf0, vf1, vf2, vf3, vf4, vf5, vf6, vf7, vf8, vf9, vf10, vf11⟩ := all12 HS5.out.hr
      go_wp2_with fail
      obtain ⟨HF, ht, hbe⟩ := rx12 HS5.out (.int .i64 k) (.int .i64 m) (.string ⟨#[]⟩) (.slice none 0 0) (.slice none 0 0) (.int .i64 0) (.string ⟨#[]⟩) (.slice none 0 0) (.int .i64 0) (.string ⟨#[]⟩) (.int .i64 0) (.bool false)
      refine bodyPost_ret (evEndH HF.out rfl) rfl ?_
      exact ⟨⟨k, m, ⟨#[]⟩, [], [], 0, ⟨#[]⟩, [], 0, ⟨⟨#[]⟩, 0, false⟩⟩, none, 0, 0, none, 0, 0, none, 0, 0, rfl, evw_row k (m) ⟨#[]⟩ [] [] none 0 0 none 0 0 (nilB _) (nilB _) (by omega) (by omega), hbe, small_no (by omega)⟩
    ·have g0 : ¬ (0 : Int) < (nt : Int) := by omega
     obtain ⟨W3z, hW3z⟩ : ∃ W, W = w2.alloc (.cells #[.slice none 0 0, .int .i64 0] 27) := ⟨_, rfl⟩
     have hsz2 : w.heap.size + 1 < w2.heap.size := Nat.lt_of_lt_of_le hsz1 hb2.out.size
     have HS3z := Lib.hid (su_new HE1.out HR1.out HB1.out hb2.out hsz2)
     rw [← hW3z] at HS3z
     replace hW3z := hW3z.symm
     obtain ⟨g, hg⟩ : ∃ g, w2.heap.size = g := ⟨_, rfl⟩
     rw [hg] at HS3z hsz2
     clear hb2 HFD HE1 HR1 HB1 u2 hw1
     have zz0 := HS3z.out.hs.cell 0
     have zz1 := HS3z.out.hs.cell 1
     have zzf0 := HS3z.out.hs.free 0
     have zzf1 := HS3z.out.hs.free 1
     simp only [zG, zH, zI] at zz0 zz1
     obtain ⟨W3, hW3⟩ : ∃ W, W = (W3z.setCell ⟨g, 0, none⟩ (.slice none 0 0)).setCell ⟨g, 1, none⟩ (.int .i64 0) := ⟨_, rfl⟩
     have HS3 := Lib.hid (HS3z.out.puts (.slice none 0 0) (.int .i64 0))
     rw [← hW3] at HS3
     replace hW3 := hW3.symm
     have x_e0 := HS3.out.he.cell 0
     have x_ef0 := HS3.out.he.free 0
     simp only [zG, zH, zI] at x_e0
     obtain ⟨W4z, hW4z⟩ : ∃ W, W = W3.alloc (.cells #[.int .i64 0, .int .i64 0, .string ⟨#[]⟩, .slice none 0 0, .slice none 0 0, .int .i64 0, .string ⟨#[]⟩, .slice none 0 0, .int .i64 0, .string ⟨#[]⟩, .int .i64 0, .bool false] 33) := ⟨_, rfl⟩
     have s4 := HS3.out.out #[.int .i64 0, .int .i64 0, .string ⟨#[]⟩, .slice none 0 0, .slice none 0 0, .int .i64 0, .string ⟨#[]⟩, .slice none 0 0, .int .i64 0, .string ⟨#[]⟩, .int .i64 0, .bool false]
     rw [← hW4z] at s4
     replace hW4z := hW4z.symm
     obtain ⟨q, hq⟩ : ∃ q, W3.heap.size = q := ⟨_, rfl⟩
     rw [hq] at s4
     have HS4z := Lib.hid s4
     obtain ⟨nz0, nz1, nz2, nz3, nz4, nz5, nz6, nz7, nz8, nz9, nz10, nz11, nzf0, nzf1, nzf2, nzf3, nzf4, nzf5, nzf6, nzf7, nzf8, nzf9, nzf10, nzf11⟩ := all12 HS4z.out.ho
     obtain ⟨W4, hW4⟩ : ∃ W, put12 W4z q (.int .i64 k) (.int .i64 0) (.string ⟨#[]⟩) (.slice none 0 0) (.slice none 0 0) (.int .i64 0) (.string ⟨#[]⟩) (.slice none 0 0) (.int .i64 0) (.string ⟨#[]⟩) (.int .i64 0) (.bool false) = W := ⟨_, rfl⟩
     have s4b := s4.put12 (.int .i64 k) (.int .i64 0) (.string ⟨#[]⟩) (.slice none 0 0) (.slice none 0 0) (.int .i64 0) (.string ⟨#[]⟩) (.slice none 0 0) (.int .i64 0) (.string ⟨#[]⟩) (.int .i64 0) (.bool false)
     rw [hW4] at s4b
     have HS4 := Lib.hid s4b
     have hW4' := hW4
     unfold put12 at hW4'
     clear s4 s4b hW4
     have hlo := HS4.out.lo
     have e0 := HS3.out.he.cell 0
     have ef0 := HS3.out.he.free 0
     simp only [zG, zH, zI] at e0
     have a0 := HS4.out.he.cell 0
     have a1 := HS4.out.he.cell 1
     have a2 := HS4.out.he.cell 2
     have af0 := HS4.out.he.free 0
     have af1 := HS4.out.he.free 1
     have af2 := HS4.out.he.free 2
     simp only [zG, zH, zI] at a0 a1 a2
     have b1 := HS4.out.ho.cell 1
     have bf1 := HS4.out.ho.free 1
     simp only [zG, zH, zI] at b1
     obtain ⟨W5, hW5⟩ : ∃ W, W = (W4.setCell ⟨q, 1, none⟩ (.int .i64 m)) := ⟨_, rfl⟩
     have HS5 : Hid (Sv w W5 g q #[.int .i64 k, .int .i64 m, .string t, .slice Ab nb zb, .slice Aa na za, .int .i64 ck, .string ct, .slice A n c, .int .i64 K, .string cn, .int .i64 cq, .bool cb] (.slice none 0 0) (.int .i64 0) #[.int .i64 k, .int .i64 m, .string ⟨#[]⟩, .slice none 0 0, .slice none 0 0, .int .i64 0, .string ⟨#[]⟩, .slice none 0 0, .int .i64 0, .string ⟨#[]⟩, .int .i64 0, .bool false]) := by rw [hW5]; exact (HS4.out.put 1 (.int .i64 m))
     replace hW5 := hW5.symm
     have c1 := HS5.out.ho.cell 1
     have cf1 := HS5.out.ho.free 1
     simp only [zG, zH, zI] at c1
     by_cases hm0 : m < 0
     ·obtain ⟨W7, hW7⟩ : ∃ W, W = (W5.setCell ⟨q, 1, none⟩ (.int .i64 (-(m + 1)))) := ⟨_, rfl⟩
      have HS7 : Hid (Sv w W7 g q #[.int .i64 k, .int .i64 m, .string t, .slice Ab nb zb, .slice Aa na za, .int .i64 ck, .string ct, .slice A n c, .int .i64 K, .string cn, .int .i64 cq, .bool cb] (.slice none 0 0) (.int .i64 0) #[.int .i64 k, .int .i64 (-(m + 1)), .string ⟨#[]⟩, .slice none 0 0, .slice none 0 0, .int .i64 0, .string ⟨#[]⟩, .slice none 0 0, .int .i64 0, .string ⟨#[]⟩, .int .i64 0, .bool false]) := by rw [hW7]; exact (HS5.out.put 1 (.int .i64 (-(m + 1))))
      replace hW7 := hW7.symm
      obtain ⟨u0, u1, u2, u3, u4, u5, u6, u7, u8, u9, u10, u11, uf0, uf1, uf2, uf3, uf4, uf5, uf6, uf7, uf8, uf9, uf10, uf11⟩ := all12 HS7.out.ho
      obtain ⟨v0, v1, v2, v3, v4, v5, v6, v7, v8, v9, v10, v11, vf0, vf1, vf2, vf3, vf4, vf5, vf6, vf7, vf8, vf9, vf10, vf11⟩ := all12 HS7.out.hr
      go_wp2_with fail
      have HF : Hid (Has (put12 W7 (w.heap.size + 1) (.int .i64 k) (.int .i64 (-(m + 1))) (.string ⟨#[]⟩) (.slice none 0 0) (.slice none 0 0) (.int .i64 0) (.string ⟨#[]⟩) (.slice none 0 0) (.int .i64 0) (.string ⟨#[]⟩) (.int .i64 0) (.bool false)) (w.heap.size + 1) 33 #[.int .i64 k, .int .i64 (-(m + 1)), .string ⟨#[]⟩, .slice none 0 0, .slice none 0 0, .int .i64 0, .string ⟨#[]⟩, .slice none 0 0, .int .i64 0, .string ⟨#[]⟩, .int .i64 0, .bool false]) := put12_has HS7.out.hr (.int .i64 k) (.int .i64 (-(m + 1))) (.string ⟨#[]⟩) (.slice none 0 0) (.slice none 0 0) (.int .i64 0) (.string ⟨#[]⟩) (.slice none 0 0) (.int .i64 0) (.string ⟨#[]⟩) (.int .i64 0) (.bool false)
      have ht : Tur [w.heap.size + 1] W7 (put12 W7 (w.heap.size + 1) (.int .i64 k) (.int .i64 (-(m + 1))) (.string ⟨#[]⟩) (.slice none 0 0) (.slice none 0 0) (.int .i64 0) (.string ⟨#[]⟩) (.slice none 0 0) (.int .i64 0) (.string ⟨#[]⟩) (.int .i64 0) (.bool false)) := put12_tur _ _ (.int .i64 k) (.int .i64 (-(m + 1))) (.string ⟨#[]⟩) (.slice none 0 0) (.slice none 0 0) (.int .i64 0) (.string ⟨#[]⟩) (.slice none 0 0) (.int .i64 0) (.string ⟨#[]⟩) (.int .i64 0) (.bool false)
      have hbe : Below w.heap.size w (put12 W7 (w.heap.size + 1) (.int .i64 k) (.int .i64 (-(m + 1))) (.string ⟨#[]⟩) (.slice none 0 0) (.slice none 0 0) (.int .i64 0) (.string ⟨#[]⟩) (.slice none 0 0) (.int .i64 0) (.string ⟨#[]⟩) (.int .i64 0) (.bool false)) := (Tur.of_below (X := [w.heap.size + 1]) HS7.out.bel).trans ht (Fre.refl _ _) |>.below (B := w.heap.size) (fun k hk => by simp at hk; omega) (Nat.le_refl _)
      refine bodyPost_ret (v := .agg #[.int .i64 k, .int .i64 (-(m + 1)), .string ⟨#[]⟩, .slice none 0 0, .slice none 0 0, .int .i64 0, .string ⟨#[]⟩, .slice none 0 0, .int .i64 0, .string ⟨#[]⟩, .int .i64 0, .bool false]) (evEnd (put12 W7 (w.heap.size + 1) (.int .i64 k) (.int .i64 (-(m + 1))) (.string ⟨#[]⟩) (.slice none 0 0) (.slice none 0 0) (.int .i64 0) (.string ⟨#[]⟩) (.slice none 0 0) (.int .i64 0) (.string ⟨#[]⟩) (.int .i64 0) (.bool false)) (w.heap.size + 1) (.int .i64 k) (.int .i64 (-(m + 1))) (.string ⟨#[]⟩) (.slice none 0 0) (.slice none 0 0) (.int .i64 0) (.string ⟨#[]⟩) (.slice none 0 0) (.int .i64 0) (.string ⟨#[]⟩) (.int .i64 0) (.bool false) _ rfl HF.out) rfl ?_
      exact ⟨⟨k, -(m + 1), ⟨#[]⟩, [], [], 0, ⟨#[]⟩, [], 0, ⟨⟨#[]⟩, 0, false⟩⟩, none, 0, 0, none, 0, 0, none, 0, 0, rfl, evw_row k (-(m + 1)) ⟨#[]⟩ [] [] none 0 0 none 0 0 (nilB _) (nilB _) (by omega) (by omega), hbe, small_no (by omega)⟩
     ·have u0 := HS5.out.ho.cell 0
      have u1 := HS5.out.ho.cell 1
      have u2 := HS5.out.ho.cell 2
      have u3 := HS5.out.ho.cell 3
      have u4 := HS5.out.ho.cell 4
      have u5 := HS5.out.ho.cell 5
      have u6 := HS5.out.ho.cell 6
      have u7 := HS5.out.ho.cell 7
      have u8 := HS5.out.ho.cell 8
      have u9 := HS5.out.ho.cell 9
      have u10 := HS5.out.ho.cell 10
      have u11 := HS5.out.ho.cell 11
      have uf0 := HS5.out.ho.free 0
      have uf1 := HS5.out.ho.free 1
      have uf2 := HS5.out.ho.free 2
      have uf3 := HS5.out.ho.free 3
      have uf4 := HS5.out.ho.free 4
      have uf5 := HS5.out.ho.free 5
      have uf6 := HS5.out.ho.free 6
      have uf7 := HS5.out.ho.free 7
      have uf8 := HS5.out.ho.free 8
      have uf9 := HS5.out.ho.free 9
      have uf10 := HS5.out.ho.free 10
      have uf11 := HS5.out.ho.free 11
      simp only [zG, zH, zI] at u0 u1 u2 u3 u4 u5 u6 u7 u8 u9 u10 u11
      obtain ⟨v0, v1, v2, v3, v4, v5, v6, v7, v8, v9, v10, v11, vf0, vf1, vf2, vf3, vf4, vf5, vf6, vf7, vf8, vf9, vf10, vf11⟩ := all12 HS5.out.hr
      go_wp2_with fail
      obtain ⟨HF, ht, hbe⟩ := rx12 HS5.out (.int .i64 k) (.int .i64 m) (.string ⟨#[]⟩) (.slice none 0 0) (.slice none 0 0) (.int .i64 0) (.string ⟨#[]⟩) (.slice none 0 0) (.int .i64 0) (.string ⟨#[]⟩) (.int .i64 0) (.bool false)
      refine bodyPost_ret (evEndH HF.out rfl) rfl ?_
      exact ⟨⟨k, m, ⟨#[]⟩, [], [], 0, ⟨#[]⟩, [], 0, ⟨⟨#[]⟩, 0, false⟩⟩, none, 0, 0, none, 0, 0, none, 0, 0, rfl, evw_row k (m) ⟨#[]⟩ [] [] none 0 0 none 0 0 (nilB _) (nilB _) (by omega) (by omega), hbe, small_no (by omega)⟩
   ·have q3b : (3 : Int) ≤ k := by omega
    have q3c : ¬ k ≤ 5 := by omega
    go_enter Tryz.func7, Tryz.ntmps7
    go_wp2_with fail
    refine HFD.out.mono ?_
    rintro e w2 ⟨rfl, hb2⟩
    rw [tfV_no HTT.out.sort hp]
    by_cases hnt : 0 < nt
    ·have g0 : (0 : Int) < (nt : Int) := by omega
     obtain ⟨W3z, hW3z⟩ : ∃ W, W = w2.alloc (.cells #[.slice none 0 0, .int .i64 0] 27) := ⟨_, rfl⟩
     have hsz2 : w.heap.size + 1 < w2.heap.size := Nat.lt_of_lt_of_le hsz1 hb2.out.size
     have HS3z := Lib.hid (su_new HE1.out HR1.out HB1.out hb2.out hsz2)
     rw [← hW3z] at HS3z
     replace hW3z := hW3z.symm
     obtain ⟨g, hg⟩ : ∃ g, w2.heap.size = g := ⟨_, rfl⟩
     rw [hg] at HS3z hsz2
     clear hb2 HFD HE1 HR1 HB1 u2 hw1
     have zz0 := HS3z.out.hs.cell 0
     have zz1 := HS3z.out.hs.cell 1
     have zzf0 := HS3z.out.hs.free 0
     have zzf1 := HS3z.out.hs.free 1
     simp only [zG, zH, zI] at zz0 zz1
     obtain ⟨W3, hW3⟩ : ∃ W, W = (W3z.setCell ⟨g, 0, none⟩ (.slice none 0 0)).setCell ⟨g, 1, none⟩ (.int .i64 0) := ⟨_, rfl⟩
     have HS3 := Lib.hid (HS3z.out.puts (.slice none 0 0) (.int .i64 0))
     rw [← hW3] at HS3
     replace hW3 := hW3.symm
     have x_e0 := HS3.out.he.cell 0
     have x_ef0 := HS3.out.he.free 0
     simp only [zG, zH, zI] at x_e0
     obtain ⟨W4z, hW4z⟩ : ∃ W, W = W3.alloc (.cells #[.int .i64 0, .int .i64 0, .string ⟨#[]⟩, .slice none 0 0, .slice none 0 0, .int .i64 0, .string ⟨#[]⟩, .slice none 0 0, .int .i64 0, .string ⟨#[]⟩, .int .i64 0, .bool false] 33) := ⟨_, rfl⟩
     have s4 := HS3.out.out #[.int .i64 0, .int .i64 0, .string ⟨#[]⟩, .slice none 0 0, .slice none 0 0, .int .i64 0, .string ⟨#[]⟩, .slice none 0 0, .int .i64 0, .string ⟨#[]⟩, .int .i64 0, .bool false]
     rw [← hW4z] at s4
     replace hW4z := hW4z.symm
     obtain ⟨q, hq⟩ : ∃ q, W3.heap.size = q := ⟨_, rfl⟩
     rw [hq] at s4
     have HS4z := Lib.hid s4
     obtain ⟨nz0, nz1, nz2, nz3, nz4, nz5, nz6, nz7, nz8, nz9, nz10, nz11, nzf0, nzf1, nzf2, nzf3, nzf4, nzf5, nzf6, nzf7, nzf8, nzf9, nzf10, nzf11⟩ := all12 HS4z.out.ho
     obtain ⟨W4, hW4⟩ : ∃ W, put12 W4z q (.int .i64 k) (.int .i64 0) (.string ⟨#[]⟩) (.slice none 0 0) (.slice none 0 0) (.int .i64 0) (.string ⟨#[]⟩) (.slice none 0 0) (.int .i64 0) (.string ⟨#[]⟩) (.int .i64 0) (.bool false) = W := ⟨_, rfl⟩
     have s4b := s4.put12 (.int .i64 k) (.int .i64 0) (.string ⟨#[]⟩) (.slice none 0 0) (.slice none 0 0) (.int .i64 0) (.string ⟨#[]⟩) (.slice none 0 0) (.int .i64 0) (.string ⟨#[]⟩) (.int .i64 0) (.bool false)
     rw [hW4] at s4b
     have HS4 := Lib.hid s4b
     have hW4' := hW4
     unfold put12 at hW4'
     clear s4 s4b hW4
     have hlo := HS4.out.lo
     have e0 := HS3.out.he.cell 0
     have ef0 := HS3.out.he.free 0
     simp only [zG, zH, zI] at e0
     have a0 := HS4.out.he.cell 0
     have a1 := HS4.out.he.cell 1
     have a2 := HS4.out.he.cell 2
     have af0 := HS4.out.he.free 0
     have af1 := HS4.out.he.free 1
     have af2 := HS4.out.he.free 2
     simp only [zG, zH, zI] at a0 a1 a2
     have b1 := HS4.out.ho.cell 1
     have bf1 := HS4.out.ho.free 1
     simp only [zG, zH, zI] at b1
     obtain ⟨W5, hW5⟩ : ∃ W, W = (W4.setCell ⟨q, 1, none⟩ (.int .i64 m)) := ⟨_, rfl⟩
     have HS5 : Hid (Sv w W5 g q #[.int .i64 k, .int .i64 m, .string t, .slice Ab nb zb, .slice Aa na za, .int .i64 ck, .string ct, .slice A n c, .int .i64 K, .string cn, .int .i64 cq, .bool cb] (.slice none 0 0) (.int .i64 0) #[.int .i64 k, .int .i64 m, .string ⟨#[]⟩, .slice none 0 0, .slice none 0 0, .int .i64 0, .string ⟨#[]⟩, .slice none 0 0, .int .i64 0, .string ⟨#[]⟩, .int .i64 0, .bool false]) := by rw [hW5]; exact (HS4.out.put 1 (.int .i64 m))
     replace hW5 := hW5.symm
     have c1 := HS5.out.ho.cell 1
     have cf1 := HS5.out.ho.free 1
     simp only [zG, zH, zI] at c1
     by_cases hm0 : m < 0
     ·obtain ⟨W7, hW7⟩ : ∃ W, W = (W5.setCell ⟨q, 1, none⟩ (.int .i64 (-(m + 1)))) := ⟨_, rfl⟩
      have HS7 : Hid (Sv w W7 g q #[.int .i64 k, .int .i64 m, .string t, .slice Ab nb zb, .slice Aa na za, .int .i64 ck, .string ct, .slice A n c, .int .i64 K, .string cn, .int .i64 cq, .bool cb] (.slice none 0 0) (.int .i64 0) #[.int .i64 k, .int .i64 (-(m + 1)), .string ⟨#[]⟩, .slice none 0 0, .slice none 0 0, .int .i64 0, .string ⟨#[]⟩, .slice none 0 0, .int .i64 0, .string ⟨#[]⟩, .int .i64 0, .bool false]) := by rw [hW7]; exact (HS5.out.put 1 (.int .i64 (-(m + 1))))
      replace hW7 := hW7.symm
      obtain ⟨u0, u1, u2, u3, u4, u5, u6, u7, u8, u9, u10, u11, uf0, uf1, uf2, uf3, uf4, uf5, uf6, uf7, uf8, uf9, uf10, uf11⟩ := all12 HS7.out.ho
      obtain ⟨v0, v1, v2, v3, v4, v5, v6, v7, v8, v9, v10, v11, vf0, vf1, vf2, vf3, vf4, vf5, vf6, vf7, vf8, vf9, vf10, vf11⟩ := all12 HS7.out.hr
      go_wp2_with fail
      have HF : Hid (Has (put12 W7 (w.heap.size + 1) (.int .i64 k) (.int .i64 (-(m + 1))) (.string ⟨#[]⟩) (.slice none 0 0) (.slice none 0 0) (.int .i64 0) (.string ⟨#[]⟩) (.slice none 0 0) (.int .i64 0) (.string ⟨#[]⟩) (.int .i64 0) (.bool false)) (w.heap.size + 1) 33 #[.int .i64 k, .int .i64 (-(m + 1)), .string ⟨#[]⟩, .slice none 0 0, .slice none 0 0, .int .i64 0, .string ⟨#[]⟩, .slice none 0 0, .int .i64 0, .string ⟨#[]⟩, .int .i64 0, .bool false]) := put12_has HS7.out.hr (.int .i64 k) (.int .i64 (-(m + 1))) (.string ⟨#[]⟩) (.slice none 0 0) (.slice none 0 0) (.int .i64 0) (.string ⟨#[]⟩) (.slice none 0 0) (.int .i64 0) (.string ⟨#[]⟩) (.int .i64 0) (.bool false)
      have ht : Tur [w.heap.size + 1] W7 (put12 W7 (w.heap.size + 1) (.int .i64 k) (.int .i64 (-(m + 1))) (.string ⟨#[]⟩) (.slice none 0 0) (.slice none 0 0) (.int .i64 0) (.string ⟨#[]⟩) (.slice none 0 0) (.int .i64 0) (.string ⟨#[]⟩) (.int .i64 0) (.bool false)) := put12_tur _ _ (.int .i64 k) (.int .i64 (-(m + 1))) (.string ⟨#[]⟩) (.slice none 0 0) (.slice none 0 0) (.int .i64 0) (.string ⟨#[]⟩) (.slice none 0 0) (.int .i64 0) (.string ⟨#[]⟩) (.int .i64 0) (.bool false)
      have hbe : Below w.heap.size w (put12 W7 (w.heap.size + 1) (.int .i64 k) (.int .i64 (-(m + 1))) (.string ⟨#[]⟩) (.slice none 0 0) (.slice none 0 0) (.int .i64 0) (.string ⟨#[]⟩) (.slice none 0 0) (.int .i64 0) (.string ⟨#[]⟩) (.int .i64 0) (.bool false)) := (Tur.of_below (X := [w.heap.size + 1]) HS7.out.bel).trans ht (Fre.refl _ _) |>.below (B := w.heap.size) (fun k hk => by simp at hk; omega) (Nat.le_refl _)
      refine bodyPost_ret (v := .agg #[.int .i64 k, .int .i64 (-(m + 1)), .string ⟨#[]⟩, .slice none 0 0, .slice none 0 0, .int .i64 0, .string ⟨#[]⟩, .slice none 0 0, .int .i64 0, .string ⟨#[]⟩, .int .i64 0, .bool false]) (evEnd (put12 W7 (w.heap.size + 1) (.int .i64 k) (.int .i64 (-(m + 1))) (.string ⟨#[]⟩) (.slice none 0 0) (.slice none 0 0) (.int .i64 0) (.string ⟨#[]⟩) (.slice none 0 0) (.int .i64 0) (.string ⟨#[]⟩) (.int .i64 0) (.bool false)) (w.heap.size + 1) (.int .i64 k) (.int .i64 (-(m + 1))) (.string ⟨#[]⟩) (.slice none 0 0) (.slice none 0 0) (.int .i64 0) (.string ⟨#[]⟩) (.slice none 0 0) (.int .i64 0) (.string ⟨#[]⟩) (.int .i64 0) (.bool false) _ rfl HF.out) rfl ?_
      exact ⟨⟨k, -(m + 1), ⟨#[]⟩, [], [], 0, ⟨#[]⟩, [], 0, ⟨⟨#[]⟩, 0, false⟩⟩, none, 0, 0, none, 0, 0, none, 0, 0, rfl, evw_row k (-(m + 1)) ⟨#[]⟩ [] [] none 0 0 none 0 0 (nilB _) (nilB _) (by omega) (by omega), hbe, small_no (by omega)⟩
     ·have u0 := HS5.out.ho.cell 0
      have u1 := HS5.out.ho.cell 1
      have u2 := HS5.out.ho.cell 2
      have u3 := HS5.out.ho.cell 3
      have u4 := HS5.out.ho.cell 4
      have u5 := HS5.out.ho.cell 5
      have u6 := HS5.out.ho.cell 6
      have u7 := HS5.out.ho.cell 7
      have u8 := HS5.out.ho.cell 8
      have u9 := HS5.out.ho.cell 9
      have u10 := HS5.out.ho.cell 10
      have u11 := HS5.out.ho.cell 11
      have uf0 := HS5.out.ho.free 0
      have uf1 := HS5.out.ho.free 1
      have uf2 := HS5.out.ho.free 2
      have uf3 := HS5.out.ho.free 3
      have uf4 := HS5.out.ho.free 4
      have uf5 := HS5.out.ho.free 5
      have uf6 := HS5.out.ho.free 6
      have uf7 := HS5.out.ho.free 7
      have uf8 := HS5.out.ho.free 8
      have uf9 := HS5.out.ho.free 9
      have uf10 := HS5.out.ho.free 10
      have uf11 := HS5.out.ho.free 11
      simp only [zG, zH, zI] at u0 u1 u2 u3 u4 u5 u6 u7 u8 u9 u10 u11
      obtain ⟨v0, v1, v2, v3, v4, v5, v6, v7, v8, v9, v10, v11, vf0, vf1, vf2, vf3, vf4, vf5, vf6, vf7, vf8, vf9, vf10, vf11⟩ := all12 HS5.out.hr
      go_wp2_with fail
      obtain ⟨HF, ht, hbe⟩ := rx12 HS5.out (.int .i64 k) (.int .i64 m) (.string ⟨#[]⟩) (.slice none 0 0) (.slice none 0 0) (.int .i64 0) (.string ⟨#[]⟩) (.slice none 0 0) (.int .i64 0) (.string ⟨#[]⟩) (.int .i64 0) (.bool false)
      refine bodyPost_ret (evEndH HF.out rfl) rfl ?_
      exact ⟨⟨k, m, ⟨#[]⟩, [], [], 0, ⟨#[]⟩, [], 0, ⟨⟨#[]⟩, 0, false⟩⟩, none, 0, 0, none, 0, 0, none, 0, 0, rfl, evw_row k (m) ⟨#[]⟩ [] [] none 0 0 none 0 0 (nilB _) (nilB _) (by omega) (by omega), hbe, small_no (by omega)⟩
    ·have g0 : ¬ (0 : Int) < (nt : Int) := by omega
     obtain ⟨W3z, hW3z⟩ : ∃ W, W = w2.alloc (.cells #[.slice none 0 0, .int .i64 0] 27) := ⟨_, rfl⟩
     have hsz2 : w.heap.size + 1 < w2.heap.size := Nat.lt_of_lt_of_le hsz1 hb2.out.size
     have HS3z := Lib.hid (su_new HE1.out HR1.out HB1.out hb2.out hsz2)
     rw [← hW3z] at HS3z
     replace hW3z := hW3z.symm
     obtain ⟨g, hg⟩ : ∃ g, w2.heap.size = g := ⟨_, rfl⟩
     rw [hg] at HS3z hsz2
     clear hb2 HFD HE1 HR1 HB1 u2 hw1
     have zz0 := HS3z.out.hs.cell 0
     have zz1 := HS3z.out.hs.cell 1
     have zzf0 := HS3z.out.hs.free 0
     have zzf1 := HS3z.out.hs.free 1
     simp only [zG, zH, zI] at zz0 zz1
     obtain ⟨W3, hW3⟩ : ∃ W, W = (W3z.setCell ⟨g, 0, none⟩ (.slice none 0 0)).setCell ⟨g, 1, none⟩ (.int .i64 0) := ⟨_, rfl⟩
     have HS3 := Lib.hid (HS3z.out.puts (.slice none 0 0) (.int .i64 0))
     rw [← hW3] at HS3
     replace hW3 := hW3.symm
     have x_e0 := HS3.out.he.cell 0
     have x_ef0 := HS3.out.he.free 0
     simp only [zG, zH, zI] at x_e0
     obtain ⟨W4z, hW4z⟩ : ∃ W, W = W3.alloc (.cells #[.int .i64 0, .int .i64 0, .string ⟨#[]⟩, .slice none 0 0, .slice none 0 0, .int .i64 0, .string ⟨#[]⟩, .slice none 0 0, .int .i64 0, .string ⟨#[]⟩, .int .i64 0, .bool false] 33) := ⟨_, rfl⟩
     have s4 := HS3.out.out #[.int .i64 0, .int .i64 0, .string ⟨#[]⟩, .slice none 0 0, .slice none 0 0, .int .i64 0, .string ⟨#[]⟩, .slice none 0 0, .int .i64 0, .string ⟨#[]⟩, .int .i64 0, .bool false]
     rw [← hW4z] at s4
     replace hW4z := hW4z.symm
     obtain ⟨q, hq⟩ : ∃ q, W3.heap.size = q := ⟨_, rfl⟩
     rw [hq] at s4
     have HS4z := Lib.hid s4
     obtain ⟨nz0, nz1, nz2, nz3, nz4, nz5, nz6, nz7, nz8, nz9, nz10, nz11, nzf0, nzf1, nzf2, nzf3, nzf4, nzf5, nzf6, nzf7, nzf8, nzf9, nzf10, nzf11⟩ := all12 HS4z.out.ho
     obtain ⟨W4, hW4⟩ : ∃ W, put12 W4z q (.int .i64 k) (.int .i64 0) (.string ⟨#[]⟩) (.slice none 0 0) (.slice none 0 0) (.int .i64 0) (.string ⟨#[]⟩) (.slice none 0 0) (.int .i64 0) (.string ⟨#[]⟩) (.int .i64 0) (.bool false) = W := ⟨_, rfl⟩
     have s4b := s4.put12 (.int .i64 k) (.int .i64 0) (.string ⟨#[]⟩) (.slice none 0 0) (.slice none 0 0) (.int .i64 0) (.string ⟨#[]⟩) (.slice none 0 0) (.int .i64 0) (.string ⟨#[]⟩) (.int .i64 0) (.bool false)
     rw [hW4] at s4b
     have HS4 := Lib.hid s4b
     have hW4' := hW4
     unfold put12 at hW4'
     clear s4 s4b hW4
     have hlo := HS4.out.lo
     have e0 := HS3.out.he.cell 0
     have ef0 := HS3.out.he.free 0
     simp only [zG, zH, zI] at e0
     have a0 := HS4.out.he.cell 0
     have a1 := HS4.out.he.cell 1
     have a2 := HS4.out.he.cell 2
     have af0 := HS4.out.he.free 0
     have af1 := HS4.out.he.free 1
     have af2 := HS4.out.he.free 2
     simp only [zG, zH, zI] at a0 a1 a2
     have b1 := HS4.out.ho.cell 1
     have bf1 := HS4.out.ho.free 1
     simp only [zG, zH, zI] at b1
     obtain ⟨W5, hW5⟩ : ∃ W, W = (W4.setCell ⟨q, 1, none⟩ (.int .i64 m)) := ⟨_, rfl⟩
     have HS5 : Hid (Sv w W5 g q #[.int .i64 k, .int .i64 m, .string t, .slice Ab nb zb, .slice Aa na za, .int .i64 ck, .string ct, .slice A n c, .int .i64 K, .string cn, .int .i64 cq, .bool cb] (.slice none 0 0) (.int .i64 0) #[.int .i64 k, .int .i64 m, .string ⟨#[]⟩, .slice none 0 0, .slice none 0 0, .int .i64 0, .string ⟨#[]⟩, .slice none 0 0, .int .i64 0, .string ⟨#[]⟩, .int .i64 0, .bool false]) := by rw [hW5]; exact (HS4.out.put 1 (.int .i64 m))
     replace hW5 := hW5.symm
     have c1 := HS5.out.ho.cell 1
     have cf1 := HS5.out.ho.free 1
     simp only [zG, zH, zI] at c1
     by_cases hm0 : m < 0
     ·obtain ⟨W7, hW7⟩ : ∃ W, W = (W5.setCell ⟨q, 1, none⟩ (.int .i64 (-(m + 1)))) := ⟨_, rfl⟩
      have HS7 : Hid (Sv w W7 g q #[.int .i64 k, .int .i64 m, .string t, .slice Ab nb zb, .slice Aa na za, .int .i64 ck, .string ct, .slice A n c, .int .i64 K, .string cn, .int .i64 cq, .bool cb] (.slice none 0 0) (.int .i64 0) #[.int .i64 k, .int .i64 (-(m + 1)), .string ⟨#[]⟩, .slice none 0 0, .slice none 0 0, .int .i64 0, .string ⟨#[]⟩, .slice none 0 0, .int .i64 0, .string ⟨#[]⟩, .int .i64 0, .bool false]) := by rw [hW7]; exact (HS5.out.put 1 (.int .i64 (-(m + 1))))
      replace hW7 := hW7.symm
      obtain ⟨u0, u1, u2, u3, u4, u5, u6, u7, u8, u9, u10, u11, uf0, uf1, uf2, uf3, uf4, uf5, uf6, uf7, uf8, uf9, uf10, uf11⟩ := all12 HS7.out.ho
      obtain ⟨v0, v1, v2, v3, v4, v5, v6, v7, v8, v9, v10, v11, vf0, vf1, vf2, vf3, vf4, vf5, vf6, vf7, vf8, vf9, vf10, vf11⟩ := all12 HS7.out.hr
      go_wp2_with fail
      have HF : Hid (Has (put12 W7 (w.heap.size + 1) (.int .i64 k) (.int .i64 (-(m + 1))) (.string ⟨#[]⟩) (.slice none 0 0) (.slice none 0 0) (.int .i64 0) (.string ⟨#[]⟩) (.slice none 0 0) (.int .i64 0) (.string ⟨#[]⟩) (.int .i64 0) (.bool false)) (w.heap.size + 1) 33 #[.int .i64 k, .int .i64 (-(m + 1)), .string ⟨#[]⟩, .slice none 0 0, .slice none 0 0, .int .i64 0, .string ⟨#[]⟩, .slice none 0 0, .int .i64 0, .string ⟨#[]⟩, .int .i64 0, .bool false]) := put12_has HS7.out.hr (.int .i64 k) (.int .i64 (-(m + 1))) (.string ⟨#[]⟩) (.slice none 0 0) (.slice none 0 0) (.int .i64 0) (.string ⟨#[]⟩) (.slice none 0 0) (.int .i64 0) (.string ⟨#[]⟩) (.int .i64 0) (.bool false)
      have ht : Tur [w.heap.size + 1] W7 (put12 W7 (w.heap.size + 1) (.int .i64 k) (.int .i64 (-(m + 1))) (.string ⟨#[]⟩) (.slice none 0 0) (.slice none 0 0) (.int .i64 0) (.string ⟨#[]⟩) (.slice none 0 0) (.int .i64 0) (.string ⟨#[]⟩) (.int .i64 0) (.bool false)) := put12_tur _ _ (.int .i64 k) (.int .i64 (-(m + 1))) (.string ⟨#[]⟩) (.slice none 0 0) (.slice none 0 0) (.int .i64 0) (.string ⟨#[]⟩) (.slice none 0 0) (.int .i64 0) (.string ⟨#[]⟩) (.int .i64 0) (.bool false)
      have hbe : Below w.heap.size w (put12 W7 (w.heap.size + 1) (.int .i64 k) (.int .i64 (-(m + 1))) (.string ⟨#[]⟩) (.slice none 0 0) (.slice none 0 0) (.int .i64 0) (.string ⟨#[]⟩) (.slice none 0 0) (.int .i64 0) (.string ⟨#[]⟩) (.int .i64 0) (.bool false)) := (Tur.of_below (X := [w.heap.size + 1]) HS7.out.bel).trans ht (Fre.refl _ _) |>.below (B := w.heap.size) (fun k hk => by simp at hk; omega) (Nat.le_refl _)
      refine bodyPost_ret (v := .agg #[.int .i64 k, .int .i64 (-(m + 1)), .string ⟨#[]⟩, .slice none 0 0, .slice none 0 0, .int .i64 0, .string ⟨#[]⟩, .slice none 0 0, .int .i64 0, .string ⟨#[]⟩, .int .i64 0, .bool false]) (evEnd (put12 W7 (w.heap.size + 1) (.int .i64 k) (.int .i64 (-(m + 1))) (.string ⟨#[]⟩) (.slice none 0 0) (.slice none 0 0) (.int .i64 0) (.string ⟨#[]⟩) (.slice none 0 0) (.int .i64 0) (.string ⟨#[]⟩) (.int .i64 0) (.bool false)) (w.heap.size + 1) (.int .i64 k) (.int .i64 (-(m + 1))) (.string ⟨#[]⟩) (.slice none 0 0) (.slice none 0 0) (.int .i64 0) (.string ⟨#[]⟩) (.slice none 0 0) (.int .i64 0) (.string ⟨#[]⟩) (.int .i64 0) (.bool false) _ rfl HF.out) rfl ?_
      exact ⟨⟨k, -(m + 1), ⟨#[]⟩, [], [], 0, ⟨#[]⟩, [], 0, ⟨⟨#[]⟩, 0, false⟩⟩, none, 0, 0, none, 0, 0, none, 0, 0, rfl, evw_row k (-(m + 1)) ⟨#[]⟩ [] [] none 0 0 none 0 0 (nilB _) (nilB _) (by omega) (by omega), hbe, small_no (by omega)⟩
     ·have u0 := HS5.out.ho.cell 0
      have u1 := HS5.out.ho.cell 1
      have u2 := HS5.out.ho.cell 2
      have u3 := HS5.out.ho.cell 3
      have u4 := HS5.out.ho.cell 4
      have u5 := HS5.out.ho.cell 5
      have u6 := HS5.out.ho.cell 6
      have u7 := HS5.out.ho.cell 7
      have u8 := HS5.out.ho.cell 8
      have u9 := HS5.out.ho.cell 9
      have u10 := HS5.out.ho.cell 10
      have u11 := HS5.out.ho.cell 11
      have uf0 := HS5.out.ho.free 0
      have uf1 := HS5.out.ho.free 1
      have uf2 := HS5.out.ho.free 2
      have uf3 := HS5.out.ho.free 3
      have uf4 := HS5.out.ho.free 4
      have uf5 := HS5.out.ho.free 5
      have uf6 := HS5.out.ho.free 6
      have uf7 := HS5.out.ho.free 7
      have uf8 := HS5.out.ho.free 8
      have uf9 := HS5.out.ho.free 9
      have uf10 := HS5.out.ho.free 10
      have uf11 := HS5.out.ho.free 11
      simp only [zG, zH, zI] at u0 u1 u2 u3 u4 u5 u6 u7 u8 u9 u10 u11
      obtain ⟨v0, v1, v2, v3, v4, v5, v6, v7, v8, v9, v10, v11, vf0, vf1, vf2, vf3, vf4, vf5, vf6, vf7, vf8, vf9, vf10, vf11⟩ := all12 HS5.out.hr
      go_wp2_with fail
      obtain ⟨HF, ht, hbe⟩ := rx12 HS5.out (.int .i64 k) (.int .i64 m) (.string ⟨#[]⟩) (.slice none 0 0) (.slice none 0 0) (.int .i64 0) (.string ⟨#[]⟩) (.slice none 0 0) (.int .i64 0) (.string ⟨#[]⟩) (.int .i64 0) (.bool false)
      refine bodyPost_ret (evEndH HF.out rfl) rfl ?_
      exact ⟨⟨k, m, ⟨#[]⟩, [], [], 0, ⟨#[]⟩, [], 0, ⟨⟨#[]⟩, 0, false⟩⟩, none, 0, 0, none, 0, 0, none, 0, 0, rfl, evw_row k (m) ⟨#[]⟩ [] [] none 0 0 none 0 0 (nilB _) (nilB _) (by omega) (by omega), hbe, small_no (by omega)⟩
  ·obtain ⟨hl, _⟩ := plF_tat hp
   go_enter Tryz.func7, Tryz.ntmps7
   go_wp2_with fail
   refine HFD.out.mono ?_
   rintro e w2 ⟨rfl, hb2⟩
   rw [tfV_yes hp hl]
   obtain ⟨y, hy⟩ : ∃ y, T[lbN T t] = y := ⟨_, rfl⟩
   have hyT : y ∈ T := hy ▸ List.getElem_mem hl
   rw [hy]
   clear hy
   obtain ⟨kk, hK, hgs⟩ := HGS.out y hyT
   have hok := HTT.out.ok y hyT
   obtain ⟨ynm, yA, yn, yc, yL, yK⟩ := y
   dsimp only at hK hgs hok ⊢
   subst hK
   obtain ⟨W3, hW3⟩ : ∃ W, W = w2.alloc (.cells #[.slice yA yn yc, .int .i64 (kk : Int)] 27) := ⟨_, rfl⟩
   have hsz2 : w.heap.size + 1 < w2.heap.size := Nat.lt_of_lt_of_le hsz1 hb2.out.size
   have HS3 : Hid (Su w W3 w2.heap.size #[.int .i64 k, .int .i64 m, .string t, .slice Ab nb zb, .slice Aa na za, .int .i64 ck, .string ct, .slice A n c, .int .i64 K, .string cn, .int .i64 cq, .bool cb] (.slice yA yn yc) (.int .i64 (kk : Int))) := by
    rw [hW3]
    exact ⟨(HE1.out.below hb2.out HE1.out.lt).alloc _, (HR1.out.below hb2.out HR1.out.lt).alloc _, Has.new _ _ _, (HB1.out.trans (hb2.out.mono HB1.out.size)).alloc (HB1.out.trans (hb2.out.mono HB1.out.size)).size _, hsz2⟩
   replace hW3 := hW3.symm
   obtain ⟨g, hg⟩ : ∃ g, w2.heap.size = g := ⟨_, rfl⟩
   rw [hg] at HS3 hsz2
   clear hb2 HFD HE1 HR1 HB1 u2 hw1
   obtain ⟨W4z, hW4z⟩ : ∃ W, W = W3.alloc (.cells #[.int .i64 0, .int .i64 0, .string ⟨#[]⟩, .slice none 0 0, .slice none 0 0, .int .i64 0, .string ⟨#[]⟩, .slice none 0 0, .int .i64 0, .string ⟨#[]⟩, .int .i64 0, .bool false] 33) := ⟨_, rfl⟩
   have s4 := HS3.out.out #[.int .i64 0, .int .i64 0, .string ⟨#[]⟩, .slice none 0 0, .slice none 0 0, .int .i64 0, .string ⟨#[]⟩, .slice none 0 0, .int .i64 0, .string ⟨#[]⟩, .int .i64 0, .bool false]
   rw [← hW4z] at s4
   replace hW4z := hW4z.symm
   obtain ⟨q, hq⟩ : ∃ q, W3.heap.size = q := ⟨_, rfl⟩
   rw [hq] at s4
   have HS4z := Lib.hid s4
   obtain ⟨nz0, nz1, nz2, nz3, nz4, nz5, nz6, nz7, nz8, nz9, nz10, nz11, nzf0, nzf1, nzf2, nzf3, nzf4, nzf5, nzf6, nzf7, nzf8, nzf9, nzf10, nzf11⟩ := all12 HS4z.out.ho
   obtain ⟨W4, hW4⟩ : ∃ W, put12 W4z q (.int .i64 k) (.int .i64 0) (.string ⟨#[]⟩) (.slice none 0 0) (.slice none 0 0) (.int .i64 0) (.string ⟨#[]⟩) (.slice none 0 0) (.int .i64 0) (.string ⟨#[]⟩) (.int .i64 0) (.bool false) = W := ⟨_, rfl⟩
   have s4b := s4.put12 (.int .i64 k) (.int .i64 0) (.string ⟨#[]⟩) (.slice none 0 0) (.slice none 0 0) (.int .i64 0) (.string ⟨#[]⟩) (.slice none 0 0) (.int .i64 0) (.string ⟨#[]⟩) (.int .i64 0) (.bool false)
   rw [hW4] at s4b
   have HS4 := Lib.hid s4b
   have hW4' := hW4
   unfold put12 at hW4'
   clear s4 s4b hW4
   have hlo := HS4.out.lo
   have e0 := HS3.out.he.cell 0
   have ef0 := HS3.out.he.free 0
   simp only [zG, zH, zI] at e0
   have a0 := HS4.out.he.cell 0
   have a1 := HS4.out.he.cell 1
   have a2 := HS4.out.he.cell 2
   have af0 := HS4.out.he.free 0
   have af1 := HS4.out.he.free 1
   have af2 := HS4.out.he.free 2
   simp only [zG, zH, zI] at a0 a1 a2
   have b1 := HS4.out.ho.cell 1
   have bf1 := HS4.out.ho.free 1
   simp only [zG, zH, zI] at b1
   obtain ⟨W5, hW5⟩ : ∃ W, W = (W4.setCell ⟨q, 1, none⟩ (.int .i64 m)) := ⟨_, rfl⟩
   have HS5 : Hid (Sv w W5 g q #[.int .i64 k, .int .i64 m, .string t, .slice Ab nb zb, .slice Aa na za, .int .i64 ck, .string ct, .slice A n c, .int .i64 K, .string cn, .int .i64 cq, .bool cb] (.slice yA yn yc) (.int .i64 (kk : Int)) #[.int .i64 k, .int .i64 m, .string ⟨#[]⟩, .slice none 0 0, .slice none 0 0, .int .i64 0, .string ⟨#[]⟩, .slice none 0 0, .int .i64 0, .string ⟨#[]⟩, .int .i64 0, .bool false]) := by rw [hW5]; exact (HS4.out.put 1 (.int .i64 m))
   replace hW5 := hW5.symm
   have c1 := HS5.out.ho.cell 1
   have cf1 := HS5.out.ho.free 1
   simp only [zG, zH, zI] at c1
   by_cases hm0 : m < 0
   ·obtain ⟨W7, hW7⟩ : ∃ W, W = (W5.setCell ⟨q, 1, none⟩ (.int .i64 (-(m + 1)))) := ⟨_, rfl⟩
    have HS7 : Hid (Sv w W7 g q #[.int .i64 k, .int .i64 m, .string t, .slice Ab nb zb, .slice Aa na za, .int .i64 ck, .string ct, .slice A n c, .int .i64 K, .string cn, .int .i64 cq, .bool cb] (.slice yA yn yc) (.int .i64 (kk : Int)) #[.int .i64 k, .int .i64 (-(m + 1)), .string ⟨#[]⟩, .slice none 0 0, .slice none 0 0, .int .i64 0, .string ⟨#[]⟩, .slice none 0 0, .int .i64 0, .string ⟨#[]⟩, .int .i64 0, .bool false]) := by rw [hW7]; exact (HS5.out.put 1 (.int .i64 (-(m + 1))))
    replace hW7 := hW7.symm
    obtain ⟨u0, u1, u2, u3, u4, u5, u6, u7, u8, u9, u10, u11, uf0, uf1, uf2, uf3, uf4, uf5, uf6, uf7, uf8, uf9, uf10, uf11⟩ := all12 HS7.out.ho
    obtain ⟨v0, v1, v2, v3, v4, v5, v6, v7, v8, v9, v10, v11, vf0, vf1, vf2, vf3, vf4, vf5, vf6, vf7, vf8, vf9, vf10, vf11⟩ := all12 HS7.out.hr
    go_wp2_with fail
    have HF : Hid (Has (put12 W7 (w.heap.size + 1) (.int .i64 k) (.int .i64 (-(m + 1))) (.string ⟨#[]⟩) (.slice none 0 0) (.slice none 0 0) (.int .i64 0) (.string ⟨#[]⟩) (.slice none 0 0) (.int .i64 0) (.string ⟨#[]⟩) (.int .i64 0) (.bool false)) (w.heap.size + 1) 33 #[.int .i64 k, .int .i64 (-(m + 1)), .string ⟨#[]⟩, .slice none 0 0, .slice none 0 0, .int .i64 0, .string ⟨#[]⟩, .slice none 0 0, .int .i64 0, .string ⟨#[]⟩, .int .i64 0, .bool false]) := put12_has HS7.out.hr (.int .i64 k) (.int .i64 (-(m + 1))) (.string ⟨#[]⟩) (.slice none 0 0) (.slice none 0 0) (.int .i64 0) (.string ⟨#[]⟩) (.slice none 0 0) (.int .i64 0) (.string ⟨#[]⟩) (.int .i64 0) (.bool false)
    have ht : Tur [w.heap.size + 1] W7 (put12 W7 (w.heap.size + 1) (.int .i64 k) (.int .i64 (-(m + 1))) (.string ⟨#[]⟩) (.slice none 0 0) (.slice none 0 0) (.int .i64 0) (.string ⟨#[]⟩) (.slice none 0 0) (.int .i64 0) (.string ⟨#[]⟩) (.int .i64 0) (.bool false)) := put12_tur _ _ (.int .i64 k) (.int .i64 (-(m + 1))) (.string ⟨#[]⟩) (.slice none 0 0) (.slice none 0 0) (.int .i64 0) (.string ⟨#[]⟩) (.slice none 0 0) (.int .i64 0) (.string ⟨#[]⟩) (.int .i64 0) (.bool false)
    have hbe : Below w.heap.size w (put12 W7 (w.heap.size + 1) (.int .i64 k) (.int .i64 (-(m + 1))) (.string ⟨#[]⟩) (.slice none 0 0) (.slice none 0 0) (.int .i64 0) (.string ⟨#[]⟩) (.slice none 0 0) (.int .i64 0) (.string ⟨#[]⟩) (.int .i64 0) (.bool false)) := (Tur.of_below (X := [w.heap.size + 1]) HS7.out.bel).trans ht (Fre.refl _ _) |>.below (B := w.heap.size) (fun k hk => by simp at hk; omega) (Nat.le_refl _)
    refine bodyPost_ret (v := .agg #[.int .i64 k, .int .i64 (-(m + 1)), .string ⟨#[]⟩, .slice none 0 0, .slice none 0 0, .int .i64 0, .string ⟨#[]⟩, .slice none 0 0, .int .i64 0, .string ⟨#[]⟩, .int .i64 0, .bool false]) (evEnd (put12 W7 (w.heap.size + 1) (.int .i64 k) (.int .i64 (-(m + 1))) (.string ⟨#[]⟩) (.slice none 0 0) (.slice none 0 0) (.int .i64 0) (.string ⟨#[]⟩) (.slice none 0 0) (.int .i64 0) (.string ⟨#[]⟩) (.int .i64 0) (.bool false)) (w.heap.size + 1) (.int .i64 k) (.int .i64 (-(m + 1))) (.string ⟨#[]⟩) (.slice none 0 0) (.slice none 0 0) (.int .i64 0) (.string ⟨#[]⟩) (.slice none 0 0) (.int .i64 0) (.string ⟨#[]⟩) (.int .i64 0) (.bool false) _ rfl HF.out) rfl ?_
    exact ⟨⟨k, -(m + 1), ⟨#[]⟩, [], [], 0, ⟨#[]⟩, [], 0, ⟨⟨#[]⟩, 0, false⟩⟩, none, 0, 0, none, 0, 0, none, 0, 0, rfl, evw_row k (-(m + 1)) ⟨#[]⟩ [] [] none 0 0 none 0 0 (nilB _) (nilB _) (by omega) (by omega), hbe, small_no (by omega)⟩
   ·have u0 := HS5.out.ho.cell 0
    have u1 := HS5.out.ho.cell 1
    have u2 := HS5.out.ho.cell 2
    have u3 := HS5.out.ho.cell 3
    have u4 := HS5.out.ho.cell 4
    have u5 := HS5.out.ho.cell 5
    have u6 := HS5.out.ho.cell 6
    have u7 := HS5.out.ho.cell 7
    have u8 := HS5.out.ho.cell 8
    have u9 := HS5.out.ho.cell 9
    have u10 := HS5.out.ho.cell 10
    have u11 := HS5.out.ho.cell 11
    have uf0 := HS5.out.ho.free 0
    have uf1 := HS5.out.ho.free 1
    have uf2 := HS5.out.ho.free 2
    have uf3 := HS5.out.ho.free 3
    have uf4 := HS5.out.ho.free 4
    have uf5 := HS5.out.ho.free 5
    have uf6 := HS5.out.ho.free 6
    have uf7 := HS5.out.ho.free 7
    have uf8 := HS5.out.ho.free 8
    have uf9 := HS5.out.ho.free 9
    have uf10 := HS5.out.ho.free 10
    have uf11 := HS5.out.ho.free 11
    simp only [zG, zH, zI] at u0 u1 u2 u3 u4 u5 u6 u7 u8 u9 u10 u11
    obtain ⟨v0, v1, v2, v3, v4, v5, v6, v7, v8, v9, v10, v11, vf0, vf1, vf2, vf3, vf4, vf5, vf6, vf7, vf8, vf9, vf10, vf11⟩ := all12 HS5.out.hr
    go_wp2_with fail
    obtain ⟨HF, ht, hbe⟩ := rx12 HS5.out (.int .i64 k) (.int .i64 m) (.string ⟨#[]⟩) (.slice none 0 0) (.slice none 0 0) (.int .i64 0) (.string ⟨#[]⟩) (.slice none 0 0) (.int .i64 0) (.string ⟨#[]⟩) (.int .i64 0) (.bool false)
    refine bodyPost_ret (evEndH HF.out rfl) rfl ?_
    exact ⟨⟨k, m, ⟨#[]⟩, [], [], 0, ⟨#[]⟩, [], 0, ⟨⟨#[]⟩, 0, false⟩⟩, none, 0, 0, none, 0, 0, none, 0, 0, rfl, evw_row k (m) ⟨#[]⟩ [] [] none 0 0 none 0 0 (nilB _) (nilB _) (by omega) (by omega), hbe, small_no (by omega)⟩
end Go.Proofs.YtnpmgempkoeapaaGreatDoor
