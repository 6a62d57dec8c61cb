/-
  Put together, as far as it is used: Qp.
-/
import Derived.Test.YtnpmgempkoeapaaGreatDoorPeaw
import Derived.Test.YtnpmgempkoeapaaGreatDoorPeaf
set_option linter.unusedVariables false
set_option linter.unusedSimpArgs false
set_option linter.defProp false
namespace Go.Proofs.YtnpmgempkoeapaaGreatDoor
open Go.RowKit Dg
set_option maxHeartbeats 8000000 in
set_option maxRecDepth 100000 in
theorem mayRow3_any (x : Ev) (Ab : Option Addr) (nb zb : Nat) (Aa : Option Addr) (na za : Nat) (A : Option Addr) (n c : Nat) (At : Option Addr) (nt ct : Nat) (T : List Tb) (w : World) (h : EvAt w (.agg #[.int .i64 x.k, .int .i64 x.n, .string x.t, .slice Ab nb zb, .slice Aa na za, .int .i64 x.ck, .string x.ct, .slice A n c, .int .i64 x.K, .string x.cl.nm, .int .i64 x.cl.k, .bool x.cl.no]) x) (hk : x.k = 3) (hB : x.A.length = na ∧ na ≤ za ∧ VRow w Aa x.A ∧ ∀ y ∈ x.A, y.fit) (hT : T.length = nt) (hl : nt ≤ 1000) (hA : TRow w At T) (hI : TOks w T) (hS : SortT T) (hG : ∀ y ∈ T, ∃ k : Nat, y.K = (k : Int) ∧ k ≤ y.L.length ∧ k ≤ 4) (hTb : Tabs w) (hnb : (na : Int) ≤ 9223372036854775807) :
 Calls Tryz.prog 53 #[.agg #[.int .i64 x.k, .int .i64 x.n, .string x.t, .slice Ab nb zb, .slice Aa na za, .int .i64 x.ck, .string x.ct, .slice A n c, .int .i64 x.K, .string x.cl.nm, .int .i64 x.cl.k, .bool x.cl.no], .slice At nt ct] w fun e w' => e = .returned (.int .i64 (rowG6 x T)) ∧ Hid (Below w.heap.size w w') := by
 have hb0 := (Below.refl w.heap.size w).alloc (Nat.le_refl _) (.cells #[.int .i64 x.k, .int .i64 x.n, .string x.t, .slice Ab nb zb, .slice Aa na za, .int .i64 x.ck, .string x.ct, .slice A n c, .int .i64 x.K, .string x.cl.nm, .int .i64 x.cl.k, .bool x.cl.no] 33)
 have HB := Lib.hid hb0
 have HE := Lib.hid (Has.new w 33 #[.int .i64 x.k, .int .i64 x.n, .string x.t, .slice Ab nb zb, .slice Aa na za, .int .i64 x.ck, .string x.ct, .slice A n c, .int .i64 x.K, .string x.cl.nm, .int .i64 x.cl.k, .bool x.cl.no])
 have HF := Lib.hid (pfind_any At T nt ct x.t _ hT hl (hA.below hb0) hS)
 obtain ⟨As, ns, cs, kk, etf, q1, q2, q3, q4, q5, q6, q7⟩ := tfV_at (s := x.t) hS (fun y hy => (hI y hy).below hb0) hG
 rw [etf] at HF
 have hfit : rowFits x T = fitsF (tfL T x.t) x.A := by unfold rowFits; rw [if_neg (by rw [hk]; decide)]
 have hown : ownE x = ⟨x.k, 0, x.t, [], x.A, 0, ⟨#[]⟩, [], 0, ⟨⟨#[]⟩, 0, false⟩⟩ := by unfold ownE; rw [if_neg (by rw [hk]; decide)]
 have hrg : rowG6 x T = if plF T x.t = false then 7 else if fitsF (tfL T x.t) x.A = false then 9 else if evF x ⟨x.k, 0, x.t, [], x.A, 0, ⟨#[]⟩, [], 0, ⟨⟨#[]⟩, 0, false⟩⟩ = true then 0 else 1 := by unfold rowG6; rw [hfit, hown]
 have HRG := Lib.hid hrg
 have HQ := Lib.hid q4
 have HBR := Lib.hid hB
 have HTB := Lib.hid hTb
 have HEV := Lib.hid h
 have HQ1 := Lib.hid q1
 clear hfit hown hrg q4 hB hTb h q1 hA hI hS hG etf q5 hb0
 generalize plF T x.t = ok at *
 generalize tfL T x.t = M at *
 obtain ⟨k, m, t, B, AA, ck, tn, L, K, ⟨cn, cq, cb⟩⟩ := x
 have hk5 : k = 3 := hk
 subst hk5
 clear hk
 go_enter Tryz.func53, Tryz.ntmps53
 go_wp2_with fail
 refine HF.out.mono ?_
 rintro e w1 ⟨rfl, hb1⟩
 have HB1 := Lib.hid (HB.out.trans (hb1.out.mono HB.out.size))
 have HQ1b := Lib.hid (HQ.out.below hb1.out)
 have HE1 := Lib.hid (HE.out.below hb1.out HE.out.lt)
 clear hb1 HF
 have x0 : w1.cell? ⟨w.heap.size, 0, none⟩ = some (.int .i64 3) := HE1.out.cell 0
 have x2 : w1.cell? ⟨w.heap.size, 2, none⟩ = some (.string t) := HE1.out.cell 2
 have xa0 : (w1.alloc (.cells #[.slice As ns cs, .int .i64 kk] 27)).cell? ⟨w.heap.size, 0, none⟩ = some (.int .i64 3) := (HE1.out.alloc _).cell 0
 have xa2 : (w1.alloc (.cells #[.slice As ns cs, .int .i64 kk] 27)).cell? ⟨w.heap.size, 2, none⟩ = some (.string t) := (HE1.out.alloc _).cell 2
 obtain ⟨w2, HW2⟩ : ∃ w2, Hid (w2 = (w1.alloc (.cells #[.slice As ns cs, .int .i64 kk] 27)).alloc (.cells #[.int .i64 3, .int .i64 0, .string t, .slice none 0 0, .slice none 0 0, .int .i64 0, .string ⟨#[]⟩, .slice none 0 0, .int .i64 0, .string ⟨#[]⟩, .int .i64 0, .bool false] 33)) := ⟨_, rfl⟩
 have b2 : Below w1.heap.size w1 w2 := by rw [HW2.out]; exact ((Below.refl _ w1).alloc (Nat.le_refl _) _).alloc (by simp) _
 have s2 : Has w2 w1.heap.size 27 #[.slice As ns cs, .int .i64 kk] := by rw [HW2.out]; exact (Has.new w1 _ _).alloc _
 have o2 : Has w2 (w1.heap.size + 1) 33 #[.int .i64 3, .int .i64 0, .string t, .slice none 0 0, .slice none 0 0, .int .i64 0, .string ⟨#[]⟩, .slice none 0 0, .int .i64 0, .string ⟨#[]⟩, .int .i64 0, .bool false] := by
  rw [HW2.out]
  have := Has.new (w1.alloc (.cells #[.slice As ns cs, .int .i64 kk] 27)) 33 #[.int .i64 3, .int .i64 0, .string t, .slice none 0 0, .slice none 0 0, .int .i64 0, .string ⟨#[]⟩, .slice none 0 0, .int .i64 0, .string ⟨#[]⟩, .int .i64 0, .bool false]
  rw [World.size_alloc] at this
  exact this
 have HE2 := Lib.hid (HE1.out.below b2 HE1.out.lt)
 have HB2 := Lib.hid (HB1.out.trans (b2.mono HB1.out.size))
 have HQ2 := Lib.hid (HQ1b.out.below b2)
 have HS2 := Lib.hid s2
 have HO2 := Lib.hid o2
 have z0 : ((w1.alloc (.cells #[.slice As ns cs, .int .i64 kk] 27)).alloc (.cells #[.int .i64 3, .int .i64 0, .string t, .slice none 0 0, .slice none 0 0, .int .i64 0, .string ⟨#[]⟩, .slice none 0 0, .int .i64 0, .string ⟨#[]⟩, .int .i64 0, .bool false] 33)).cell? ⟨w.heap.size, 0, none⟩ = some (.int .i64 3) := ((HE1.out.alloc _).alloc _).cell 0
 clear b2 s2 o2
 go_wp2_with fail
 rw [← HW2.out]
 have lt1 : w.heap.size < w1.heap.size := HE1.out.lt
 clear z0 x0 x2 xa0 xa2 HE1 HB1
 have y3 : w2.cell? ⟨w.heap.size, 4, none⟩ = some (.slice Aa na za) := HE2.out.cell 4
 have y4 : w2.cell? ⟨w1.heap.size, 0, none⟩ = some (.slice As ns cs) := HS2.out.cell 0
 have y5 : w2.cell? ⟨w1.heap.size, 1, none⟩ = some (.int .i64 kk) := HS2.out.cell 1
 have HD2 := Lib.hid ((Below.refl w2.heap.size w2).drew)
 have HC := Lib.hid (fits_any As M ns cs kk Aa AA na za w2.drew HQ1.out q2 (HQ2.out.below HD2.out) HBR.out.1 ((HBR.out.2.2.1.below HB2.out).below HD2.out) HBR.out.2.2.2 ((HTB.out.below HB2.out).below HD2.out))
 have hS0 : (fun X : World => X.cell? ⟨w.heap.size, 4, none⟩ = some (.slice Aa na za) ∧ X.cell? ⟨w1.heap.size, 0, none⟩ = some (.slice As ns cs) ∧ X.cell? ⟨w1.heap.size, 1, none⟩ = some (.int .i64 kk)) w2.drew := ⟨y3, y4, y5⟩
 refine wp_region_held_drew (S := (fun X : World => X.cell? ⟨w.heap.size, 4, none⟩ = some (.slice Aa na za) ∧ X.cell? ⟨w1.heap.size, 0, none⟩ = some (.slice As ns cs) ∧ X.cell? ⟨w1.heap.size, 1, none⟩ = some (.int .i64 kk))) (by kernel_rfl) hS0 (fun _ => ?_)
 (refine wpAnyH_take (i := 0) (v := ?_) rfl (by kernel_rfl) (by kernel_rfl) (by kernel_rfl) (fun _ _ _ h => h) (Or.inl ⟨by rfl, ?_⟩) (by assumption) ?_; rotate_left; (intro w hSw; (try dsimp only at hSw); go_simp; try with_reducible rfl); ((try simp only [zA, zB, zC, Act.put, zD, zE, zF])))
 (refine wpAnyH_take (i := 1) (v := ?_) rfl (by kernel_rfl) (by kernel_rfl) (by kernel_rfl) (fun _ _ _ h => h) (Or.inl ⟨by rfl, ?_⟩) (by assumption) ?_; rotate_left; (intro w hSw; (try dsimp only at hSw); go_simp; try with_reducible rfl); ((try simp only [zA, zB, zC, Act.put, zD, zE, zF])))
 (refine wpAnyH_take (i := 2) (v := ?_) rfl (by kernel_rfl) (by kernel_rfl) (by kernel_rfl) (fun _ _ _ h => h) (Or.inl ⟨by rfl, ?_⟩) (by assumption) ?_; rotate_left; (intro w hSw; (try dsimp only at hSw); go_simp; try with_reducible rfl); ((try simp only [zA, zB, zC, Act.put, zD, zE, zF])))
 (refine wpAnyH_take (i := 3) (v := ?_) rfl (by kernel_rfl) (by kernel_rfl) (by kernel_rfl) (fun _ _ _ h => h) (Or.inl ⟨by rfl, ?_⟩) (by assumption) ?_; rotate_left; (intro w hSw; (try dsimp only at hSw); go_simp; try with_reducible rfl); ((try simp only [zA, zB, zC, Act.put, zD, zE, zF])))
 (refine wpAnyH_take (i := 4) (v := ?_) rfl (by kernel_rfl) (by kernel_rfl) (by kernel_rfl) (fun _ _ _ h => h) (Or.inl ⟨by rfl, ?_⟩) (by assumption) ?_; rotate_left; (intro w hSw; (try dsimp only at hSw); go_simp; try with_reducible rfl); ((try simp only [zA, zB, zC, Act.put, zD, zE, zF])))
 (refine wpAnyH_take (i := 6) (v := ?_) rfl (by kernel_rfl) (by kernel_rfl) (by kernel_rfl) (fun _ _ _ h => h) (Or.inl ⟨by rfl, ?_⟩) (by assumption) ?_; rotate_left; (intro w hSw; (try dsimp only at hSw); go_simp; try with_reducible rfl); ((try simp only [zA, zB, zC, Act.put, zD, zE, zF])))
 refine wpAnyH_ready (rs := [5]) (by kernel_rfl) (by simp) ?_
 refine AllReadyH.cons rfl (fun K2 hK2 => ?_) AllReadyH.nil
 go_simp
 refine (HC.out).mono ?_
 rintro e w3 ⟨rfl, hb3⟩
 have HB3 := Lib.hid (HD2.out.trans hb3.out)
 have z3 := keepC HB3.out y3
 have z4 := keepC HB3.out y4
 have z5 := keepC HB3.out y5
 have HO3 := Lib.hid (HO2.out.below HB3.out HO2.out.lt)
 have o3 : w3.cell? ⟨w1.heap.size + 1, 4, none⟩ = some (.slice none 0 0) := HO3.out.cell 4
 go_wp2_with fail
 refine hK2.out _ _ (by (try dsimp only); exact ⟨z3, z4, z5⟩) (fun _ => ?_)
 clear hK2 K2 HC hb3 hS0 y3 y4 y5
 ((try simp only [zA, zB, zC, Act.put, zD, zE, zF]))
 have HB23 := Lib.hid (HB2.out.trans (HB3.out.mono HB2.out.size))
 have HE3 := Lib.hid (HE2.out.below HB3.out HE2.out.lt)
 have HS3 := Lib.hid (HS2.out.below HB3.out HS2.out.lt)
 have f3 : w3.frozen? ⟨w1.heap.size + 1, 4, none⟩ = false := HO3.out.free 4
 have HO4 : Hid (Has (w3.setCell ⟨w1.heap.size + 1, 4, none⟩ (.slice Aa na za)) (w1.heap.size + 1) 33 #[.int .i64 3, .int .i64 0, .string t, .slice none 0 0, .slice Aa na za, .int .i64 0, .string ⟨#[]⟩, .slice none 0 0, .int .i64 0, .string ⟨#[]⟩, .int .i64 0, .bool false]) := HO3.out.put 4 _
 have HE4 : Hid (Has (w3.setCell ⟨w1.heap.size + 1, 4, none⟩ (.slice Aa na za)) w.heap.size 33 _) := HE3.out.far (by show w.heap.size ≠ w1.heap.size + 1; omega) _
 have HS4 : Hid (Has (w3.setCell ⟨w1.heap.size + 1, 4, none⟩ (.slice Aa na za)) w1.heap.size 27 _) := HS3.out.far (by show w1.heap.size ≠ w1.heap.size + 1; omega) _
 have HB4 : Hid (Below w.heap.size w (w3.setCell ⟨w1.heap.size + 1, 4, none⟩ (.slice Aa na za))) := HB23.out.setCell (by show w.heap.size ≤ w1.heap.size + 1; omega) _
 generalize hw4 : w3.setCell ⟨w1.heap.size + 1, 4, none⟩ (.slice Aa na za) = w4 at HO4 HE4 HS4 HB4
 refine wpAnyH_ready (rs := [7]) (by kernel_rfl) (by simp) ?_
 refine AllReadyH.cons rfl (fun K2 hK2 => ?_) AllReadyH.nil
 go_simp
 refine hK2.out _ _ (by (try dsimp only); exact ⟨HE4.out.cell 4, HS4.out.cell 0, HS4.out.cell 1⟩) (fun _ => ?_)
 clear hK2 K2 z3 z4 z5 o3 f3 HB23 HE3 HS3 HO3 hw4 HB3 HE2 HS2 HO2 HB2 HW2 HD2 HQ2 HQ1b
 ((try simp only [zA, zB, zC, Act.put, zD, zE, zF]))
 (refine wpAnyH_take (i := 8) (v := ?_) rfl (by kernel_rfl) (by kernel_rfl) (by kernel_rfl) (fun _ _ _ h => h) (Or.inl ⟨by rfl, ?_⟩) (by assumption) ?_; rotate_left; (intro w hSw; (try dsimp only at hSw); go_simp; try with_reducible rfl); ((try simp only [zA, zB, zC, Act.put, zD, zE, zF])))
 refine wpAnyH_done (by kernel_rfl) ?_ _
 cases ok with
 | false =>
   go_wp2_with fail
   go_ret
   exact ⟨by rw [HRG.out]; rfl, HB4⟩
 | true =>
   cases hf : fitsF M AA with
   | false =>
     rw [hf] at HRG
     go_wp2_with fail
     go_ret
     exact ⟨by rw [HRG.out]; rfl, HB4⟩
   | true =>
     rw [hf] at HRG
     have HS := Lib.hid (esame_any _ _ _ (⟨3, 0, t, [], AA, 0, ⟨#[]⟩, [], 0, ⟨⟨#[]⟩, 0, false⟩⟩ : Ev) _ (HEV.out.below HB4.out) (⟨none, 0, 0, Aa, na, za, none, 0, 0, rfl, ⟨rfl, by simp, fun h => absurd rfl h⟩, ⟨HBR.out.1, hnb, HBR.out.2.2.1.below HB4.out⟩, rfl, by omega, fun h => absurd rfl h⟩ : EvAt w4 (.agg #[.int .i64 3, .int .i64 0, .string t, .slice none 0 0, .slice Aa na za, .int .i64 0, .string ⟨#[]⟩, .slice none 0 0, .int .i64 0, .string ⟨#[]⟩, .int .i64 0, .bool false]) _))
     have e0 : w4.cell? ⟨w.heap.size, 0, none⟩ = some (.int .i64 3) := HE4.out.cell 0
     have e1 : w4.cell? ⟨w.heap.size, 1, none⟩ = some (.int .i64 m) := HE4.out.cell 1
     have e2 : w4.cell? ⟨w.heap.size, 2, none⟩ = some (.string t) := HE4.out.cell 2
     have e3 : w4.cell? ⟨w.heap.size, 3, none⟩ = some (.slice Ab nb zb) := HE4.out.cell 3
     have e4 : w4.cell? ⟨w.heap.size, 4, none⟩ = some (.slice Aa na za) := HE4.out.cell 4
     have e5 : w4.cell? ⟨w.heap.size, 5, none⟩ = some (.int .i64 ck) := HE4.out.cell 5
     have e6 : w4.cell? ⟨w.heap.size, 6, none⟩ = some (.string tn) := HE4.out.cell 6
     have e7 : w4.cell? ⟨w.heap.size, 7, none⟩ = some (.slice A n c) := HE4.out.cell 7
     have e8 : w4.cell? ⟨w.heap.size, 8, none⟩ = some (.int .i64 K) := HE4.out.cell 8
     have e9 : w4.cell? ⟨w.heap.size, 9, none⟩ = some (.string cn) := HE4.out.cell 9
     have e10 : w4.cell? ⟨w.heap.size, 10, none⟩ = some (.int .i64 cq) := HE4.out.cell 10
     have e11 : w4.cell? ⟨w.heap.size, 11, none⟩ = some (.bool cb) := HE4.out.cell 11
     have o0 : w4.cell? ⟨w1.heap.size + 1, 0, none⟩ = some (.int .i64 3) := HO4.out.cell 0
     have o1 : w4.cell? ⟨w1.heap.size + 1, 1, none⟩ = some (.int .i64 0) := HO4.out.cell 1
     have o2 : w4.cell? ⟨w1.heap.size + 1, 2, none⟩ = some (.string t) := HO4.out.cell 2
     have o3 : w4.cell? ⟨w1.heap.size + 1, 3, none⟩ = some (.slice none 0 0) := HO4.out.cell 3
     have o4 : w4.cell? ⟨w1.heap.size + 1, 4, none⟩ = some (.slice Aa na za) := HO4.out.cell 4
     have o5 : w4.cell? ⟨w1.heap.size + 1, 5, none⟩ = some (.int .i64 0) := HO4.out.cell 5
     have o6 : w4.cell? ⟨w1.heap.size + 1, 6, none⟩ = some (.string ⟨#[]⟩) := HO4.out.cell 6
     have o7 : w4.cell? ⟨w1.heap.size + 1, 7, none⟩ = some (.slice none 0 0) := HO4.out.cell 7
     have o8 : w4.cell? ⟨w1.heap.size + 1, 8, none⟩ = some (.int .i64 0) := HO4.out.cell 8
     have o9 : w4.cell? ⟨w1.heap.size + 1, 9, none⟩ = some (.string ⟨#[]⟩) := HO4.out.cell 9
     have o10 : w4.cell? ⟨w1.heap.size + 1, 10, none⟩ = some (.int .i64 0) := HO4.out.cell 10
     have o11 : w4.cell? ⟨w1.heap.size + 1, 11, none⟩ = some (.bool false) := HO4.out.cell 11
     clear hf HEV HBR HTB
     go_wp2_with fail
     refine HS.out.mono ?_
     rintro e w5 ⟨rfl, hb5⟩
     have HB5 := Lib.hid (HB4.out.trans (hb5.out.mono HB4.out.size))
     clear HS hb5 e0 e1 e2 e3 e4 e5 e6 e7 e8 e9 e10 e11 o0 o1 o2 o3 o4 o5 o6 o7 o8 o9 o10 o11
     generalize evF _ _ = q at *
     cases q <;> go_wp2_with fail
     ·go_ret
      exact ⟨by rw [HRG.out]; rfl, HB5⟩
     ·go_ret
      exact ⟨by rw [HRG.out]; rfl, HB5⟩
set_option maxHeartbeats 8000000 in
set_option maxRecDepth 100000 in
theorem mayRow4_any (x : Ev) (Ab : Option Addr) (nb zb : Nat) (Aa : Option Addr) (na za : Nat) (A : Option Addr) (n c : Nat) (At : Option Addr) (nt ct : Nat) (T : List Tb) (w : World) (h : EvAt w (.agg #[.int .i64 x.k, .int .i64 x.n, .string x.t, .slice Ab nb zb, .slice Aa na za, .int .i64 x.ck, .string x.ct, .slice A n c, .int .i64 x.K, .string x.cl.nm, .int .i64 x.cl.k, .bool x.cl.no]) x) (hk : x.k = 4) (hB : x.A.length = na ∧ na ≤ za ∧ VRow w Aa x.A ∧ ∀ y ∈ x.A, y.fit) (hT : T.length = nt) (hl : nt ≤ 1000) (hA : TRow w At T) (hI : TOks w T) (hS : SortT T) (hG : ∀ y ∈ T, ∃ k : Nat, y.K = (k : Int) ∧ k ≤ y.L.length ∧ k ≤ 4) (hTb : Tabs w) (hnb : (na : Int) ≤ 9223372036854775807) :
 Calls Tryz.prog 53 #[.agg #[.int .i64 x.k, .int .i64 x.n, .string x.t, .slice Ab nb zb, .slice Aa na za, .int .i64 x.ck, .string x.ct, .slice A n c, .int .i64 x.K, .string x.cl.nm, .int .i64 x.cl.k, .bool x.cl.no], .slice At nt ct] w fun e w' => e = .returned (.int .i64 (rowG6 x T)) ∧ Hid (Below w.heap.size w w') := by
 have hb0 := (Below.refl w.heap.size w).alloc (Nat.le_refl _) (.cells #[.int .i64 x.k, .int .i64 x.n, .string x.t, .slice Ab nb zb, .slice Aa na za, .int .i64 x.ck, .string x.ct, .slice A n c, .int .i64 x.K, .string x.cl.nm, .int .i64 x.cl.k, .bool x.cl.no] 33)
 have HB := Lib.hid hb0
 have HE := Lib.hid (Has.new w 33 #[.int .i64 x.k, .int .i64 x.n, .string x.t, .slice Ab nb zb, .slice Aa na za, .int .i64 x.ck, .string x.ct, .slice A n c, .int .i64 x.K, .string x.cl.nm, .int .i64 x.cl.k, .bool x.cl.no])
 have HF := Lib.hid (pfind_any At T nt ct x.t _ hT hl (hA.below hb0) hS)
 obtain ⟨As, ns, cs, kk, etf, q1, q2, q3, q4, q5, q6, q7⟩ := tfV_at (s := x.t) hS (fun y hy => (hI y hy).below hb0) hG
 rw [etf] at HF
 have hfit : rowFits x T = fitsF (tfL T x.t) x.A := by unfold rowFits; rw [if_neg (by rw [hk]; decide)]
 have hown : ownE x = ⟨x.k, 0, x.t, [], x.A, 0, ⟨#[]⟩, [], 0, ⟨⟨#[]⟩, 0, false⟩⟩ := by unfold ownE; rw [if_neg (by rw [hk]; decide)]
 have hrg : rowG6 x T = if plF T x.t = false then 7 else if fitsF (tfL T x.t) x.A = false then 9 else if evF x ⟨x.k, 0, x.t, [], x.A, 0, ⟨#[]⟩, [], 0, ⟨⟨#[]⟩, 0, false⟩⟩ = true then 0 else 1 := by unfold rowG6; rw [hfit, hown]
 have HRG := Lib.hid hrg
 have HQ := Lib.hid q4
 have HBR := Lib.hid hB
 have HTB := Lib.hid hTb
 have HEV := Lib.hid h
 have HQ1 := Lib.hid q1
 clear hfit hown hrg q4 hB hTb h q1 hA hI hS hG etf q5 hb0
 generalize plF T x.t = ok at *
 generalize tfL T x.t = M at *
 obtain ⟨k, m, t, B, AA, ck, tn, L, K, ⟨cn, cq, cb⟩⟩ := x
 have hk5 : k = 4 := hk
 subst hk5
 clear hk
 go_enter Tryz.func53, Tryz.ntmps53
 go_wp2_with fail
 refine HF.out.mono ?_
 rintro e w1 ⟨rfl, hb1⟩
 have HB1 := Lib.hid (HB.out.trans (hb1.out.mono HB.out.size))
 have HQ1b := Lib.hid (HQ.out.below hb1.out)
 have HE1 := Lib.hid (HE.out.below hb1.out HE.out.lt)
 clear hb1 HF
 have x0 : w1.cell? ⟨w.heap.size, 0, none⟩ = some (.int .i64 4) := HE1.out.cell 0
 have x2 : w1.cell? ⟨w.heap.size, 2, none⟩ = some (.string t) := HE1.out.cell 2
 have xa0 : (w1.alloc (.cells #[.slice As ns cs, .int .i64 kk] 27)).cell? ⟨w.heap.size, 0, none⟩ = some (.int .i64 4) := (HE1.out.alloc _).cell 0
 have xa2 : (w1.alloc (.cells #[.slice As ns cs, .int .i64 kk] 27)).cell? ⟨w.heap.size, 2, none⟩ = some (.string t) := (HE1.out.alloc _).cell 2
 obtain ⟨w2, HW2⟩ : ∃ w2, Hid (w2 = (w1.alloc (.cells #[.slice As ns cs, .int .i64 kk] 27)).alloc (.cells #[.int .i64 4, .int .i64 0, .string t, .slice none 0 0, .slice none 0 0, .int .i64 0, .string ⟨#[]⟩, .slice none 0 0, .int .i64 0, .string ⟨#[]⟩, .int .i64 0, .bool false] 33)) := ⟨_, rfl⟩
 have b2 : Below w1.heap.size w1 w2 := by rw [HW2.out]; exact ((Below.refl _ w1).alloc (Nat.le_refl _) _).alloc (by simp) _
 have s2 : Has w2 w1.heap.size 27 #[.slice As ns cs, .int .i64 kk] := by rw [HW2.out]; exact (Has.new w1 _ _).alloc _
 have o2 : Has w2 (w1.heap.size + 1) 33 #[.int .i64 4, .int .i64 0, .string t, .slice none 0 0, .slice none 0 0, .int .i64 0, .string ⟨#[]⟩, .slice none 0 0, .int .i64 0, .string ⟨#[]⟩, .int .i64 0, .bool false] := by
  rw [HW2.out]
  have := Has.new (w1.alloc (.cells #[.slice As ns cs, .int .i64 kk] 27)) 33 #[.int .i64 4, .int .i64 0, .string t, .slice none 0 0, .slice none 0 0, .int .i64 0, .string ⟨#[]⟩, .slice none 0 0, .int .i64 0, .string ⟨#[]⟩, .int .i64 0, .bool false]
  rw [World.size_alloc] at this
  exact this
 have HE2 := Lib.hid (HE1.out.below b2 HE1.out.lt)
 have HB2 := Lib.hid (HB1.out.trans (b2.mono HB1.out.size))
 have HQ2 := Lib.hid (HQ1b.out.below b2)
 have HS2 := Lib.hid s2
 have HO2 := Lib.hid o2
 have z0 : ((w1.alloc (.cells #[.slice As ns cs, .int .i64 kk] 27)).alloc (.cells #[.int .i64 4, .int .i64 0, .string t, .slice none 0 0, .slice none 0 0, .int .i64 0, .string ⟨#[]⟩, .slice none 0 0, .int .i64 0, .string ⟨#[]⟩, .int .i64 0, .bool false] 33)).cell? ⟨w.heap.size, 0, none⟩ = some (.int .i64 4) := ((HE1.out.alloc _).alloc _).cell 0
 clear b2 s2 o2
 go_wp2_with fail
 rw [← HW2.out]
 have lt1 : w.heap.size < w1.heap.size := HE1.out.lt
 clear z0 x0 x2 xa0 xa2 HE1 HB1
 have y3 : w2.cell? ⟨w.heap.size, 4, none⟩ = some (.slice Aa na za) := HE2.out.cell 4
 have y4 : w2.cell? ⟨w1.heap.size, 0, none⟩ = some (.slice As ns cs) := HS2.out.cell 0
 have y5 : w2.cell? ⟨w1.heap.size, 1, none⟩ = some (.int .i64 kk) := HS2.out.cell 1
 have HD2 := Lib.hid ((Below.refl w2.heap.size w2).drew)
 have HC := Lib.hid (fits_any As M ns cs kk Aa AA na za w2.drew HQ1.out q2 (HQ2.out.below HD2.out) HBR.out.1 ((HBR.out.2.2.1.below HB2.out).below HD2.out) HBR.out.2.2.2 ((HTB.out.below HB2.out).below HD2.out))
 have hS0 : (fun X : World => X.cell? ⟨w.heap.size, 4, none⟩ = some (.slice Aa na za) ∧ X.cell? ⟨w1.heap.size, 0, none⟩ = some (.slice As ns cs) ∧ X.cell? ⟨w1.heap.size, 1, none⟩ = some (.int .i64 kk)) w2.drew := ⟨y3, y4, y5⟩
 refine wp_region_held_drew (S := (fun X : World => X.cell? ⟨w.heap.size, 4, none⟩ = some (.slice Aa na za) ∧ X.cell? ⟨w1.heap.size, 0, none⟩ = some (.slice As ns cs) ∧ X.cell? ⟨w1.heap.size, 1, none⟩ = some (.int .i64 kk))) (by kernel_rfl) hS0 (fun _ => ?_)
 (refine wpAnyH_take (i := 0) (v := ?_) rfl (by kernel_rfl) (by kernel_rfl) (by kernel_rfl) (fun _ _ _ h => h) (Or.inl ⟨by rfl, ?_⟩) (by assumption) ?_; rotate_left; (intro w hSw; (try dsimp only at hSw); go_simp; try with_reducible rfl); ((try simp only [zA, zB, zC, Act.put, zD, zE, zF])))
 (refine wpAnyH_take (i := 1) (v := ?_) rfl (by kernel_rfl) (by kernel_rfl) (by kernel_rfl) (fun _ _ _ h => h) (Or.inl ⟨by rfl, ?_⟩) (by assumption) ?_; rotate_left; (intro w hSw; (try dsimp only at hSw); go_simp; try with_reducible rfl); ((try simp only [zA, zB, zC, Act.put, zD, zE, zF])))
 (refine wpAnyH_take (i := 2) (v := ?_) rfl (by kernel_rfl) (by kernel_rfl) (by kernel_rfl) (fun _ _ _ h => h) (Or.inl ⟨by rfl, ?_⟩) (by assumption) ?_; rotate_left; (intro w hSw; (try dsimp only at hSw); go_simp; try with_reducible rfl); ((try simp only [zA, zB, zC, Act.put, zD, zE, zF])))
 (refine wpAnyH_take (i := 3) (v := ?_) rfl (by kernel_rfl) (by kernel_rfl) (by kernel_rfl) (fun _ _ _ h => h) (Or.inl ⟨by rfl, ?_⟩) (by assumption) ?_; rotate_left; (intro w hSw; (try dsimp only at hSw); go_simp; try with_reducible rfl); ((try simp only [zA, zB, zC, Act.put, zD, zE, zF])))
 (refine wpAnyH_take (i := 4) (v := ?_) rfl (by kernel_rfl) (by kernel_rfl) (by kernel_rfl) (fun _ _ _ h => h) (Or.inl ⟨by rfl, ?_⟩) (by assumption) ?_; rotate_left; (intro w hSw; (try dsimp only at hSw); go_simp; try with_reducible rfl); ((try simp only [zA, zB, zC, Act.put, zD, zE, zF])))
 (refine wpAnyH_take (i := 6) (v := ?_) rfl (by kernel_rfl) (by kernel_rfl) (by kernel_rfl) (fun _ _ _ h => h) (Or.inl ⟨by rfl, ?_⟩) (by assumption) ?_; rotate_left; (intro w hSw; (try dsimp only at hSw); go_simp; try with_reducible rfl); ((try simp only [zA, zB, zC, Act.put, zD, zE, zF])))
 refine wpAnyH_ready (rs := [5]) (by kernel_rfl) (by simp) ?_
 refine AllReadyH.cons rfl (fun K2 hK2 => ?_) AllReadyH.nil
 go_simp
 refine (HC.out).mono ?_
 rintro e w3 ⟨rfl, hb3⟩
 have HB3 := Lib.hid (HD2.out.trans hb3.out)
 have z3 := keepC HB3.out y3
 have z4 := keepC HB3.out y4
 have z5 := keepC HB3.out y5
 have HO3 := Lib.hid (HO2.out.below HB3.out HO2.out.lt)
 have o3 : w3.cell? ⟨w1.heap.size + 1, 4, none⟩ = some (.slice none 0 0) := HO3.out.cell 4
 go_wp2_with fail
 refine hK2.out _ _ (by (try dsimp only); exact ⟨z3, z4, z5⟩) (fun _ => ?_)
 clear hK2 K2 HC hb3 hS0 y3 y4 y5
 ((try simp only [zA, zB, zC, Act.put, zD, zE, zF]))
 have HB23 := Lib.hid (HB2.out.trans (HB3.out.mono HB2.out.size))
 have HE3 := Lib.hid (HE2.out.below HB3.out HE2.out.lt)
 have HS3 := Lib.hid (HS2.out.below HB3.out HS2.out.lt)
 have f3 : w3.frozen? ⟨w1.heap.size + 1, 4, none⟩ = false := HO3.out.free 4
 have HO4 : Hid (Has (w3.setCell ⟨w1.heap.size + 1, 4, none⟩ (.slice Aa na za)) (w1.heap.size + 1) 33 #[.int .i64 4, .int .i64 0, .string t, .slice none 0 0, .slice Aa na za, .int .i64 0, .string ⟨#[]⟩, .slice none 0 0, .int .i64 0, .string ⟨#[]⟩, .int .i64 0, .bool false]) := HO3.out.put 4 _
 have HE4 : Hid (Has (w3.setCell ⟨w1.heap.size + 1, 4, none⟩ (.slice Aa na za)) w.heap.size 33 _) := HE3.out.far (by show w.heap.size ≠ w1.heap.size + 1; omega) _
 have HS4 : Hid (Has (w3.setCell ⟨w1.heap.size + 1, 4, none⟩ (.slice Aa na za)) w1.heap.size 27 _) := HS3.out.far (by show w1.heap.size ≠ w1.heap.size + 1; omega) _
 have HB4 : Hid (Below w.heap.size w (w3.setCell ⟨w1.heap.size + 1, 4, none⟩ (.slice Aa na za))) := HB23.out.setCell (by show w.heap.size ≤ w1.heap.size + 1; omega) _
 generalize hw4 : w3.setCell ⟨w1.heap.size + 1, 4, none⟩ (.slice Aa na za) = w4 at HO4 HE4 HS4 HB4
 refine wpAnyH_ready (rs := [7]) (by kernel_rfl) (by simp) ?_
 refine AllReadyH.cons rfl (fun K2 hK2 => ?_) AllReadyH.nil
 go_simp
 refine hK2.out _ _ (by (try dsimp only); exact ⟨HE4.out.cell 4, HS4.out.cell 0, HS4.out.cell 1⟩) (fun _ => ?_)
 clear hK2 K2 z3 z4 z5 o3 f3 HB23 HE3 HS3 HO3 hw4 HB3 HE2 HS2 HO2 HB2 HW2 HD2 HQ2 HQ1b
 ((try simp only [zA, zB, zC, Act.put, zD, zE, zF]))
 (refine wpAnyH_take (i := 8) (v := ?_) rfl (by kernel_rfl) (by kernel_rfl) (by kernel_rfl) (fun _ _ _ h => h) (Or.inl ⟨by rfl, ?_⟩) (by assumption) ?_; rotate_left; (intro w hSw; (try dsimp only at hSw); go_simp; try with_reducible rfl); ((try simp only [zA, zB, zC, Act.put, zD, zE, zF])))
 refine wpAnyH_done (by kernel_rfl) ?_ _
 cases ok with
 | false =>
   go_wp2_with fail
   go_ret
   exact ⟨by rw [HRG.out]; rfl, HB4⟩
 | true =>
   cases hf : fitsF M AA with
   | false =>
     rw [hf] at HRG
     go_wp2_with fail
     go_ret
     exact ⟨by rw [HRG.out]; rfl, HB4⟩
   | true =>
     rw [hf] at HRG
     have HS := Lib.hid (esame_any _ _ _ (⟨4, 0, t, [], AA, 0, ⟨#[]⟩, [], 0, ⟨⟨#[]⟩, 0, false⟩⟩ : Ev) _ (HEV.out.below HB4.out) (⟨none, 0, 0, Aa, na, za, none, 0, 0, rfl, ⟨rfl, by simp, fun h => absurd rfl h⟩, ⟨HBR.out.1, hnb, HBR.out.2.2.1.below HB4.out⟩, rfl, by omega, fun h => absurd rfl h⟩ : EvAt w4 (.agg #[.int .i64 4, .int .i64 0, .string t, .slice none 0 0, .slice Aa na za, .int .i64 0, .string ⟨#[]⟩, .slice none 0 0, .int .i64 0, .string ⟨#[]⟩, .int .i64 0, .bool false]) _))
     have e0 : w4.cell? ⟨w.heap.size, 0, none⟩ = some (.int .i64 4) := HE4.out.cell 0
     have e1 : w4.cell? ⟨w.heap.size, 1, none⟩ = some (.int .i64 m) := HE4.out.cell 1
     have e2 : w4.cell? ⟨w.heap.size, 2, none⟩ = some (.string t) := HE4.out.cell 2
     have e3 : w4.cell? ⟨w.heap.size, 3, none⟩ = some (.slice Ab nb zb) := HE4.out.cell 3
     have e4 : w4.cell? ⟨w.heap.size, 4, none⟩ = some (.slice Aa na za) := HE4.out.cell 4
     have e5 : w4.cell? ⟨w.heap.size, 5, none⟩ = some (.int .i64 ck) := HE4.out.cell 5
     have e6 : w4.cell? ⟨w.heap.size, 6, none⟩ = some (.string tn) := HE4.out.cell 6
     have e7 : w4.cell? ⟨w.heap.size, 7, none⟩ = some (.slice A n c) := HE4.out.cell 7
     have e8 : w4.cell? ⟨w.heap.size, 8, none⟩ = some (.int .i64 K) := HE4.out.cell 8
     have e9 : w4.cell? ⟨w.heap.size, 9, none⟩ = some (.string cn) := HE4.out.cell 9
     have e10 : w4.cell? ⟨w.heap.size, 10, none⟩ = some (.int .i64 cq) := HE4.out.cell 10
     have e11 : w4.cell? ⟨w.heap.size, 11, none⟩ = some (.bool cb) := HE4.out.cell 11
     have o0 : w4.cell? ⟨w1.heap.size + 1, 0, none⟩ = some (.int .i64 4) := HO4.out.cell 0
     have o1 : w4.cell? ⟨w1.heap.size + 1, 1, none⟩ = some (.int .i64 0) := HO4.out.cell 1
     have o2 : w4.cell? ⟨w1.heap.size + 1, 2, none⟩ = some (.string t) := HO4.out.cell 2
     have o3 : w4.cell? ⟨w1.heap.size + 1, 3, none⟩ = some (.slice none 0 0) := HO4.out.cell 3
     have o4 : w4.cell? ⟨w1.heap.size + 1, 4, none⟩ = some (.slice Aa na za) := HO4.out.cell 4
     have o5 : w4.cell? ⟨w1.heap.size + 1, 5, none⟩ = some (.int .i64 0) := HO4.out.cell 5
     have o6 : w4.cell? ⟨w1.heap.size + 1, 6, none⟩ = some (.string ⟨#[]⟩) := HO4.out.cell 6
     have o7 : w4.cell? ⟨w1.heap.size + 1, 7, none⟩ = some (.slice none 0 0) := HO4.out.cell 7
     have o8 : w4.cell? ⟨w1.heap.size + 1, 8, none⟩ = some (.int .i64 0) := HO4.out.cell 8
     have o9 : w4.cell? ⟨w1.heap.size + 1, 9, none⟩ = some (.string ⟨#[]⟩) := HO4.out.cell 9
     have o10 : w4.cell? ⟨w1.heap.size + 1, 10, none⟩ = some (.int .i64 0) := HO4.out.cell 10
     have o11 : w4.cell? ⟨w1.heap.size + 1, 11, none⟩ = some (.bool false) := HO4.out.cell 11
     clear hf HEV HBR HTB
     go_wp2_with fail
     refine HS.out.mono ?_
     rintro e w5 ⟨rfl, hb5⟩
     have HB5 := Lib.hid (HB4.out.trans (hb5.out.mono HB4.out.size))
     clear HS hb5 e0 e1 e2 e3 e4 e5 e6 e7 e8 e9 e10 e11 o0 o1 o2 o3 o4 o5 o6 o7 o8 o9 o10 o11
     generalize evF _ _ = q at *
     cases q <;> go_wp2_with fail
     ·go_ret
      exact ⟨by rw [HRG.out]; rfl, HB5⟩
     ·go_ret
      exact ⟨by rw [HRG.out]; rfl, HB5⟩
set_option maxHeartbeats 4000000 in
set_option maxRecDepth 100000 in
theorem isColumn_any (s : ByteArray) (k : Int) (b : Bool) (w : World) (hf : (⟨s, k, false⟩ : Cl).fit) :
 Calls Tryz.prog 87 #[.agg #[.string s, .int .i64 k, .bool b]] w fun e w' => e = .returned (.bool (smayF [⟨s, k, false⟩] 1)) ∧ Hid (Below w.heap.size w w') := by
 have HF := Lib.hid hf
 clear hf
 have HO := Lib.hid (Has.new (w.alloc (.cells #[.string s, .int .i64 k, .bool false] 29)) 29 #[.string s, .int .i64 k, .bool false])
 rw [World.size_alloc] at HO
 have HB := Lib.hid (((Below.refl w.heap.size w).alloc (Nat.le_refl _) (.cells #[.string s, .int .i64 k, .bool false] 29)).alloc (by simp) (.cells #[.string s, .int .i64 k, .bool false] 29))
 have hC : CRow ((w.alloc (.cells #[.string s, .int .i64 k, .bool false] 29)).alloc (.cells #[.string s, .int .i64 k, .bool false] 29)) (some ⟨w.heap.size + 1, 0, none⟩) [⟨s, k, false⟩] := by
  intro _
  refine ⟨w.heap.size + 1, 0, rfl, fun i hi => ?_⟩
  have : i = 0 := by simp at hi; omega
  subst this
  exact ⟨HO.out.cell 0, HO.out.cell 1, HO.out.cell 2⟩
 have HS := Lib.hid (smay_any (some ⟨w.heap.size + 1, 0, none⟩) [⟨s, k, false⟩] 1 1 1 _ rfl (by omega) hC (by intro x hx; simp at hx; subst hx; exact HF.out))
 clear hC HO
 go_enter Tryz.func87, Tryz.ntmps87
 go_wp2_with fail
 refine HS.out.mono ?_
 rintro e w1 ⟨rfl, hb1⟩
 have HB1 := Lib.hid (HB.out.trans (hb1.out.mono HB.out.size))
 go_wp2_with fail
 go_ret
 exact ⟨rfl, HB1⟩
end Go.Proofs.YtnpmgempkoeapaaGreatDoor
