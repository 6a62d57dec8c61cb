/-
  Put together, as far as it is used: MAlt.
-/
import Derived.Test.YtnpmgempkoeapaaGreatDoorPeax
import Derived.Test.YtnpmgempkoeapaaGreatDoorPeaz
import Derived.Deep.RegionHeld3
set_option linter.unusedVariables false
set_option linter.unusedSimpArgs false
set_option linter.defProp false
namespace Go.Proofs.YtnpmgempkoeapaaGreatDoor
open Go.RowKit Dg
set_option maxRecDepth 100000
def ownA (x : Ev) : Ev :=
 if x.ck = 1 then ⟨6, 0, ⟨#[]⟩, [], [], x.ck, x.ct, x.L, x.K, ⟨⟨#[]⟩, 0, false⟩⟩
 else if x.ck = 2 then ⟨6, 0, ⟨#[]⟩, [], [], x.ck, x.ct, [], 0, ⟨⟨#[]⟩, 0, false⟩⟩
 else if x.ck = 4 then ⟨6, 0, ⟨#[]⟩, [], [], x.ck, x.ct, [], 0, ⟨x.cl.nm, 0, false⟩⟩
 else ⟨6, 0, ⟨#[]⟩, [], [], x.ck, x.ct, [], 0, x.cl⟩
def rightA (x : Ev) : Bool := if x.ck = 1 then smayF x.L x.K else if x.ck = 2 then true else if x.ck = 4 then nameF x.cl.nm else smayF [⟨x.cl.nm, x.cl.k, false⟩] 1
def altP (x : Ev) : Int := if x.ck = 1 ∨ x.ck = 2 ∨ x.ck = 3 ∨ x.ck = 4 ∨ x.ck = 5 then (if (rightA x && nameF x.ct && evF x (ownA x)) = true then 0 else 1) else 5
set_option maxHeartbeats 8000000 in
theorem mayAlter_any (x : Ev) (Ab : Option Addr) (nb zb : Nat) (Aa : Option Addr) (na za : Nat) (A : Option Addr) (n c : Nat) (w : World) (h : EvAt w (.agg #[.int .i64 x.k, .int .i64 x.n, .string x.t, .slice Ab nb zb, .slice Aa na za, .int .i64 x.ck, .string x.ct, .slice A n c, .int .i64 x.K, .string x.cl.nm, .int .i64 x.cl.k, .bool x.cl.no]) x) (hL : x.L.length = n ∧ n ≤ 4398046511104 ∧ CRow w A x.L ∧ ∀ y ∈ x.L, y.fit) (hct : x.ct.size ≤ 140737488355328) (hcl : x.cl.fit) :
 Calls Tryz.prog 54 #[.agg #[.int .i64 x.k, .int .i64 x.n, .string x.t, .slice Ab nb zb, .slice Aa na za, .int .i64 x.ck, .string x.ct, .slice A n c, .int .i64 x.K, .string x.cl.nm, .int .i64 x.cl.k, .bool x.cl.no]] w fun e w' => e = .returned (.int .i64 (altP x)) ∧ Hid (Below w.heap.size w w') := by
 have HEV := Lib.hid h
 have HLL := Lib.hid hL
 have HCT := Lib.hid hct
 have HCL := Lib.hid hcl
 clear h hL hct hcl
 obtain ⟨k, m, t, B, AA, ck, ct, L, K, ⟨cn, cq, cb⟩⟩ := x
 by_cases hk1 : ck = 1
 ·subst hk1
  have HS : Hid (altP ⟨k, m, t, B, AA, 1, ct, L, K, ⟨cn, cq, cb⟩⟩ = if (smayF L K && nameF ct && evF ⟨k, m, t, B, AA, 1, ct, L, K, ⟨cn, cq, cb⟩⟩ ⟨6, 0, ⟨#[]⟩, [], [], 1, ct, L, K, ⟨⟨#[]⟩, 0, false⟩⟩) = true then 0 else 1) := by show _ = _; unfold altP rightA ownA; simp
  generalize altP ⟨k, m, t, B, AA, 1, ct, L, K, ⟨cn, cq, cb⟩⟩ = res at *
  go_enter Tryz.func54, Tryz.ntmps54
  go_wp2_with fail
  obtain ⟨W0, hW0⟩ : ∃ W, W = (((w.alloc (.cells #[.int .i64 k, .int .i64 m, .string t, .slice Ab nb zb, .slice Aa na za, .int .i64 1, .string ct, .slice A n c, .int .i64 K, .string cn, .int .i64 cq, .bool cb] 33)).alloc (.cells #[.int .i64 1, .string ct, .slice A n c, .int .i64 K, .string cn, .int .i64 cq, .bool cb] 31)).alloc (.cells #[.int .i64 1, .string ct, .slice none 0 0, .int .i64 0, .string ⟨#[]⟩, .int .i64 0, .bool false] 31)) := ⟨_, rfl⟩
  have HE0 : Hid (Has W0 w.heap.size 33 #[.int .i64 k, .int .i64 m, .string t, .slice Ab nb zb, .slice Aa na za, .int .i64 1, .string ct, .slice A n c, .int .i64 K, .string cn, .int .i64 cq, .bool cb]) := by rw [hW0]; exact ((Has.new _ _ _).alloc _).alloc _
  have HC0 : Hid (Has W0 (w.heap.size + 1) 31 #[.int .i64 1, .string ct, .slice A n c, .int .i64 K, .string cn, .int .i64 cq, .bool cb]) := by
   have q := Has.new (w.alloc (.cells #[.int .i64 k, .int .i64 m, .string t, .slice Ab nb zb, .slice Aa na za, .int .i64 1, .string ct, .slice A n c, .int .i64 K, .string cn, .int .i64 cq, .bool cb] 33)) 31 #[.int .i64 1, .string ct, .slice A n c, .int .i64 K, .string cn, .int .i64 cq, .bool cb]
   rw [World.size_alloc] at q
   rw [hW0]; exact q.alloc _
  have HO0 : Hid (Has W0 (w.heap.size + 2) 31 #[.int .i64 1, .string ct, .slice none 0 0, .int .i64 0, .string ⟨#[]⟩, .int .i64 0, .bool false]) := by
   have q := Has.new ((w.alloc (.cells #[.int .i64 k, .int .i64 m, .string t, .slice Ab nb zb, .slice Aa na za, .int .i64 1, .string ct, .slice A n c, .int .i64 K, .string cn, .int .i64 cq, .bool cb] 33)).alloc (.cells #[.int .i64 1, .string ct, .slice A n c, .int .i64 K, .string cn, .int .i64 cq, .bool cb] 31)) 31 #[.int .i64 1, .string ct, .slice none 0 0, .int .i64 0, .string ⟨#[]⟩, .int .i64 0, .bool false]
   rw [World.size_alloc, World.size_alloc] at q
   rw [hW0]; exact q
  have HB0 : Hid (Below w.heap.size w W0) := by rw [hW0]; exact (((Below.refl w.heap.size w).alloc (Nat.le_refl _) _).alloc (by simp) _).alloc (by simp; omega) _
  rw [← hW0]
  clear hW0
  have HSY := Lib.hid (smay_any A L n c K W0.drew HLL.out.1 HLL.out.2.1 (HLL.out.2.2.1.below (show Below w.heap.size w W0.drew from HB0.out.drew)) HLL.out.2.2.2)
  obtain ⟨rb, hrb⟩ : ∃ q, smayF L K = q := ⟨_, rfl⟩
  rw [hrb] at HS
  rw [hrb] at HSY
  clear hrb
  refine wp_region_held_drew (S := (fun X : World => X.cell? ⟨w.heap.size + 1, 2, none⟩ = some (.slice A n c) ∧ X.cell? ⟨w.heap.size + 1, 3, none⟩ = some (.int .i64 K))) (by kernel_rfl) ⟨HC0.out.cell 2, HC0.out.cell 3⟩ (fun _ => ?_)
  (refine wpAnyH_take (i := 0) (v := ?_) rfl (by kernel_rfl) (by kernel_rfl) (by kernel_rfl) (fun _ _ _ h => h) (Or.inl ⟨by rfl, ?_⟩) (by assumption) ?_; rotate_left; (intro w hSw; (try dsimp only at hSw); go_simp; try with_reducible rfl); ((try simp only [zA, zB, zC, Act.put, zD, zE, zF])))
  (refine wpAnyH_take (i := 1) (v := ?_) rfl (by kernel_rfl) (by kernel_rfl) (by kernel_rfl) (fun _ _ _ h => h) (Or.inl ⟨by rfl, ?_⟩) (by assumption) ?_; rotate_left; (intro w hSw; (try dsimp only at hSw); go_simp; try with_reducible rfl); ((try simp only [zA, zB, zC, Act.put, zD, zE, zF])))
  (refine wpAnyH_take (i := 2) (v := ?_) rfl (by kernel_rfl) (by kernel_rfl) (by kernel_rfl) (fun _ _ _ h => h) (Or.inl ⟨by rfl, ?_⟩) (by assumption) ?_; rotate_left; (intro w hSw; (try dsimp only at hSw); go_simp; try with_reducible rfl); ((try simp only [zA, zB, zC, Act.put, zD, zE, zF])))
  (refine wpAnyH_take (i := 3) (v := ?_) rfl (by kernel_rfl) (by kernel_rfl) (by kernel_rfl) (fun _ _ _ h => h) (Or.inl ⟨by rfl, ?_⟩) (by assumption) ?_; rotate_left; (intro w hSw; (try dsimp only at hSw); go_simp; try with_reducible rfl); ((try simp only [zA, zB, zC, Act.put, zD, zE, zF])))
  (refine wpAnyH_take (i := 5) (v := ?_) rfl (by kernel_rfl) (by kernel_rfl) (by kernel_rfl) (fun _ _ _ h => h) (Or.inl ⟨by rfl, ?_⟩) (by assumption) ?_; rotate_left; (intro w hSw; (try dsimp only at hSw); go_simp; try with_reducible rfl); ((try simp only [zA, zB, zC, Act.put, zD, zE, zF])))
  refine wpAnyH_ready (rs := [4]) (by kernel_rfl) (by simp) ?_
  refine AllReadyH.cons rfl (fun K2 hK2 => ?_) AllReadyH.nil
  go_simp
  refine (HSY.out).mono ?_
  rintro e w4 ⟨rfl, hb4⟩
  have HB4 := Lib.hid (HB0.out.drew.trans (hb4.out.mono (show w.heap.size ≤ W0.drew.heap.size from HB0.out.size)))
  have HE4 := Lib.hid ((show Has W0.drew w.heap.size 33 #[.int .i64 k, .int .i64 m, .string t, .slice Ab nb zb, .slice Aa na za, .int .i64 1, .string ct, .slice A n c, .int .i64 K, .string cn, .int .i64 cq, .bool cb] from HE0.out).below hb4.out HE0.out.lt)
  have HC4 := Lib.hid ((show Has W0.drew (w.heap.size + 1) 31 #[.int .i64 1, .string ct, .slice A n c, .int .i64 K, .string cn, .int .i64 cq, .bool cb] from HC0.out).below hb4.out HC0.out.lt)
  have HO4 := Lib.hid ((show Has W0.drew (w.heap.size + 2) 31 #[.int .i64 1, .string ct, .slice none 0 0, .int .i64 0, .string ⟨#[]⟩, .int .i64 0, .bool false] from HO0.out).below hb4.out HO0.out.lt)
  go_wp2_with fail
  refine hK2.out _ _ (by (try dsimp only); exact ⟨HC4.out.cell 2, HC4.out.cell 3⟩) (fun _ => ?_)
  clear hK2 K2
  (try simp only [zA, zB, zC, Act.put, zD, zE, zF])
  have f2 := HO4.out.free 2
  have d2 := HO4.out.cell 2
  have f3 := HO4.out.free 3
  have d3 := HO4.out.cell 3
  simp only [zG, zH, zI] at d2 d3
  have HO7 : Hid (Has ((w4.setCell ⟨w.heap.size + 2, 2, none⟩ (.slice A n c)).setCell ⟨w.heap.size + 2, 3, none⟩ (.int .i64 K)) (w.heap.size + 2) 31 #[.int .i64 1, .string ct, .slice A n c, .int .i64 K, .string ⟨#[]⟩, .int .i64 0, .bool false]) := ((HO4.out.put 2 (.slice A n c)).put 3 (.int .i64 K))
  have HE7 : Hid (Has ((w4.setCell ⟨w.heap.size + 2, 2, none⟩ (.slice A n c)).setCell ⟨w.heap.size + 2, 3, none⟩ (.int .i64 K)) w.heap.size 33 #[.int .i64 k, .int .i64 m, .string t, .slice Ab nb zb, .slice Aa na za, .int .i64 1, .string ct, .slice A n c, .int .i64 K, .string cn, .int .i64 cq, .bool cb]) := ((HE4.out.far (p := ⟨w.heap.size + 2, 2, none⟩) (by show _ ≠ w.heap.size + 2; omega) (.slice A n c)).far (p := ⟨w.heap.size + 2, 3, none⟩) (by show _ ≠ w.heap.size + 2; omega) (.int .i64 K))
  have HC7 : Hid (Has ((w4.setCell ⟨w.heap.size + 2, 2, none⟩ (.slice A n c)).setCell ⟨w.heap.size + 2, 3, none⟩ (.int .i64 K)) (w.heap.size + 1) 31 #[.int .i64 1, .string ct, .slice A n c, .int .i64 K, .string cn, .int .i64 cq, .bool cb]) := ((HC4.out.far (p := ⟨w.heap.size + 2, 2, none⟩) (by show _ ≠ w.heap.size + 2; omega) (.slice A n c)).far (p := ⟨w.heap.size + 2, 3, none⟩) (by show _ ≠ w.heap.size + 2; omega) (.int .i64 K))
  have HB7 : Hid (Below w.heap.size w ((w4.setCell ⟨w.heap.size + 2, 2, none⟩ (.slice A n c)).setCell ⟨w.heap.size + 2, 3, none⟩ (.int .i64 K))) := ((HB4.out.setCell (p := ⟨w.heap.size + 2, 2, none⟩) (by show w.heap.size ≤ w.heap.size + 2; omega) (.slice A n c)).setCell (p := ⟨w.heap.size + 2, 3, none⟩) (by show w.heap.size ≤ w.heap.size + 2; omega) (.int .i64 K))
  refine wpAnyH_ready (rs := [6]) (by kernel_rfl) (by simp) ?_
  refine AllReadyH.cons rfl (fun K2 hK2 => ?_) (AllReadyH.nil)
  go_simp
  refine hK2.out _ _ (by (try dsimp only); exact ⟨HC7.out.cell 2, HC7.out.cell 3⟩) (fun _ => ?_)
  clear hK2 K2
  (try simp only [zA, zB, zC, Act.put, zD, zE, zF])
  (refine wpAnyH_take (i := 7) (v := ?_) rfl (by kernel_rfl) (by kernel_rfl) (by kernel_rfl) (fun _ _ _ h => h) (Or.inl ⟨by rfl, ?_⟩) (by assumption) ?_; rotate_left; (intro w hSw; (try dsimp only at hSw); go_simp; try with_reducible rfl); ((try simp only [zA, zB, zC, Act.put, zD, zE, zF])))
  refine wpAnyH_done (by kernel_rfl) ?_ _
  obtain ⟨W7, hW7⟩ : ∃ W, W = ((w4.setCell ⟨w.heap.size + 2, 2, none⟩ (.slice A n c)).setCell ⟨w.heap.size + 2, 3, none⟩ (.int .i64 K)) := ⟨_, rfl⟩
  rw [← hW7] at HO7 HE7 HC7 HB7 ⊢
  clear hW7 hb4 HB4 HE4 HC4 HO4 HB0 HE0 HC0 HO0 f2 d2 f3 d3
  clear HSY
  have c1 : W7.cell? ⟨w.heap.size + 1, 1, none⟩ = some (.string ct) := HC7.out.cell 1
  have HNM := Lib.hid (name_any ct W7 HCT.out)
  cases rb
  ·go_wp2_with fail
   go_ret
   exact ⟨by rw [HS.out]; rfl, HB7⟩
  ·go_wp2_with fail
   refine HNM.out.mono ?_
   rintro e w5 ⟨rfl, hb5⟩
   have HB5 := Lib.hid (HB7.out.trans (hb5.out.mono HB7.out.size))
   have HE5 := Lib.hid (HE7.out.below hb5.out HE7.out.lt)
   have HO5 := Lib.hid (HO7.out.below hb5.out HO7.out.lt)
   obtain ⟨nf, hnf⟩ : ∃ q, nameF ct = q := ⟨_, rfl⟩
   rw [hnf] at HS ⊢
   clear hnf hb5 c1 HNM HE7 HO7 HC7 HB7
   cases nf
   ·go_wp2_with fail
    go_ret
    exact ⟨by rw [HS.out]; rfl, HB5⟩
   ·have e0 := HE5.out.cell 0
    have e1 := HE5.out.cell 1
    have e2 := HE5.out.cell 2
    have e3 := HE5.out.cell 3
    have e4 := HE5.out.cell 4
    have e5 := HE5.out.cell 5
    have e6 := HE5.out.cell 6
    have e7 := HE5.out.cell 7
    have e8 := HE5.out.cell 8
    have e9 := HE5.out.cell 9
    have e10 := HE5.out.cell 10
    have e11 := HE5.out.cell 11
    have o0 := HO5.out.cell 0
    have o1 := HO5.out.cell 1
    have o2 := HO5.out.cell 2
    have o3 := HO5.out.cell 3
    have o4 := HO5.out.cell 4
    have o5 := HO5.out.cell 5
    have o6 := HO5.out.cell 6
    simp only [zG, zH, zI] at e0 e1 e2 e3 e4 e5 e6 e7 e8 e9 e10 e11 o0 o1 o2 o3 o4 o5 o6
    have HSM := Lib.hid (esame_any (.agg #[.int .i64 k, .int .i64 m, .string t, .slice Ab nb zb, .slice Aa na za, .int .i64 1, .string ct, .slice A n c, .int .i64 K, .string cn, .int .i64 cq, .bool cb]) (.agg #[.int .i64 6, .int .i64 0, .string ⟨#[]⟩, .slice none 0 0, .slice none 0 0, .int .i64 1, .string ct, .slice A n c, .int .i64 K, .string ⟨#[]⟩, .int .i64 0, .bool false]) ⟨k, m, t, B, AA, 1, ct, L, K, ⟨cn, cq, cb⟩⟩ ⟨6, 0, ⟨#[]⟩, [], [], 1, ct, L, K, ⟨⟨#[]⟩, 0, false⟩⟩ w5 (HEV.out.below HB5.out) (by exact ⟨none, 0, 0, none, 0, 0, A, n, c, rfl, ⟨rfl, by omega, fun h => absurd rfl h⟩, ⟨rfl, by omega, fun h => absurd rfl h⟩, HLL.out.1, HLL.out.2.1, HLL.out.2.2.1.below HB5.out⟩))
    obtain ⟨sf, hsf⟩ : ∃ q, evF ⟨k, m, t, B, AA, 1, ct, L, K, ⟨cn, cq, cb⟩⟩ ⟨6, 0, ⟨#[]⟩, [], [], 1, ct, L, K, ⟨⟨#[]⟩, 0, false⟩⟩ = q := ⟨_, rfl⟩
    rw [hsf] at HS HSM
    clear hsf
    go_wp2_with fail
    refine HSM.out.mono ?_
    rintro e w6 ⟨rfl, hb6⟩
    have HB6 := Lib.hid (HB5.out.trans (hb6.out.mono HB5.out.size))
    cases sf
    ·go_wp2_with fail
     go_ret
     exact ⟨by rw [HS.out]; rfl, HB6⟩
    ·go_wp2_with fail
     go_ret
     exact ⟨by rw [HS.out]; rfl, HB6⟩
 ·by_cases hk2 : ck = 2
  ·subst hk2
   have HS : Hid (altP ⟨k, m, t, B, AA, 2, ct, L, K, ⟨cn, cq, cb⟩⟩ = if (true && nameF ct && evF ⟨k, m, t, B, AA, 2, ct, L, K, ⟨cn, cq, cb⟩⟩ ⟨6, 0, ⟨#[]⟩, [], [], 2, ct, [], 0, ⟨⟨#[]⟩, 0, false⟩⟩) = true then 0 else 1) := by show _ = _; unfold altP rightA ownA; simp
   generalize altP ⟨k, m, t, B, AA, 2, ct, L, K, ⟨cn, cq, cb⟩⟩ = res at *
   go_enter Tryz.func54, Tryz.ntmps54
   go_wp2_with fail
   obtain ⟨W0, hW0⟩ : ∃ W, W = (((w.alloc (.cells #[.int .i64 k, .int .i64 m, .string t, .slice Ab nb zb, .slice Aa na za, .int .i64 2, .string ct, .slice A n c, .int .i64 K, .string cn, .int .i64 cq, .bool cb] 33)).alloc (.cells #[.int .i64 2, .string ct, .slice A n c, .int .i64 K, .string cn, .int .i64 cq, .bool cb] 31)).alloc (.cells #[.int .i64 2, .string ct, .slice none 0 0, .int .i64 0, .string ⟨#[]⟩, .int .i64 0, .bool false] 31)) := ⟨_, rfl⟩
   have HE0 : Hid (Has W0 w.heap.size 33 #[.int .i64 k, .int .i64 m, .string t, .slice Ab nb zb, .slice Aa na za, .int .i64 2, .string ct, .slice A n c, .int .i64 K, .string cn, .int .i64 cq, .bool cb]) := by rw [hW0]; exact ((Has.new _ _ _).alloc _).alloc _
   have HC0 : Hid (Has W0 (w.heap.size + 1) 31 #[.int .i64 2, .string ct, .slice A n c, .int .i64 K, .string cn, .int .i64 cq, .bool cb]) := by
    have q := Has.new (w.alloc (.cells #[.int .i64 k, .int .i64 m, .string t, .slice Ab nb zb, .slice Aa na za, .int .i64 2, .string ct, .slice A n c, .int .i64 K, .string cn, .int .i64 cq, .bool cb] 33)) 31 #[.int .i64 2, .string ct, .slice A n c, .int .i64 K, .string cn, .int .i64 cq, .bool cb]
    rw [World.size_alloc] at q
    rw [hW0]; exact q.alloc _
   have HO0 : Hid (Has W0 (w.heap.size + 2) 31 #[.int .i64 2, .string ct, .slice none 0 0, .int .i64 0, .string ⟨#[]⟩, .int .i64 0, .bool false]) := by
    have q := Has.new ((w.alloc (.cells #[.int .i64 k, .int .i64 m, .string t, .slice Ab nb zb, .slice Aa na za, .int .i64 2, .string ct, .slice A n c, .int .i64 K, .string cn, .int .i64 cq, .bool cb] 33)).alloc (.cells #[.int .i64 2, .string ct, .slice A n c, .int .i64 K, .string cn, .int .i64 cq, .bool cb] 31)) 31 #[.int .i64 2, .string ct, .slice none 0 0, .int .i64 0, .string ⟨#[]⟩, .int .i64 0, .bool false]
    rw [World.size_alloc, World.size_alloc] at q
    rw [hW0]; exact q
   have HB0 : Hid (Below w.heap.size w W0) := by rw [hW0]; exact (((Below.refl w.heap.size w).alloc (Nat.le_refl _) _).alloc (by simp) _).alloc (by simp; omega) _
   rw [← hW0]
   clear hW0
   have c1 : W0.cell? ⟨w.heap.size + 1, 1, none⟩ = some (.string ct) := HC0.out.cell 1
   have HNM := Lib.hid (name_any ct W0 HCT.out)
   ·skip
    refine HNM.out.mono ?_
    rintro e w5 ⟨rfl, hb5⟩
    have HB5 := Lib.hid (HB0.out.trans (hb5.out.mono HB0.out.size))
    have HE5 := Lib.hid (HE0.out.below hb5.out HE0.out.lt)
    have HO5 := Lib.hid (HO0.out.below hb5.out HO0.out.lt)
    obtain ⟨nf, hnf⟩ : ∃ q, nameF ct = q := ⟨_, rfl⟩
    rw [hnf] at HS ⊢
    clear hnf hb5 c1 HNM HE0 HO0 HC0 HB0
    cases nf
    ·go_wp2_with fail
     go_ret
     exact ⟨by rw [HS.out]; rfl, HB5⟩
    ·have e0 := HE5.out.cell 0
     have e1 := HE5.out.cell 1
     have e2 := HE5.out.cell 2
     have e3 := HE5.out.cell 3
     have e4 := HE5.out.cell 4
     have e5 := HE5.out.cell 5
     have e6 := HE5.out.cell 6
     have e7 := HE5.out.cell 7
     have e8 := HE5.out.cell 8
     have e9 := HE5.out.cell 9
     have e10 := HE5.out.cell 10
     have e11 := HE5.out.cell 11
     have o0 := HO5.out.cell 0
     have o1 := HO5.out.cell 1
     have o2 := HO5.out.cell 2
     have o3 := HO5.out.cell 3
     have o4 := HO5.out.cell 4
     have o5 := HO5.out.cell 5
     have o6 := HO5.out.cell 6
     simp only [zG, zH, zI] at e0 e1 e2 e3 e4 e5 e6 e7 e8 e9 e10 e11 o0 o1 o2 o3 o4 o5 o6
     have HSM := Lib.hid (esame_any (.agg #[.int .i64 k, .int .i64 m, .string t, .slice Ab nb zb, .slice Aa na za, .int .i64 2, .string ct, .slice A n c, .int .i64 K, .string cn, .int .i64 cq, .bool cb]) (.agg #[.int .i64 6, .int .i64 0, .string ⟨#[]⟩, .slice none 0 0, .slice none 0 0, .int .i64 2, .string ct, .slice none 0 0, .int .i64 0, .string ⟨#[]⟩, .int .i64 0, .bool false]) ⟨k, m, t, B, AA, 2, ct, L, K, ⟨cn, cq, cb⟩⟩ ⟨6, 0, ⟨#[]⟩, [], [], 2, ct, [], 0, ⟨⟨#[]⟩, 0, false⟩⟩ w5 (HEV.out.below HB5.out) (by exact ⟨none, 0, 0, none, 0, 0, none, 0, 0, rfl, ⟨rfl, by omega, fun h => absurd rfl h⟩, ⟨rfl, by omega, fun h => absurd rfl h⟩, rfl, by omega, fun h => absurd rfl h⟩))
     obtain ⟨sf, hsf⟩ : ∃ q, evF ⟨k, m, t, B, AA, 2, ct, L, K, ⟨cn, cq, cb⟩⟩ ⟨6, 0, ⟨#[]⟩, [], [], 2, ct, [], 0, ⟨⟨#[]⟩, 0, false⟩⟩ = q := ⟨_, rfl⟩
     rw [hsf] at HS HSM
     clear hsf
     go_wp2_with fail
     refine HSM.out.mono ?_
     rintro e w6 ⟨rfl, hb6⟩
     have HB6 := Lib.hid (HB5.out.trans (hb6.out.mono HB5.out.size))
     cases sf
     ·go_wp2_with fail
      go_ret
      exact ⟨by rw [HS.out]; rfl, HB6⟩
     ·go_wp2_with fail
      go_ret
      exact ⟨by rw [HS.out]; rfl, HB6⟩
  ·by_cases hk4 : ck = 4
   ·subst hk4
    have HS : Hid (altP ⟨k, m, t, B, AA, 4, ct, L, K, ⟨cn, cq, cb⟩⟩ = if (nameF cn && nameF ct && evF ⟨k, m, t, B, AA, 4, ct, L, K, ⟨cn, cq, cb⟩⟩ ⟨6, 0, ⟨#[]⟩, [], [], 4, ct, [], 0, ⟨cn, 0, false⟩⟩) = true then 0 else 1) := by show _ = _; unfold altP rightA ownA; simp
    generalize altP ⟨k, m, t, B, AA, 4, ct, L, K, ⟨cn, cq, cb⟩⟩ = res at *
    go_enter Tryz.func54, Tryz.ntmps54
    go_wp2_with fail
    obtain ⟨W0, hW0⟩ : ∃ W, W = (((w.alloc (.cells #[.int .i64 k, .int .i64 m, .string t, .slice Ab nb zb, .slice Aa na za, .int .i64 4, .string ct, .slice A n c, .int .i64 K, .string cn, .int .i64 cq, .bool cb] 33)).alloc (.cells #[.int .i64 4, .string ct, .slice A n c, .int .i64 K, .string cn, .int .i64 cq, .bool cb] 31)).alloc (.cells #[.int .i64 4, .string ct, .slice none 0 0, .int .i64 0, .string ⟨#[]⟩, .int .i64 0, .bool false] 31)) := ⟨_, rfl⟩
    have HE0 : Hid (Has W0 w.heap.size 33 #[.int .i64 k, .int .i64 m, .string t, .slice Ab nb zb, .slice Aa na za, .int .i64 4, .string ct, .slice A n c, .int .i64 K, .string cn, .int .i64 cq, .bool cb]) := by rw [hW0]; exact ((Has.new _ _ _).alloc _).alloc _
    have HC0 : Hid (Has W0 (w.heap.size + 1) 31 #[.int .i64 4, .string ct, .slice A n c, .int .i64 K, .string cn, .int .i64 cq, .bool cb]) := by
     have q := Has.new (w.alloc (.cells #[.int .i64 k, .int .i64 m, .string t, .slice Ab nb zb, .slice Aa na za, .int .i64 4, .string ct, .slice A n c, .int .i64 K, .string cn, .int .i64 cq, .bool cb] 33)) 31 #[.int .i64 4, .string ct, .slice A n c, .int .i64 K, .string cn, .int .i64 cq, .bool cb]
     rw [World.size_alloc] at q
     rw [hW0]; exact q.alloc _
    have HO0 : Hid (Has W0 (w.heap.size + 2) 31 #[.int .i64 4, .string ct, .slice none 0 0, .int .i64 0, .string ⟨#[]⟩, .int .i64 0, .bool false]) := by
     have q := Has.new ((w.alloc (.cells #[.int .i64 k, .int .i64 m, .string t, .slice Ab nb zb, .slice Aa na za, .int .i64 4, .string ct, .slice A n c, .int .i64 K, .string cn, .int .i64 cq, .bool cb] 33)).alloc (.cells #[.int .i64 4, .string ct, .slice A n c, .int .i64 K, .string cn, .int .i64 cq, .bool cb] 31)) 31 #[.int .i64 4, .string ct, .slice none 0 0, .int .i64 0, .string ⟨#[]⟩, .int .i64 0, .bool false]
     rw [World.size_alloc, World.size_alloc] at q
     rw [hW0]; exact q
    have HB0 : Hid (Below w.heap.size w W0) := by rw [hW0]; exact (((Below.refl w.heap.size w).alloc (Nat.le_refl _) _).alloc (by simp) _).alloc (by simp; omega) _
    rw [← hW0]
    clear hW0
    have HSY := Lib.hid (name_any cn W0.drew HCL.out.1)
    obtain ⟨rb, hrb⟩ : ∃ q, nameF cn = q := ⟨_, rfl⟩
    rw [hrb] at HS
    rw [hrb] at HSY
    clear hrb
    refine wp_region_held_drew (S := (fun X : World => X.cell? ⟨w.heap.size + 1, 4, none⟩ = some (.string cn))) (by kernel_rfl) (HC0.out.cell 4) (fun _ => ?_)
    (refine wpAnyH_take (i := 0) (v := ?_) rfl (by kernel_rfl) (by kernel_rfl) (by kernel_rfl) (fun _ _ _ h => h) (Or.inl ⟨by rfl, ?_⟩) (by assumption) ?_; rotate_left; (intro w hSw; (try dsimp only at hSw); go_simp; try with_reducible rfl); ((try simp only [zA, zB, zC, Act.put, zD, zE, zF])))
    (refine wpAnyH_take (i := 1) (v := ?_) rfl (by kernel_rfl) (by kernel_rfl) (by kernel_rfl) (fun _ _ _ h => h) (Or.inl ⟨by rfl, ?_⟩) (by assumption) ?_; rotate_left; (intro w hSw; (try dsimp only at hSw); go_simp; try with_reducible rfl); ((try simp only [zA, zB, zC, Act.put, zD, zE, zF])))
    (refine wpAnyH_take (i := 2) (v := ?_) rfl (by kernel_rfl) (by kernel_rfl) (by kernel_rfl) (fun _ _ _ h => h) (Or.inl ⟨by rfl, ?_⟩) (by assumption) ?_; rotate_left; (intro w hSw; (try dsimp only at hSw); go_simp; try with_reducible rfl); ((try simp only [zA, zB, zC, Act.put, zD, zE, zF])))
    (refine wpAnyH_take (i := 3) (v := ?_) rfl (by kernel_rfl) (by kernel_rfl) (by kernel_rfl) (fun _ _ _ h => h) (Or.inl ⟨by rfl, ?_⟩) (by assumption) ?_; rotate_left; (intro w hSw; (try dsimp only at hSw); go_simp; try with_reducible rfl); ((try simp only [zA, zB, zC, Act.put, zD, zE, zF])))
    (refine wpAnyH_take (i := 4) (v := ?_) rfl (by kernel_rfl) (by kernel_rfl) (by kernel_rfl) (fun _ _ _ h => h) (Or.inl ⟨by rfl, ?_⟩) (by assumption) ?_; rotate_left; (intro w hSw; (try dsimp only at hSw); go_simp; try with_reducible rfl); ((try simp only [zA, zB, zC, Act.put, zD, zE, zF])))
    (refine wpAnyH_take (i := 5) (v := ?_) rfl (by kernel_rfl) (by kernel_rfl) (by kernel_rfl) (fun _ _ _ h => h) (Or.inl ⟨by rfl, ?_⟩) (by assumption) ?_; rotate_left; (intro w hSw; (try dsimp only at hSw); go_simp; try with_reducible rfl); ((try simp only [zA, zB, zC, Act.put, zD, zE, zF])))
    (refine wpAnyH_take (i := 7) (v := ?_) rfl (by kernel_rfl) (by kernel_rfl) (by kernel_rfl) (fun _ _ _ h => h) (Or.inl ⟨by rfl, ?_⟩) (by assumption) ?_; rotate_left; (intro w hSw; (try dsimp only at hSw); go_simp; try with_reducible rfl); ((try simp only [zA, zB, zC, Act.put, zD, zE, zF])))
    (refine wpAnyH_take (i := 8) (v := ?_) rfl (by kernel_rfl) (by kernel_rfl) (by kernel_rfl) (fun _ _ _ h => h) (Or.inl ⟨by rfl, ?_⟩) (by assumption) ?_; rotate_left; (intro w hSw; (try dsimp only at hSw); go_simp; try with_reducible rfl); ((try simp only [zA, zB, zC, Act.put, zD, zE, zF])))
    refine wpAnyH_ready (rs := [6]) (by kernel_rfl) (by simp) ?_
    refine AllReadyH.cons rfl (fun K2 hK2 => ?_) AllReadyH.nil
    go_simp
    refine (HSY.out).mono ?_
    rintro e w4 ⟨rfl, hb4⟩
    have HB4 := Lib.hid (HB0.out.drew.trans (hb4.out.mono (show w.heap.size ≤ W0.drew.heap.size from HB0.out.size)))
    have HE4 := Lib.hid ((show Has W0.drew w.heap.size 33 #[.int .i64 k, .int .i64 m, .string t, .slice Ab nb zb, .slice Aa na za, .int .i64 4, .string ct, .slice A n c, .int .i64 K, .string cn, .int .i64 cq, .bool cb] from HE0.out).below hb4.out HE0.out.lt)
    have HC4 := Lib.hid ((show Has W0.drew (w.heap.size + 1) 31 #[.int .i64 4, .string ct, .slice A n c, .int .i64 K, .string cn, .int .i64 cq, .bool cb] from HC0.out).below hb4.out HC0.out.lt)
    have HO4 := Lib.hid ((show Has W0.drew (w.heap.size + 2) 31 #[.int .i64 4, .string ct, .slice none 0 0, .int .i64 0, .string ⟨#[]⟩, .int .i64 0, .bool false] from HO0.out).below hb4.out HO0.out.lt)
    go_wp2_with fail
    refine hK2.out _ _ (by (try dsimp only); exact (HC4.out.cell 4)) (fun _ => ?_)
    clear hK2 K2
    (try simp only [zA, zB, zC, Act.put, zD, zE, zF])
    have f4 := HO4.out.free 4
    have d4 := HO4.out.cell 4
    simp only [zG, zH, zI] at d4
    have HO7 : Hid (Has (w4.setCell ⟨w.heap.size + 2, 4, none⟩ (.string cn)) (w.heap.size + 2) 31 #[.int .i64 4, .string ct, .slice none 0 0, .int .i64 0, .string cn, .int .i64 0, .bool false]) := (HO4.out.put 4 (.string cn))
    have HE7 : Hid (Has (w4.setCell ⟨w.heap.size + 2, 4, none⟩ (.string cn)) w.heap.size 33 #[.int .i64 k, .int .i64 m, .string t, .slice Ab nb zb, .slice Aa na za, .int .i64 4, .string ct, .slice A n c, .int .i64 K, .string cn, .int .i64 cq, .bool cb]) := (HE4.out.far (p := ⟨w.heap.size + 2, 4, none⟩) (by show _ ≠ w.heap.size + 2; omega) (.string cn))
    have HC7 : Hid (Has (w4.setCell ⟨w.heap.size + 2, 4, none⟩ (.string cn)) (w.heap.size + 1) 31 #[.int .i64 4, .string ct, .slice A n c, .int .i64 K, .string cn, .int .i64 cq, .bool cb]) := (HC4.out.far (p := ⟨w.heap.size + 2, 4, none⟩) (by show _ ≠ w.heap.size + 2; omega) (.string cn))
    have HB7 : Hid (Below w.heap.size w (w4.setCell ⟨w.heap.size + 2, 4, none⟩ (.string cn))) := (HB4.out.setCell (p := ⟨w.heap.size + 2, 4, none⟩) (by show w.heap.size ≤ w.heap.size + 2; omega) (.string cn))
    refine wpAnyH_ready (rs := [9]) (by kernel_rfl) (by simp) ?_
    refine AllReadyH.cons rfl (fun K2 hK2 => ?_) (AllReadyH.nil)
    go_simp
    refine hK2.out _ _ (by (try dsimp only); exact (HC7.out.cell 4)) (fun _ => ?_)
    clear hK2 K2
    (try simp only [zA, zB, zC, Act.put, zD, zE, zF])
    (refine wpAnyH_take (i := 10) (v := ?_) rfl (by kernel_rfl) (by kernel_rfl) (by kernel_rfl) (fun _ _ _ h => h) (Or.inl ⟨by rfl, ?_⟩) (by assumption) ?_; rotate_left; (intro w hSw; (try dsimp only at hSw); go_simp; try with_reducible rfl); ((try simp only [zA, zB, zC, Act.put, zD, zE, zF])))
    refine wpAnyH_done (by kernel_rfl) ?_ _
    obtain ⟨W7, hW7⟩ : ∃ W, W = (w4.setCell ⟨w.heap.size + 2, 4, none⟩ (.string cn)) := ⟨_, rfl⟩
    rw [← hW7] at HO7 HE7 HC7 HB7 ⊢
    clear hW7 hb4 HB4 HE4 HC4 HO4 HB0 HE0 HC0 HO0 f4 d4
    clear HSY
    have c1 : W7.cell? ⟨w.heap.size + 1, 1, none⟩ = some (.string ct) := HC7.out.cell 1
    have HNM := Lib.hid (name_any ct W7 HCT.out)
    cases rb
    ·go_wp2_with fail
     go_ret
     exact ⟨by rw [HS.out]; rfl, HB7⟩
    ·go_wp2_with fail
     refine HNM.out.mono ?_
     rintro e w5 ⟨rfl, hb5⟩
     have HB5 := Lib.hid (HB7.out.trans (hb5.out.mono HB7.out.size))
     have HE5 := Lib.hid (HE7.out.below hb5.out HE7.out.lt)
     have HO5 := Lib.hid (HO7.out.below hb5.out HO7.out.lt)
     obtain ⟨nf, hnf⟩ : ∃ q, nameF ct = q := ⟨_, rfl⟩
     rw [hnf] at HS ⊢
     clear hnf hb5 c1 HNM HE7 HO7 HC7 HB7
     cases nf
     ·go_wp2_with fail
      go_ret
      exact ⟨by rw [HS.out]; rfl, HB5⟩
     ·have e0 := HE5.out.cell 0
      have e1 := HE5.out.cell 1
      have e2 := HE5.out.cell 2
      have e3 := HE5.out.cell 3
      have e4 := HE5.out.cell 4
      have e5 := HE5.out.cell 5
      have e6 := HE5.out.cell 6
      have e7 := HE5.out.cell 7
      have e8 := HE5.out.cell 8
      have e9 := HE5.out.cell 9
      have e10 := HE5.out.cell 10
      have e11 := HE5.out.cell 11
      have o0 := HO5.out.cell 0
      have o1 := HO5.out.cell 1
      have o2 := HO5.out.cell 2
      have o3 := HO5.out.cell 3
      have o4 := HO5.out.cell 4
      have o5 := HO5.out.cell 5
      have o6 := HO5.out.cell 6
      simp only [zG, zH, zI] at e0 e1 e2 e3 e4 e5 e6 e7 e8 e9 e10 e11 o0 o1 o2 o3 o4 o5 o6
      have HSM := Lib.hid (esame_any (.agg #[.int .i64 k, .int .i64 m, .string t, .slice Ab nb zb, .slice Aa na za, .int .i64 4, .string ct, .slice A n c, .int .i64 K, .string cn, .int .i64 cq, .bool cb]) (.agg #[.int .i64 6, .int .i64 0, .string ⟨#[]⟩, .slice none 0 0, .slice none 0 0, .int .i64 4, .string ct, .slice none 0 0, .int .i64 0, .string cn, .int .i64 0, .bool false]) ⟨k, m, t, B, AA, 4, ct, L, K, ⟨cn, cq, cb⟩⟩ ⟨6, 0, ⟨#[]⟩, [], [], 4, ct, [], 0, ⟨cn, 0, false⟩⟩ w5 (HEV.out.below HB5.out) (by exact ⟨none, 0, 0, none, 0, 0, none, 0, 0, rfl, ⟨rfl, by omega, fun h => absurd rfl h⟩, ⟨rfl, by omega, fun h => absurd rfl h⟩, rfl, by omega, fun h => absurd rfl h⟩))
      obtain ⟨sf, hsf⟩ : ∃ q, evF ⟨k, m, t, B, AA, 4, ct, L, K, ⟨cn, cq, cb⟩⟩ ⟨6, 0, ⟨#[]⟩, [], [], 4, ct, [], 0, ⟨cn, 0, false⟩⟩ = q := ⟨_, rfl⟩
      rw [hsf] at HS HSM
      clear hsf
      go_wp2_with fail
      refine HSM.out.mono ?_
      rintro e w6 ⟨rfl, hb6⟩
      have HB6 := Lib.hid (HB5.out.trans (hb6.out.mono HB5.out.size))
      cases sf
      ·go_wp2_with fail
       go_ret
       exact ⟨by rw [HS.out]; rfl, HB6⟩
      ·go_wp2_with fail
       go_ret
       exact ⟨by rw [HS.out]; rfl, HB6⟩
   ·by_cases hk35 : ck = 3 ∨ ck = 5
    ·rcases hk35 with rfl | rfl
     ·skip
      have HS : Hid (altP ⟨k, m, t, B, AA, 3, ct, L, K, ⟨cn, cq, cb⟩⟩ = if (smayF [⟨cn, cq, false⟩] 1 && nameF ct && evF ⟨k, m, t, B, AA, 3, ct, L, K, ⟨cn, cq, cb⟩⟩ ⟨6, 0, ⟨#[]⟩, [], [], 3, ct, [], 0, ⟨cn, cq, cb⟩⟩) = true then 0 else 1) := by show _ = _; unfold altP rightA ownA; simp
      generalize altP ⟨k, m, t, B, AA, 3, ct, L, K, ⟨cn, cq, cb⟩⟩ = res at *
      go_enter Tryz.func54, Tryz.ntmps54
      go_wp2_with fail
      obtain ⟨W0, hW0⟩ : ∃ W, W = (((w.alloc (.cells #[.int .i64 k, .int .i64 m, .string t, .slice Ab nb zb, .slice Aa na za, .int .i64 3, .string ct, .slice A n c, .int .i64 K, .string cn, .int .i64 cq, .bool cb] 33)).alloc (.cells #[.int .i64 3, .string ct, .slice A n c, .int .i64 K, .string cn, .int .i64 cq, .bool cb] 31)).alloc (.cells #[.int .i64 3, .string ct, .slice none 0 0, .int .i64 0, .string ⟨#[]⟩, .int .i64 0, .bool false] 31)) := ⟨_, rfl⟩
      have HE0 : Hid (Has W0 w.heap.size 33 #[.int .i64 k, .int .i64 m, .string t, .slice Ab nb zb, .slice Aa na za, .int .i64 3, .string ct, .slice A n c, .int .i64 K, .string cn, .int .i64 cq, .bool cb]) := by rw [hW0]; exact ((Has.new _ _ _).alloc _).alloc _
      have HC0 : Hid (Has W0 (w.heap.size + 1) 31 #[.int .i64 3, .string ct, .slice A n c, .int .i64 K, .string cn, .int .i64 cq, .bool cb]) := by
       have q := Has.new (w.alloc (.cells #[.int .i64 k, .int .i64 m, .string t, .slice Ab nb zb, .slice Aa na za, .int .i64 3, .string ct, .slice A n c, .int .i64 K, .string cn, .int .i64 cq, .bool cb] 33)) 31 #[.int .i64 3, .string ct, .slice A n c, .int .i64 K, .string cn, .int .i64 cq, .bool cb]
       rw [World.size_alloc] at q
       rw [hW0]; exact q.alloc _
      have HO0 : Hid (Has W0 (w.heap.size + 2) 31 #[.int .i64 3, .string ct, .slice none 0 0, .int .i64 0, .string ⟨#[]⟩, .int .i64 0, .bool false]) := by
       have q := Has.new ((w.alloc (.cells #[.int .i64 k, .int .i64 m, .string t, .slice Ab nb zb, .slice Aa na za, .int .i64 3, .string ct, .slice A n c, .int .i64 K, .string cn, .int .i64 cq, .bool cb] 33)).alloc (.cells #[.int .i64 3, .string ct, .slice A n c, .int .i64 K, .string cn, .int .i64 cq, .bool cb] 31)) 31 #[.int .i64 3, .string ct, .slice none 0 0, .int .i64 0, .string ⟨#[]⟩, .int .i64 0, .bool false]
       rw [World.size_alloc, World.size_alloc] at q
       rw [hW0]; exact q
      have HB0 : Hid (Below w.heap.size w W0) := by rw [hW0]; exact (((Below.refl w.heap.size w).alloc (Nat.le_refl _) _).alloc (by simp) _).alloc (by simp; omega) _
      rw [← hW0]
      clear hW0
      have HSY := Lib.hid (isColumn_any cn cq cb W0.drew ⟨HCL.out.1, HCL.out.2.1, HCL.out.2.2⟩)
      obtain ⟨rb, hrb⟩ : ∃ q, smayF [⟨cn, cq, false⟩] 1 = q := ⟨_, rfl⟩
      rw [hrb] at HS
      rw [hrb] at HSY
      clear hrb
      refine wp_region_held_drew (S := (fun X : World => X.cell? ⟨w.heap.size + 1, 4, none⟩ = some (.string cn) ∧ X.cell? ⟨w.heap.size + 1, 5, none⟩ = some (.int .i64 cq) ∧ X.cell? ⟨w.heap.size + 1, 6, none⟩ = some (.bool cb))) (by kernel_rfl) ⟨HC0.out.cell 4, HC0.out.cell 5, HC0.out.cell 6⟩ (fun _ => ?_)
      (refine wpAnyH_take (i := 0) (v := ?_) rfl (by kernel_rfl) (by kernel_rfl) (by kernel_rfl) (fun _ _ _ h => h) (Or.inl ⟨by rfl, ?_⟩) (by assumption) ?_; rotate_left; (intro w hSw; (try dsimp only at hSw); go_simp; try with_reducible rfl); ((try simp only [zA, zB, zC, Act.put, zD, zE, zF])))
      (refine wpAnyH_take (i := 1) (v := ?_) rfl (by kernel_rfl) (by kernel_rfl) (by kernel_rfl) (fun _ _ _ h => h) (Or.inl ⟨by rfl, ?_⟩) (by assumption) ?_; rotate_left; (intro w hSw; (try dsimp only at hSw); go_simp; try with_reducible rfl); ((try simp only [zA, zB, zC, Act.put, zD, zE, zF])))
      (refine wpAnyH_take (i := 2) (v := ?_) rfl (by kernel_rfl) (by kernel_rfl) (by kernel_rfl) (fun _ _ _ h => h) (Or.inl ⟨by rfl, ?_⟩) (by assumption) ?_; rotate_left; (intro w hSw; (try dsimp only at hSw); go_simp; try with_reducible rfl); ((try simp only [zA, zB, zC, Act.put, zD, zE, zF])))
      (refine wpAnyH_take (i := 3) (v := ?_) rfl (by kernel_rfl) (by kernel_rfl) (by kernel_rfl) (fun _ _ _ h => h) (Or.inl ⟨by rfl, ?_⟩) (by assumption) ?_; rotate_left; (intro w hSw; (try dsimp only at hSw); go_simp; try with_reducible rfl); ((try simp only [zA, zB, zC, Act.put, zD, zE, zF])))
      (refine wpAnyH_take (i := 5) (v := ?_) rfl (by kernel_rfl) (by kernel_rfl) (by kernel_rfl) (fun _ _ _ h => h) (Or.inl ⟨by rfl, ?_⟩) (by assumption) ?_; rotate_left; (intro w hSw; (try dsimp only at hSw); go_simp; try with_reducible rfl); ((try simp only [zA, zB, zC, Act.put, zD, zE, zF])))
      refine wpAnyH_ready (rs := [4]) (by kernel_rfl) (by simp) ?_
      refine AllReadyH.cons rfl (fun K2 hK2 => ?_) AllReadyH.nil
      go_simp
      refine (HSY.out).mono ?_
      rintro e w4 ⟨rfl, hb4⟩
      have HB4 := Lib.hid (HB0.out.drew.trans (hb4.out.mono (show w.heap.size ≤ W0.drew.heap.size from HB0.out.size)))
      have HE4 := Lib.hid ((show Has W0.drew w.heap.size 33 #[.int .i64 k, .int .i64 m, .string t, .slice Ab nb zb, .slice Aa na za, .int .i64 3, .string ct, .slice A n c, .int .i64 K, .string cn, .int .i64 cq, .bool cb] from HE0.out).below hb4.out HE0.out.lt)
      have HC4 := Lib.hid ((show Has W0.drew (w.heap.size + 1) 31 #[.int .i64 3, .string ct, .slice A n c, .int .i64 K, .string cn, .int .i64 cq, .bool cb] from HC0.out).below hb4.out HC0.out.lt)
      have HO4 := Lib.hid ((show Has W0.drew (w.heap.size + 2) 31 #[.int .i64 3, .string ct, .slice none 0 0, .int .i64 0, .string ⟨#[]⟩, .int .i64 0, .bool false] from HO0.out).below hb4.out HO0.out.lt)
      go_wp2_with fail
      refine hK2.out _ _ (by (try dsimp only); exact ⟨HC4.out.cell 4, HC4.out.cell 5, HC4.out.cell 6⟩) (fun _ => ?_)
      clear hK2 K2
      (try simp only [zA, zB, zC, Act.put, zD, zE, zF])
      have f4 := HO4.out.free 4
      have d4 := HO4.out.cell 4
      have f5 := HO4.out.free 5
      have d5 := HO4.out.cell 5
      have f6 := HO4.out.free 6
      have d6 := HO4.out.cell 6
      simp only [zG, zH, zI] at d4 d5 d6
      have HO7 : Hid (Has (((w4.setCell ⟨w.heap.size + 2, 4, none⟩ (.string cn)).setCell ⟨w.heap.size + 2, 5, none⟩ (.int .i64 cq)).setCell ⟨w.heap.size + 2, 6, none⟩ (.bool cb)) (w.heap.size + 2) 31 #[.int .i64 3, .string ct, .slice none 0 0, .int .i64 0, .string cn, .int .i64 cq, .bool cb]) := (((HO4.out.put 4 (.string cn)).put 5 (.int .i64 cq)).put 6 (.bool cb))
      have HE7 : Hid (Has (((w4.setCell ⟨w.heap.size + 2, 4, none⟩ (.string cn)).setCell ⟨w.heap.size + 2, 5, none⟩ (.int .i64 cq)).setCell ⟨w.heap.size + 2, 6, none⟩ (.bool cb)) w.heap.size 33 #[.int .i64 k, .int .i64 m, .string t, .slice Ab nb zb, .slice Aa na za, .int .i64 3, .string ct, .slice A n c, .int .i64 K, .string cn, .int .i64 cq, .bool cb]) := (((HE4.out.far (p := ⟨w.heap.size + 2, 4, none⟩) (by show _ ≠ w.heap.size + 2; omega) (.string cn)).far (p := ⟨w.heap.size + 2, 5, none⟩) (by show _ ≠ w.heap.size + 2; omega) (.int .i64 cq)).far (p := ⟨w.heap.size + 2, 6, none⟩) (by show _ ≠ w.heap.size + 2; omega) (.bool cb))
      have HC7 : Hid (Has (((w4.setCell ⟨w.heap.size + 2, 4, none⟩ (.string cn)).setCell ⟨w.heap.size + 2, 5, none⟩ (.int .i64 cq)).setCell ⟨w.heap.size + 2, 6, none⟩ (.bool cb)) (w.heap.size + 1) 31 #[.int .i64 3, .string ct, .slice A n c, .int .i64 K, .string cn, .int .i64 cq, .bool cb]) := (((HC4.out.far (p := ⟨w.heap.size + 2, 4, none⟩) (by show _ ≠ w.heap.size + 2; omega) (.string cn)).far (p := ⟨w.heap.size + 2, 5, none⟩) (by show _ ≠ w.heap.size + 2; omega) (.int .i64 cq)).far (p := ⟨w.heap.size + 2, 6, none⟩) (by show _ ≠ w.heap.size + 2; omega) (.bool cb))
      have HB7 : Hid (Below w.heap.size w (((w4.setCell ⟨w.heap.size + 2, 4, none⟩ (.string cn)).setCell ⟨w.heap.size + 2, 5, none⟩ (.int .i64 cq)).setCell ⟨w.heap.size + 2, 6, none⟩ (.bool cb))) := (((HB4.out.setCell (p := ⟨w.heap.size + 2, 4, none⟩) (by show w.heap.size ≤ w.heap.size + 2; omega) (.string cn)).setCell (p := ⟨w.heap.size + 2, 5, none⟩) (by show w.heap.size ≤ w.heap.size + 2; omega) (.int .i64 cq)).setCell (p := ⟨w.heap.size + 2, 6, none⟩) (by show w.heap.size ≤ w.heap.size + 2; omega) (.bool cb))
      refine wpAnyH_ready (rs := [6]) (by kernel_rfl) (by simp) ?_
      refine AllReadyH.cons rfl (fun K2 hK2 => ?_) (AllReadyH.nil)
      go_simp
      refine hK2.out _ _ (by (try dsimp only); exact ⟨HC7.out.cell 4, HC7.out.cell 5, HC7.out.cell 6⟩) (fun _ => ?_)
      clear hK2 K2
      (try simp only [zA, zB, zC, Act.put, zD, zE, zF])
      (refine wpAnyH_take (i := 7) (v := ?_) rfl (by kernel_rfl) (by kernel_rfl) (by kernel_rfl) (fun _ _ _ h => h) (Or.inl ⟨by rfl, ?_⟩) (by assumption) ?_; rotate_left; (intro w hSw; (try dsimp only at hSw); go_simp; try with_reducible rfl); ((try simp only [zA, zB, zC, Act.put, zD, zE, zF])))
      refine wpAnyH_done (by kernel_rfl) ?_ _
      obtain ⟨W7, hW7⟩ : ∃ W, W = (((w4.setCell ⟨w.heap.size + 2, 4, none⟩ (.string cn)).setCell ⟨w.heap.size + 2, 5, none⟩ (.int .i64 cq)).setCell ⟨w.heap.size + 2, 6, none⟩ (.bool cb)) := ⟨_, rfl⟩
      rw [← hW7] at HO7 HE7 HC7 HB7 ⊢
      clear hW7 hb4 HB4 HE4 HC4 HO4 HB0 HE0 HC0 HO0 f4 d4 f5 d5 f6 d6
      clear HSY
      have c1 : W7.cell? ⟨w.heap.size + 1, 1, none⟩ = some (.string ct) := HC7.out.cell 1
      have HNM := Lib.hid (name_any ct W7 HCT.out)
      cases rb
      ·go_wp2_with fail
       go_ret
       exact ⟨by rw [HS.out]; rfl, HB7⟩
      ·go_wp2_with fail
       refine HNM.out.mono ?_
       rintro e w5 ⟨rfl, hb5⟩
       have HB5 := Lib.hid (HB7.out.trans (hb5.out.mono HB7.out.size))
       have HE5 := Lib.hid (HE7.out.below hb5.out HE7.out.lt)
       have HO5 := Lib.hid (HO7.out.below hb5.out HO7.out.lt)
       obtain ⟨nf, hnf⟩ : ∃ q, nameF ct = q := ⟨_, rfl⟩
       rw [hnf] at HS ⊢
       clear hnf hb5 c1 HNM HE7 HO7 HC7 HB7
       cases nf
       ·go_wp2_with fail
        go_ret
        exact ⟨by rw [HS.out]; rfl, HB5⟩
       ·have e0 := HE5.out.cell 0
        have e1 := HE5.out.cell 1
        have e2 := HE5.out.cell 2
        have e3 := HE5.out.cell 3
        have e4 := HE5.out.cell 4
        have e5 := HE5.out.cell 5
        have e6 := HE5.out.cell 6
        have e7 := HE5.out.cell 7
        have e8 := HE5.out.cell 8
        have e9 := HE5.out.cell 9
        have e10 := HE5.out.cell 10
        have e11 := HE5.out.cell 11
        have o0 := HO5.out.cell 0
        have o1 := HO5.out.cell 1
        have o2 := HO5.out.cell 2
        have o3 := HO5.out.cell 3
        have o4 := HO5.out.cell 4
        have o5 := HO5.out.cell 5
        have o6 := HO5.out.cell 6
        simp only [zG, zH, zI] at e0 e1 e2 e3 e4 e5 e6 e7 e8 e9 e10 e11 o0 o1 o2 o3 o4 o5 o6
        have HSM := Lib.hid (esame_any (.agg #[.int .i64 k, .int .i64 m, .string t, .slice Ab nb zb, .slice Aa na za, .int .i64 3, .string ct, .slice A n c, .int .i64 K, .string cn, .int .i64 cq, .bool cb]) (.agg #[.int .i64 6, .int .i64 0, .string ⟨#[]⟩, .slice none 0 0, .slice none 0 0, .int .i64 3, .string ct, .slice none 0 0, .int .i64 0, .string cn, .int .i64 cq, .bool cb]) ⟨k, m, t, B, AA, 3, ct, L, K, ⟨cn, cq, cb⟩⟩ ⟨6, 0, ⟨#[]⟩, [], [], 3, ct, [], 0, ⟨cn, cq, cb⟩⟩ w5 (HEV.out.below HB5.out) (by exact ⟨none, 0, 0, none, 0, 0, none, 0, 0, rfl, ⟨rfl, by omega, fun h => absurd rfl h⟩, ⟨rfl, by omega, fun h => absurd rfl h⟩, rfl, by omega, fun h => absurd rfl h⟩))
        obtain ⟨sf, hsf⟩ : ∃ q, evF ⟨k, m, t, B, AA, 3, ct, L, K, ⟨cn, cq, cb⟩⟩ ⟨6, 0, ⟨#[]⟩, [], [], 3, ct, [], 0, ⟨cn, cq, cb⟩⟩ = q := ⟨_, rfl⟩
        rw [hsf] at HS HSM
        clear hsf
        go_wp2_with fail
        refine HSM.out.mono ?_
        rintro e w6 ⟨rfl, hb6⟩
        have HB6 := Lib.hid (HB5.out.trans (hb6.out.mono HB5.out.size))
        cases sf
        ·go_wp2_with fail
         go_ret
         exact ⟨by rw [HS.out]; rfl, HB6⟩
        ·go_wp2_with fail
         go_ret
         exact ⟨by rw [HS.out]; rfl, HB6⟩
     ·skip
      have HS : Hid (altP ⟨k, m, t, B, AA, 5, ct, L, K, ⟨cn, cq, cb⟩⟩ = if (smayF [⟨cn, cq, false⟩] 1 && nameF ct && evF ⟨k, m, t, B, AA, 5, ct, L, K, ⟨cn, cq, cb⟩⟩ ⟨6, 0, ⟨#[]⟩, [], [], 5, ct, [], 0, ⟨cn, cq, cb⟩⟩) = true then 0 else 1) := by show _ = _; unfold altP rightA ownA; simp
      generalize altP ⟨k, m, t, B, AA, 5, ct, L, K, ⟨cn, cq, cb⟩⟩ = res at *
      go_enter Tryz.func54, Tryz.ntmps54
      go_wp2_with fail
      obtain ⟨W0, hW0⟩ : ∃ W, W = (((w.alloc (.cells #[.int .i64 k, .int .i64 m, .string t, .slice Ab nb zb, .slice Aa na za, .int .i64 5, .string ct, .slice A n c, .int .i64 K, .string cn, .int .i64 cq, .bool cb] 33)).alloc (.cells #[.int .i64 5, .string ct, .slice A n c, .int .i64 K, .string cn, .int .i64 cq, .bool cb] 31)).alloc (.cells #[.int .i64 5, .string ct, .slice none 0 0, .int .i64 0, .string ⟨#[]⟩, .int .i64 0, .bool false] 31)) := ⟨_, rfl⟩
      have HE0 : Hid (Has W0 w.heap.size 33 #[.int .i64 k, .int .i64 m, .string t, .slice Ab nb zb, .slice Aa na za, .int .i64 5, .string ct, .slice A n c, .int .i64 K, .string cn, .int .i64 cq, .bool cb]) := by rw [hW0]; exact ((Has.new _ _ _).alloc _).alloc _
      have HC0 : Hid (Has W0 (w.heap.size + 1) 31 #[.int .i64 5, .string ct, .slice A n c, .int .i64 K, .string cn, .int .i64 cq, .bool cb]) := by
       have q := Has.new (w.alloc (.cells #[.int .i64 k, .int .i64 m, .string t, .slice Ab nb zb, .slice Aa na za, .int .i64 5, .string ct, .slice A n c, .int .i64 K, .string cn, .int .i64 cq, .bool cb] 33)) 31 #[.int .i64 5, .string ct, .slice A n c, .int .i64 K, .string cn, .int .i64 cq, .bool cb]
       rw [World.size_alloc] at q
       rw [hW0]; exact q.alloc _
      have HO0 : Hid (Has W0 (w.heap.size + 2) 31 #[.int .i64 5, .string ct, .slice none 0 0, .int .i64 0, .string ⟨#[]⟩, .int .i64 0, .bool false]) := by
       have q := Has.new ((w.alloc (.cells #[.int .i64 k, .int .i64 m, .string t, .slice Ab nb zb, .slice Aa na za, .int .i64 5, .string ct, .slice A n c, .int .i64 K, .string cn, .int .i64 cq, .bool cb] 33)).alloc (.cells #[.int .i64 5, .string ct, .slice A n c, .int .i64 K, .string cn, .int .i64 cq, .bool cb] 31)) 31 #[.int .i64 5, .string ct, .slice none 0 0, .int .i64 0, .string ⟨#[]⟩, .int .i64 0, .bool false]
       rw [World.size_alloc, World.size_alloc] at q
       rw [hW0]; exact q
      have HB0 : Hid (Below w.heap.size w W0) := by rw [hW0]; exact (((Below.refl w.heap.size w).alloc (Nat.le_refl _) _).alloc (by simp) _).alloc (by simp; omega) _
      rw [← hW0]
      clear hW0
      have HSY := Lib.hid (isColumn_any cn cq cb W0.drew ⟨HCL.out.1, HCL.out.2.1, HCL.out.2.2⟩)
      obtain ⟨rb, hrb⟩ : ∃ q, smayF [⟨cn, cq, false⟩] 1 = q := ⟨_, rfl⟩
      rw [hrb] at HS
      rw [hrb] at HSY
      clear hrb
      refine wp_region_held_drew (S := (fun X : World => X.cell? ⟨w.heap.size + 1, 4, none⟩ = some (.string cn) ∧ X.cell? ⟨w.heap.size + 1, 5, none⟩ = some (.int .i64 cq) ∧ X.cell? ⟨w.heap.size + 1, 6, none⟩ = some (.bool cb))) (by kernel_rfl) ⟨HC0.out.cell 4, HC0.out.cell 5, HC0.out.cell 6⟩ (fun _ => ?_)
      (refine wpAnyH_take (i := 0) (v := ?_) rfl (by kernel_rfl) (by kernel_rfl) (by kernel_rfl) (fun _ _ _ h => h) (Or.inl ⟨by rfl, ?_⟩) (by assumption) ?_; rotate_left; (intro w hSw; (try dsimp only at hSw); go_simp; try with_reducible rfl); ((try simp only [zA, zB, zC, Act.put, zD, zE, zF])))
      (refine wpAnyH_take (i := 1) (v := ?_) rfl (by kernel_rfl) (by kernel_rfl) (by kernel_rfl) (fun _ _ _ h => h) (Or.inl ⟨by rfl, ?_⟩) (by assumption) ?_; rotate_left; (intro w hSw; (try dsimp only at hSw); go_simp; try with_reducible rfl); ((try simp only [zA, zB, zC, Act.put, zD, zE, zF])))
      (refine wpAnyH_take (i := 2) (v := ?_) rfl (by kernel_rfl) (by kernel_rfl) (by kernel_rfl) (fun _ _ _ h => h) (Or.inl ⟨by rfl, ?_⟩) (by assumption) ?_; rotate_left; (intro w hSw; (try dsimp only at hSw); go_simp; try with_reducible rfl); ((try simp only [zA, zB, zC, Act.put, zD, zE, zF])))
      (refine wpAnyH_take (i := 3) (v := ?_) rfl (by kernel_rfl) (by kernel_rfl) (by kernel_rfl) (fun _ _ _ h => h) (Or.inl ⟨by rfl, ?_⟩) (by assumption) ?_; rotate_left; (intro w hSw; (try dsimp only at hSw); go_simp; try with_reducible rfl); ((try simp only [zA, zB, zC, Act.put, zD, zE, zF])))
      (refine wpAnyH_take (i := 5) (v := ?_) rfl (by kernel_rfl) (by kernel_rfl) (by kernel_rfl) (fun _ _ _ h => h) (Or.inl ⟨by rfl, ?_⟩) (by assumption) ?_; rotate_left; (intro w hSw; (try dsimp only at hSw); go_simp; try with_reducible rfl); ((try simp only [zA, zB, zC, Act.put, zD, zE, zF])))
      refine wpAnyH_ready (rs := [4]) (by kernel_rfl) (by simp) ?_
      refine AllReadyH.cons rfl (fun K2 hK2 => ?_) AllReadyH.nil
      go_simp
      refine (HSY.out).mono ?_
      rintro e w4 ⟨rfl, hb4⟩
      have HB4 := Lib.hid (HB0.out.drew.trans (hb4.out.mono (show w.heap.size ≤ W0.drew.heap.size from HB0.out.size)))
      have HE4 := Lib.hid ((show Has W0.drew w.heap.size 33 #[.int .i64 k, .int .i64 m, .string t, .slice Ab nb zb, .slice Aa na za, .int .i64 5, .string ct, .slice A n c, .int .i64 K, .string cn, .int .i64 cq, .bool cb] from HE0.out).below hb4.out HE0.out.lt)
      have HC4 := Lib.hid ((show Has W0.drew (w.heap.size + 1) 31 #[.int .i64 5, .string ct, .slice A n c, .int .i64 K, .string cn, .int .i64 cq, .bool cb] from HC0.out).below hb4.out HC0.out.lt)
      have HO4 := Lib.hid ((show Has W0.drew (w.heap.size + 2) 31 #[.int .i64 5, .string ct, .slice none 0 0, .int .i64 0, .string ⟨#[]⟩, .int .i64 0, .bool false] from HO0.out).below hb4.out HO0.out.lt)
      go_wp2_with fail
      refine hK2.out _ _ (by (try dsimp only); exact ⟨HC4.out.cell 4, HC4.out.cell 5, HC4.out.cell 6⟩) (fun _ => ?_)
      clear hK2 K2
      (try simp only [zA, zB, zC, Act.put, zD, zE, zF])
      have f4 := HO4.out.free 4
      have d4 := HO4.out.cell 4
      have f5 := HO4.out.free 5
      have d5 := HO4.out.cell 5
      have f6 := HO4.out.free 6
      have d6 := HO4.out.cell 6
      simp only [zG, zH, zI] at d4 d5 d6
      have HO7 : Hid (Has (((w4.setCell ⟨w.heap.size + 2, 4, none⟩ (.string cn)).setCell ⟨w.heap.size + 2, 5, none⟩ (.int .i64 cq)).setCell ⟨w.heap.size + 2, 6, none⟩ (.bool cb)) (w.heap.size + 2) 31 #[.int .i64 5, .string ct, .slice none 0 0, .int .i64 0, .string cn, .int .i64 cq, .bool cb]) := (((HO4.out.put 4 (.string cn)).put 5 (.int .i64 cq)).put 6 (.bool cb))
      have HE7 : Hid (Has (((w4.setCell ⟨w.heap.size + 2, 4, none⟩ (.string cn)).setCell ⟨w.heap.size + 2, 5, none⟩ (.int .i64 cq)).setCell ⟨w.heap.size + 2, 6, none⟩ (.bool cb)) w.heap.size 33 #[.int .i64 k, .int .i64 m, .string t, .slice Ab nb zb, .slice Aa na za, .int .i64 5, .string ct, .slice A n c, .int .i64 K, .string cn, .int .i64 cq, .bool cb]) := (((HE4.out.far (p := ⟨w.heap.size + 2, 4, none⟩) (by show _ ≠ w.heap.size + 2; omega) (.string cn)).far (p := ⟨w.heap.size + 2, 5, none⟩) (by show _ ≠ w.heap.size + 2; omega) (.int .i64 cq)).far (p := ⟨w.heap.size + 2, 6, none⟩) (by show _ ≠ w.heap.size + 2; omega) (.bool cb))
      have HC7 : Hid (Has (((w4.setCell ⟨w.heap.size + 2, 4, none⟩ (.string cn)).setCell ⟨w.heap.size + 2, 5, none⟩ (.int .i64 cq)).setCell ⟨w.heap.size + 2, 6, none⟩ (.bool cb)) (w.heap.size + 1) 31 #[.int .i64 5, .string ct, .slice A n c, .int .i64 K, .string cn, .int .i64 cq, .bool cb]) := (((HC4.out.far (p := ⟨w.heap.size + 2, 4, none⟩) (by show _ ≠ w.heap.size + 2; omega) (.string cn)).far (p := ⟨w.heap.size + 2, 5, none⟩) (by show _ ≠ w.heap.size + 2; omega) (.int .i64 cq)).far (p := ⟨w.heap.size + 2, 6, none⟩) (by show _ ≠ w.heap.size + 2; omega) (.bool cb))
      have HB7 : Hid (Below w.heap.size w (((w4.setCell ⟨w.heap.size + 2, 4, none⟩ (.string cn)).setCell ⟨w.heap.size + 2, 5, none⟩ (.int .i64 cq)).setCell ⟨w.heap.size + 2, 6, none⟩ (.bool cb))) := (((HB4.out.setCell (p := ⟨w.heap.size + 2, 4, none⟩) (by show w.heap.size ≤ w.heap.size + 2; omega) (.string cn)).setCell (p := ⟨w.heap.size + 2, 5, none⟩) (by show w.heap.size ≤ w.heap.size + 2; omega) (.int .i64 cq)).setCell (p := ⟨w.heap.size + 2, 6, none⟩) (by show w.heap.size ≤ w.heap.size + 2; omega) (.bool cb))
      refine wpAnyH_ready (rs := [6]) (by kernel_rfl) (by simp) ?_
      refine AllReadyH.cons rfl (fun K2 hK2 => ?_) (AllReadyH.nil)
      go_simp
      refine hK2.out _ _ (by (try dsimp only); exact ⟨HC7.out.cell 4, HC7.out.cell 5, HC7.out.cell 6⟩) (fun _ => ?_)
      clear hK2 K2
      (try simp only [zA, zB, zC, Act.put, zD, zE, zF])
      (refine wpAnyH_take (i := 7) (v := ?_) rfl (by kernel_rfl) (by kernel_rfl) (by kernel_rfl) (fun _ _ _ h => h) (Or.inl ⟨by rfl, ?_⟩) (by assumption) ?_; rotate_left; (intro w hSw; (try dsimp only at hSw); go_simp; try with_reducible rfl); ((try simp only [zA, zB, zC, Act.put, zD, zE, zF])))
      refine wpAnyH_done (by kernel_rfl) ?_ _
      obtain ⟨W7, hW7⟩ : ∃ W, W = (((w4.setCell ⟨w.heap.size + 2, 4, none⟩ (.string cn)).setCell ⟨w.heap.size + 2, 5, none⟩ (.int .i64 cq)).setCell ⟨w.heap.size + 2, 6, none⟩ (.bool cb)) := ⟨_, rfl⟩
      rw [← hW7] at HO7 HE7 HC7 HB7 ⊢
      clear hW7 hb4 HB4 HE4 HC4 HO4 HB0 HE0 HC0 HO0 f4 d4 f5 d5 f6 d6
      clear HSY
      have c1 : W7.cell? ⟨w.heap.size + 1, 1, none⟩ = some (.string ct) := HC7.out.cell 1
      have HNM := Lib.hid (name_any ct W7 HCT.out)
      cases rb
      ·go_wp2_with fail
       go_ret
       exact ⟨by rw [HS.out]; rfl, HB7⟩
      ·go_wp2_with fail
       refine HNM.out.mono ?_
       rintro e w5 ⟨rfl, hb5⟩
       have HB5 := Lib.hid (HB7.out.trans (hb5.out.mono HB7.out.size))
       have HE5 := Lib.hid (HE7.out.below hb5.out HE7.out.lt)
       have HO5 := Lib.hid (HO7.out.below hb5.out HO7.out.lt)
       obtain ⟨nf, hnf⟩ : ∃ q, nameF ct = q := ⟨_, rfl⟩
       rw [hnf] at HS ⊢
       clear hnf hb5 c1 HNM HE7 HO7 HC7 HB7
       cases nf
       ·go_wp2_with fail
        go_ret
        exact ⟨by rw [HS.out]; rfl, HB5⟩
       ·have e0 := HE5.out.cell 0
        have e1 := HE5.out.cell 1
        have e2 := HE5.out.cell 2
        have e3 := HE5.out.cell 3
        have e4 := HE5.out.cell 4
        have e5 := HE5.out.cell 5
        have e6 := HE5.out.cell 6
        have e7 := HE5.out.cell 7
        have e8 := HE5.out.cell 8
        have e9 := HE5.out.cell 9
        have e10 := HE5.out.cell 10
        have e11 := HE5.out.cell 11
        have o0 := HO5.out.cell 0
        have o1 := HO5.out.cell 1
        have o2 := HO5.out.cell 2
        have o3 := HO5.out.cell 3
        have o4 := HO5.out.cell 4
        have o5 := HO5.out.cell 5
        have o6 := HO5.out.cell 6
        simp only [zG, zH, zI] at e0 e1 e2 e3 e4 e5 e6 e7 e8 e9 e10 e11 o0 o1 o2 o3 o4 o5 o6
        have HSM := Lib.hid (esame_any (.agg #[.int .i64 k, .int .i64 m, .string t, .slice Ab nb zb, .slice Aa na za, .int .i64 5, .string ct, .slice A n c, .int .i64 K, .string cn, .int .i64 cq, .bool cb]) (.agg #[.int .i64 6, .int .i64 0, .string ⟨#[]⟩, .slice none 0 0, .slice none 0 0, .int .i64 5, .string ct, .slice none 0 0, .int .i64 0, .string cn, .int .i64 cq, .bool cb]) ⟨k, m, t, B, AA, 5, ct, L, K, ⟨cn, cq, cb⟩⟩ ⟨6, 0, ⟨#[]⟩, [], [], 5, ct, [], 0, ⟨cn, cq, cb⟩⟩ w5 (HEV.out.below HB5.out) (by exact ⟨none, 0, 0, none, 0, 0, none, 0, 0, rfl, ⟨rfl, by omega, fun h => absurd rfl h⟩, ⟨rfl, by omega, fun h => absurd rfl h⟩, rfl, by omega, fun h => absurd rfl h⟩))
        obtain ⟨sf, hsf⟩ : ∃ q, evF ⟨k, m, t, B, AA, 5, ct, L, K, ⟨cn, cq, cb⟩⟩ ⟨6, 0, ⟨#[]⟩, [], [], 5, ct, [], 0, ⟨cn, cq, cb⟩⟩ = q := ⟨_, rfl⟩
        rw [hsf] at HS HSM
        clear hsf
        go_wp2_with fail
        refine HSM.out.mono ?_
        rintro e w6 ⟨rfl, hb6⟩
        have HB6 := Lib.hid (HB5.out.trans (hb6.out.mono HB5.out.size))
        cases sf
        ·go_wp2_with fail
         go_ret
         exact ⟨by rw [HS.out]; rfl, HB6⟩
        ·go_wp2_with fail
         go_ret
         exact ⟨by rw [HS.out]; rfl, HB6⟩
    ·have e : altP ⟨k, m, t, B, AA, ck, ct, L, K, ⟨cn, cq, cb⟩⟩ = 5 := by unfold altP; rw [if_neg (by dsimp only; omega)]
     rw [e]
     have q1 : (ck == 1) = false := by simp; omega
     have q2 : (ck == 2) = false := by simp; omega
     have q3 : (ck == 3) = false := by simp; omega
     have q4 : (ck == 4) = false := by simp; omega
     have q5 : (ck == 5) = false := by simp; omega
     clear e hk1 hk2 hk4 hk35
     have HB : Hid (Below w.heap.size w (((w.alloc (.cells #[.int .i64 k, .int .i64 m, .string t, .slice Ab nb zb, .slice Aa na za, .int .i64 ck, .string ct, .slice A n c, .int .i64 K, .string cn, .int .i64 cq, .bool cb] 33)).alloc (.cells #[.int .i64 ck, .string ct, .slice A n c, .int .i64 K, .string cn, .int .i64 cq, .bool cb] 31)).alloc (.cells #[.int .i64 ck, .string ct, .slice none 0 0, .int .i64 0, .string ⟨#[]⟩, .int .i64 0, .bool false] 31))) := (((Below.refl w.heap.size w).alloc (Nat.le_refl _) _).alloc (by simp) _).alloc (by simp; omega) _
     go_enter Tryz.func54, Tryz.ntmps54
     go_wp2_with fail
     go_ret
     exact ⟨rfl, HB⟩
end Go.Proofs.YtnpmgempkoeapaaGreatDoor
