/-
  Put together, as far as it is used: MAlt, EMay, RMay, Qs, MayM, WvMa, WvC, WvW, WvE, WvF, WvS, WvT, WvQ, REvS, WvY, WvZ, WvIt, WvJ, WvU.
-/
import Derived.Test.YtlnbhlgkehenpaaGreatDoorPwe
import Derived.Deep.RegionHeld3
import Derived.Test.YtlnbhlgkehenpaaGreatDoorPwb
import Derived.Test.YtlnbhlgkehenpaaGreatDoorPwc
import Derived.Test.YtlnbhlgkehenpaaGreatDoorPwd
import Derived.OwnWalk
import Derived.Maps.AppendAt
import Derived.Laws.AppendOwnNone
import Derived.Laws.OwnMore
set_option linter.unusedVariables false
set_option linter.unusedSimpArgs false
set_option linter.defProp false
namespace Go.Proofs.YtlnbhlgkehenpaaGreatDoor
open Go.RowKit Dg
set_option maxRecDepth 100000
def ownA (x : Ev) : Ev :=
 if x.ck = 1 then ⟨6, 0, ⟨#[]⟩, [], [], x.ck, x.ct, x.L, x.K, ⟨⟨#[]⟩, 0, false⟩⟩
 else if x.ck = 2 then ⟨6, 0, ⟨#[]⟩, [], [], x.ck, x.ct, [], 0, ⟨⟨#[]⟩, 0, false⟩⟩
 else if x.ck = 4 then ⟨6, 0, ⟨#[]⟩, [], [], x.ck, x.ct, [], 0, ⟨x.cl.nm, 0, false⟩⟩
 else ⟨6, 0, ⟨#[]⟩, [], [], x.ck, x.ct, [], 0, x.cl⟩
def rightA (x : Ev) : Bool := if x.ck = 1 then smayF x.L x.K else if x.ck = 2 then true else if x.ck = 4 then nameF x.cl.nm else smayF [⟨x.cl.nm, x.cl.k, false⟩] 1
def altP (x : Ev) : Int := if x.ck = 1 ∨ x.ck = 2 ∨ x.ck = 3 ∨ x.ck = 4 ∨ x.ck = 5 then (if (rightA x && nameF x.ct && evF x (ownA x)) = true then 0 else 1) else 5
set_option maxHeartbeats 8000000 in
theorem mayAlter_any (x : Ev) (Ab : Option Addr) (nb zb : Nat) (Aa : Option Addr) (na za : Nat) (A : Option Addr) (n c : Nat) (w : World) (h : EvAt w (.agg #[.int .i64 x.k, .int .i64 x.n, .string x.t, .slice Ab nb zb, .slice Aa na za, .int .i64 x.ck, .string x.ct, .slice A n c, .int .i64 x.K, .string x.cl.nm, .int .i64 x.cl.k, .bool x.cl.no]) x) (hL : x.L.length = n ∧ n ≤ 4398046511104 ∧ CRow w A x.L ∧ ∀ y ∈ x.L, y.fit) (hct : x.ct.size ≤ 140737488355328) (hcl : x.cl.fit) :
 Calls Tryz.prog 59 #[.agg #[.int .i64 x.k, .int .i64 x.n, .string x.t, .slice Ab nb zb, .slice Aa na za, .int .i64 x.ck, .string x.ct, .slice A n c, .int .i64 x.K, .string x.cl.nm, .int .i64 x.cl.k, .bool x.cl.no]] w fun e w' => e = .returned (.int .i64 (altP x)) ∧ Hid (Below w.heap.size w w') := by
 have HEV := Lib.hid h
 have HLL := Lib.hid hL
 have HCT := Lib.hid hct
 have HCL := Lib.hid hcl
 clear h hL hct hcl
 obtain ⟨k, m, t, B, AA, ck, ct, L, K, ⟨cn, cq, cb⟩⟩ := x
 by_cases hk1 : ck = 1
 ·subst hk1
  have HS : Hid (altP ⟨k, m, t, B, AA, 1, ct, L, K, ⟨cn, cq, cb⟩⟩ = if (smayF L K && nameF ct && evF ⟨k, m, t, B, AA, 1, ct, L, K, ⟨cn, cq, cb⟩⟩ ⟨6, 0, ⟨#[]⟩, [], [], 1, ct, L, K, ⟨⟨#[]⟩, 0, false⟩⟩) = true then 0 else 1) := by show _ = _; unfold altP rightA ownA; simp
  generalize altP ⟨k, m, t, B, AA, 1, ct, L, K, ⟨cn, cq, cb⟩⟩ = res at *
  go_enter Tryz.func59, Tryz.ntmps59
  go_wp2_with fail
  obtain ⟨W0, hW0⟩ : ∃ W, W = (((w.alloc (.cells #[.int .i64 k, .int .i64 m, .string t, .slice Ab nb zb, .slice Aa na za, .int .i64 1, .string ct, .slice A n c, .int .i64 K, .string cn, .int .i64 cq, .bool cb] 61)).alloc (.cells #[.int .i64 1, .string ct, .slice A n c, .int .i64 K, .string cn, .int .i64 cq, .bool cb] 48)).alloc (.cells #[.int .i64 1, .string ct, .slice none 0 0, .int .i64 0, .string ⟨#[]⟩, .int .i64 0, .bool false] 48)) := ⟨_, rfl⟩
  have HE0 : Hid (Has W0 w.heap.size 61 #[.int .i64 k, .int .i64 m, .string t, .slice Ab nb zb, .slice Aa na za, .int .i64 1, .string ct, .slice A n c, .int .i64 K, .string cn, .int .i64 cq, .bool cb]) := by rw [hW0]; exact ((Has.new _ _ _).alloc _).alloc _
  have HC0 : Hid (Has W0 (w.heap.size + 1) 48 #[.int .i64 1, .string ct, .slice A n c, .int .i64 K, .string cn, .int .i64 cq, .bool cb]) := by
   have q := Has.new (w.alloc (.cells #[.int .i64 k, .int .i64 m, .string t, .slice Ab nb zb, .slice Aa na za, .int .i64 1, .string ct, .slice A n c, .int .i64 K, .string cn, .int .i64 cq, .bool cb] 61)) 48 #[.int .i64 1, .string ct, .slice A n c, .int .i64 K, .string cn, .int .i64 cq, .bool cb]
   rw [World.size_alloc] at q
   rw [hW0]; exact q.alloc _
  have HO0 : Hid (Has W0 (w.heap.size + 2) 48 #[.int .i64 1, .string ct, .slice none 0 0, .int .i64 0, .string ⟨#[]⟩, .int .i64 0, .bool false]) := by
   have q := Has.new ((w.alloc (.cells #[.int .i64 k, .int .i64 m, .string t, .slice Ab nb zb, .slice Aa na za, .int .i64 1, .string ct, .slice A n c, .int .i64 K, .string cn, .int .i64 cq, .bool cb] 61)).alloc (.cells #[.int .i64 1, .string ct, .slice A n c, .int .i64 K, .string cn, .int .i64 cq, .bool cb] 48)) 48 #[.int .i64 1, .string ct, .slice none 0 0, .int .i64 0, .string ⟨#[]⟩, .int .i64 0, .bool false]
   rw [World.size_alloc, World.size_alloc] at q
   rw [hW0]; exact q
  have HB0 : Hid (Below w.heap.size w W0) := by rw [hW0]; exact (((Below.refl w.heap.size w).alloc (Nat.le_refl _) _).alloc (by simp) _).alloc (by simp; omega) _
  rw [← hW0]
  clear hW0
  have HSY := Lib.hid (smay_any A L n c K W0.drew HLL.out.1 HLL.out.2.1 (HLL.out.2.2.1.below (show Below w.heap.size w W0.drew from HB0.out.drew)) HLL.out.2.2.2)
  obtain ⟨rb, hrb⟩ : ∃ q, smayF L K = q := ⟨_, rfl⟩
  rw [hrb] at HS
  rw [hrb] at HSY
  clear hrb
  refine wp_region_held_drew (S := (fun X : World => X.cell? ⟨w.heap.size + 1, 2, none⟩ = some (.slice A n c) ∧ X.cell? ⟨w.heap.size + 1, 3, none⟩ = some (.int .i64 K))) (by kernel_rfl) ⟨HC0.out.cell 2, HC0.out.cell 3⟩ (fun _ => ?_)
  (refine wpAnyH_take (i := 0) (v := ?_) rfl (by kernel_rfl) (by kernel_rfl) (by kernel_rfl) (fun _ _ _ h => h) (Or.inl ⟨by rfl, ?_⟩) (by assumption) ?_; rotate_left; (intro w hSw; (try dsimp only at hSw); go_simp; try with_reducible rfl); ((try simp only [zA, zB, zC, Act.put, zD, zE, zF])))
  (refine wpAnyH_take (i := 1) (v := ?_) rfl (by kernel_rfl) (by kernel_rfl) (by kernel_rfl) (fun _ _ _ h => h) (Or.inl ⟨by rfl, ?_⟩) (by assumption) ?_; rotate_left; (intro w hSw; (try dsimp only at hSw); go_simp; try with_reducible rfl); ((try simp only [zA, zB, zC, Act.put, zD, zE, zF])))
  (refine wpAnyH_take (i := 2) (v := ?_) rfl (by kernel_rfl) (by kernel_rfl) (by kernel_rfl) (fun _ _ _ h => h) (Or.inl ⟨by rfl, ?_⟩) (by assumption) ?_; rotate_left; (intro w hSw; (try dsimp only at hSw); go_simp; try with_reducible rfl); ((try simp only [zA, zB, zC, Act.put, zD, zE, zF])))
  (refine wpAnyH_take (i := 3) (v := ?_) rfl (by kernel_rfl) (by kernel_rfl) (by kernel_rfl) (fun _ _ _ h => h) (Or.inl ⟨by rfl, ?_⟩) (by assumption) ?_; rotate_left; (intro w hSw; (try dsimp only at hSw); go_simp; try with_reducible rfl); ((try simp only [zA, zB, zC, Act.put, zD, zE, zF])))
  (refine wpAnyH_take (i := 5) (v := ?_) rfl (by kernel_rfl) (by kernel_rfl) (by kernel_rfl) (fun _ _ _ h => h) (Or.inl ⟨by rfl, ?_⟩) (by assumption) ?_; rotate_left; (intro w hSw; (try dsimp only at hSw); go_simp; try with_reducible rfl); ((try simp only [zA, zB, zC, Act.put, zD, zE, zF])))
  refine wpAnyH_ready (rs := [4]) (by kernel_rfl) (by simp) ?_
  refine AllReadyH.cons rfl (fun K2 hK2 => ?_) AllReadyH.nil
  go_simp
  refine (HSY.out).mono ?_
  rintro e w4 ⟨rfl, hb4⟩
  have HB4 := Lib.hid (HB0.out.drew.trans (hb4.out.mono (show w.heap.size ≤ W0.drew.heap.size from HB0.out.size)))
  have HE4 := Lib.hid ((show Has W0.drew w.heap.size 61 #[.int .i64 k, .int .i64 m, .string t, .slice Ab nb zb, .slice Aa na za, .int .i64 1, .string ct, .slice A n c, .int .i64 K, .string cn, .int .i64 cq, .bool cb] from HE0.out).below hb4.out HE0.out.lt)
  have HC4 := Lib.hid ((show Has W0.drew (w.heap.size + 1) 48 #[.int .i64 1, .string ct, .slice A n c, .int .i64 K, .string cn, .int .i64 cq, .bool cb] from HC0.out).below hb4.out HC0.out.lt)
  have HO4 := Lib.hid ((show Has W0.drew (w.heap.size + 2) 48 #[.int .i64 1, .string ct, .slice none 0 0, .int .i64 0, .string ⟨#[]⟩, .int .i64 0, .bool false] from HO0.out).below hb4.out HO0.out.lt)
  go_wp2_with fail
  refine hK2.out _ _ (by (try dsimp only); exact ⟨HC4.out.cell 2, HC4.out.cell 3⟩) (fun _ => ?_)
  clear hK2 K2
  (try simp only [zA, zB, zC, Act.put, zD, zE, zF])
  have f2 := HO4.out.free 2
  have d2 := HO4.out.cell 2
  have f3 := HO4.out.free 3
  have d3 := HO4.out.cell 3
  simp only [zG, zH, zI] at d2 d3
  have HO7 : Hid (Has ((w4.setCell ⟨w.heap.size + 2, 2, none⟩ (.slice A n c)).setCell ⟨w.heap.size + 2, 3, none⟩ (.int .i64 K)) (w.heap.size + 2) 48 #[.int .i64 1, .string ct, .slice A n c, .int .i64 K, .string ⟨#[]⟩, .int .i64 0, .bool false]) := ((HO4.out.put 2 (.slice A n c)).put 3 (.int .i64 K))
  have HE7 : Hid (Has ((w4.setCell ⟨w.heap.size + 2, 2, none⟩ (.slice A n c)).setCell ⟨w.heap.size + 2, 3, none⟩ (.int .i64 K)) w.heap.size 61 #[.int .i64 k, .int .i64 m, .string t, .slice Ab nb zb, .slice Aa na za, .int .i64 1, .string ct, .slice A n c, .int .i64 K, .string cn, .int .i64 cq, .bool cb]) := ((HE4.out.far (p := ⟨w.heap.size + 2, 2, none⟩) (by show _ ≠ w.heap.size + 2; omega) (.slice A n c)).far (p := ⟨w.heap.size + 2, 3, none⟩) (by show _ ≠ w.heap.size + 2; omega) (.int .i64 K))
  have HC7 : Hid (Has ((w4.setCell ⟨w.heap.size + 2, 2, none⟩ (.slice A n c)).setCell ⟨w.heap.size + 2, 3, none⟩ (.int .i64 K)) (w.heap.size + 1) 48 #[.int .i64 1, .string ct, .slice A n c, .int .i64 K, .string cn, .int .i64 cq, .bool cb]) := ((HC4.out.far (p := ⟨w.heap.size + 2, 2, none⟩) (by show _ ≠ w.heap.size + 2; omega) (.slice A n c)).far (p := ⟨w.heap.size + 2, 3, none⟩) (by show _ ≠ w.heap.size + 2; omega) (.int .i64 K))
  have HB7 : Hid (Below w.heap.size w ((w4.setCell ⟨w.heap.size + 2, 2, none⟩ (.slice A n c)).setCell ⟨w.heap.size + 2, 3, none⟩ (.int .i64 K))) := ((HB4.out.setCell (p := ⟨w.heap.size + 2, 2, none⟩) (by show w.heap.size ≤ w.heap.size + 2; omega) (.slice A n c)).setCell (p := ⟨w.heap.size + 2, 3, none⟩) (by show w.heap.size ≤ w.heap.size + 2; omega) (.int .i64 K))
  refine wpAnyH_ready (rs := [6]) (by kernel_rfl) (by simp) ?_
  refine AllReadyH.cons rfl (fun K2 hK2 => ?_) (AllReadyH.nil)
  go_simp
  refine hK2.out _ _ (by (try dsimp only); exact ⟨HC7.out.cell 2, HC7.out.cell 3⟩) (fun _ => ?_)
  clear hK2 K2
  (try simp only [zA, zB, zC, Act.put, zD, zE, zF])
  (refine wpAnyH_take (i := 7) (v := ?_) rfl (by kernel_rfl) (by kernel_rfl) (by kernel_rfl) (fun _ _ _ h => h) (Or.inl ⟨by rfl, ?_⟩) (by assumption) ?_; rotate_left; (intro w hSw; (try dsimp only at hSw); go_simp; try with_reducible rfl); ((try simp only [zA, zB, zC, Act.put, zD, zE, zF])))
  refine wpAnyH_done (by kernel_rfl) ?_ _
  obtain ⟨W7, hW7⟩ : ∃ W, W = ((w4.setCell ⟨w.heap.size + 2, 2, none⟩ (.slice A n c)).setCell ⟨w.heap.size + 2, 3, none⟩ (.int .i64 K)) := ⟨_, rfl⟩
  rw [← hW7] at HO7 HE7 HC7 HB7 ⊢
  clear hW7 hb4 HB4 HE4 HC4 HO4 HB0 HE0 HC0 HO0 f2 d2 f3 d3
  clear HSY
  have c1 : W7.cell? ⟨w.heap.size + 1, 1, none⟩ = some (.string ct) := HC7.out.cell 1
  have HNM := Lib.hid (name_any ct W7 HCT.out)
  cases rb
  ·go_wp2_with fail
   go_ret
   exact ⟨by rw [HS.out]; rfl, HB7⟩
  ·go_wp2_with fail
   refine HNM.out.mono ?_
   rintro e w5 ⟨rfl, hb5⟩
   have HB5 := Lib.hid (HB7.out.trans (hb5.out.mono HB7.out.size))
   have HE5 := Lib.hid (HE7.out.below hb5.out HE7.out.lt)
   have HO5 := Lib.hid (HO7.out.below hb5.out HO7.out.lt)
   obtain ⟨nf, hnf⟩ : ∃ q, nameF ct = q := ⟨_, rfl⟩
   rw [hnf] at HS ⊢
   clear hnf hb5 c1 HNM HE7 HO7 HC7 HB7
   cases nf
   ·go_wp2_with fail
    go_ret
    exact ⟨by rw [HS.out]; rfl, HB5⟩
   ·have e0 := HE5.out.cell 0
    have e1 := HE5.out.cell 1
    have e2 := HE5.out.cell 2
    have e3 := HE5.out.cell 3
    have e4 := HE5.out.cell 4
    have e5 := HE5.out.cell 5
    have e6 := HE5.out.cell 6
    have e7 := HE5.out.cell 7
    have e8 := HE5.out.cell 8
    have e9 := HE5.out.cell 9
    have e10 := HE5.out.cell 10
    have e11 := HE5.out.cell 11
    have o0 := HO5.out.cell 0
    have o1 := HO5.out.cell 1
    have o2 := HO5.out.cell 2
    have o3 := HO5.out.cell 3
    have o4 := HO5.out.cell 4
    have o5 := HO5.out.cell 5
    have o6 := HO5.out.cell 6
    simp only [zG, zH, zI] at e0 e1 e2 e3 e4 e5 e6 e7 e8 e9 e10 e11 o0 o1 o2 o3 o4 o5 o6
    have HSM := Lib.hid (esame_any (.agg #[.int .i64 k, .int .i64 m, .string t, .slice Ab nb zb, .slice Aa na za, .int .i64 1, .string ct, .slice A n c, .int .i64 K, .string cn, .int .i64 cq, .bool cb]) (.agg #[.int .i64 6, .int .i64 0, .string ⟨#[]⟩, .slice none 0 0, .slice none 0 0, .int .i64 1, .string ct, .slice A n c, .int .i64 K, .string ⟨#[]⟩, .int .i64 0, .bool false]) ⟨k, m, t, B, AA, 1, ct, L, K, ⟨cn, cq, cb⟩⟩ ⟨6, 0, ⟨#[]⟩, [], [], 1, ct, L, K, ⟨⟨#[]⟩, 0, false⟩⟩ w5 (HEV.out.below HB5.out) (by exact ⟨none, 0, 0, none, 0, 0, A, n, c, rfl, ⟨rfl, by omega, fun h => absurd rfl h⟩, ⟨rfl, by omega, fun h => absurd rfl h⟩, HLL.out.1, HLL.out.2.1, HLL.out.2.2.1.below HB5.out⟩))
    obtain ⟨sf, hsf⟩ : ∃ q, evF ⟨k, m, t, B, AA, 1, ct, L, K, ⟨cn, cq, cb⟩⟩ ⟨6, 0, ⟨#[]⟩, [], [], 1, ct, L, K, ⟨⟨#[]⟩, 0, false⟩⟩ = q := ⟨_, rfl⟩
    rw [hsf] at HS HSM
    clear hsf
    go_wp2_with fail
    refine HSM.out.mono ?_
    rintro e w6 ⟨rfl, hb6⟩
    have HB6 := Lib.hid (HB5.out.trans (hb6.out.mono HB5.out.size))
    cases sf
    ·go_wp2_with fail
     go_ret
     exact ⟨by rw [HS.out]; rfl, HB6⟩
    ·go_wp2_with fail
     go_ret
     exact ⟨by rw [HS.out]; rfl, HB6⟩
 ·by_cases hk2 : ck = 2
  ·subst hk2
   have HS : Hid (altP ⟨k, m, t, B, AA, 2, ct, L, K, ⟨cn, cq, cb⟩⟩ = if (true && nameF ct && evF ⟨k, m, t, B, AA, 2, ct, L, K, ⟨cn, cq, cb⟩⟩ ⟨6, 0, ⟨#[]⟩, [], [], 2, ct, [], 0, ⟨⟨#[]⟩, 0, false⟩⟩) = true then 0 else 1) := by show _ = _; unfold altP rightA ownA; simp
   generalize altP ⟨k, m, t, B, AA, 2, ct, L, K, ⟨cn, cq, cb⟩⟩ = res at *
   go_enter Tryz.func59, Tryz.ntmps59
   go_wp2_with fail
   obtain ⟨W0, hW0⟩ : ∃ W, W = (((w.alloc (.cells #[.int .i64 k, .int .i64 m, .string t, .slice Ab nb zb, .slice Aa na za, .int .i64 2, .string ct, .slice A n c, .int .i64 K, .string cn, .int .i64 cq, .bool cb] 61)).alloc (.cells #[.int .i64 2, .string ct, .slice A n c, .int .i64 K, .string cn, .int .i64 cq, .bool cb] 48)).alloc (.cells #[.int .i64 2, .string ct, .slice none 0 0, .int .i64 0, .string ⟨#[]⟩, .int .i64 0, .bool false] 48)) := ⟨_, rfl⟩
   have HE0 : Hid (Has W0 w.heap.size 61 #[.int .i64 k, .int .i64 m, .string t, .slice Ab nb zb, .slice Aa na za, .int .i64 2, .string ct, .slice A n c, .int .i64 K, .string cn, .int .i64 cq, .bool cb]) := by rw [hW0]; exact ((Has.new _ _ _).alloc _).alloc _
   have HC0 : Hid (Has W0 (w.heap.size + 1) 48 #[.int .i64 2, .string ct, .slice A n c, .int .i64 K, .string cn, .int .i64 cq, .bool cb]) := by
    have q := Has.new (w.alloc (.cells #[.int .i64 k, .int .i64 m, .string t, .slice Ab nb zb, .slice Aa na za, .int .i64 2, .string ct, .slice A n c, .int .i64 K, .string cn, .int .i64 cq, .bool cb] 61)) 48 #[.int .i64 2, .string ct, .slice A n c, .int .i64 K, .string cn, .int .i64 cq, .bool cb]
    rw [World.size_alloc] at q
    rw [hW0]; exact q.alloc _
   have HO0 : Hid (Has W0 (w.heap.size + 2) 48 #[.int .i64 2, .string ct, .slice none 0 0, .int .i64 0, .string ⟨#[]⟩, .int .i64 0, .bool false]) := by
    have q := Has.new ((w.alloc (.cells #[.int .i64 k, .int .i64 m, .string t, .slice Ab nb zb, .slice Aa na za, .int .i64 2, .string ct, .slice A n c, .int .i64 K, .string cn, .int .i64 cq, .bool cb] 61)).alloc (.cells #[.int .i64 2, .string ct, .slice A n c, .int .i64 K, .string cn, .int .i64 cq, .bool cb] 48)) 48 #[.int .i64 2, .string ct, .slice none 0 0, .int .i64 0, .string ⟨#[]⟩, .int .i64 0, .bool false]
    rw [World.size_alloc, World.size_alloc] at q
    rw [hW0]; exact q
   have HB0 : Hid (Below w.heap.size w W0) := by rw [hW0]; exact (((Below.refl w.heap.size w).alloc (Nat.le_refl _) _).alloc (by simp) _).alloc (by simp; omega) _
   rw [← hW0]
   clear hW0
   have c1 : W0.cell? ⟨w.heap.size + 1, 1, none⟩ = some (.string ct) := HC0.out.cell 1
   have HNM := Lib.hid (name_any ct W0 HCT.out)
   ·skip
    refine HNM.out.mono ?_
    rintro e w5 ⟨rfl, hb5⟩
    have HB5 := Lib.hid (HB0.out.trans (hb5.out.mono HB0.out.size))
    have HE5 := Lib.hid (HE0.out.below hb5.out HE0.out.lt)
    have HO5 := Lib.hid (HO0.out.below hb5.out HO0.out.lt)
    obtain ⟨nf, hnf⟩ : ∃ q, nameF ct = q := ⟨_, rfl⟩
    rw [hnf] at HS ⊢
    clear hnf hb5 c1 HNM HE0 HO0 HC0 HB0
    cases nf
    ·go_wp2_with fail
     go_ret
     exact ⟨by rw [HS.out]; rfl, HB5⟩
    ·have e0 := HE5.out.cell 0
     have e1 := HE5.out.cell 1
     have e2 := HE5.out.cell 2
     have e3 := HE5.out.cell 3
     have e4 := HE5.out.cell 4
     have e5 := HE5.out.cell 5
     have e6 := HE5.out.cell 6
     have e7 := HE5.out.cell 7
     have e8 := HE5.out.cell 8
     have e9 := HE5.out.cell 9
     have e10 := HE5.out.cell 10
     have e11 := HE5.out.cell 11
     have o0 := HO5.out.cell 0
     have o1 := HO5.out.cell 1
     have o2 := HO5.out.cell 2
     have o3 := HO5.out.cell 3
     have o4 := HO5.out.cell 4
     have o5 := HO5.out.cell 5
     have o6 := HO5.out.cell 6
     simp only [zG, zH, zI] at e0 e1 e2 e3 e4 e5 e6 e7 e8 e9 e10 e11 o0 o1 o2 o3 o4 o5 o6
     have HSM := Lib.hid (esame_any (.agg #[.int .i64 k, .int .i64 m, .string t, .slice Ab nb zb, .slice Aa na za, .int .i64 2, .string ct, .slice A n c, .int .i64 K, .string cn, .int .i64 cq, .bool cb]) (.agg #[.int .i64 6, .int .i64 0, .string ⟨#[]⟩, .slice none 0 0, .slice none 0 0, .int .i64 2, .string ct, .slice none 0 0, .int .i64 0, .string ⟨#[]⟩, .int .i64 0, .bool false]) ⟨k, m, t, B, AA, 2, ct, L, K, ⟨cn, cq, cb⟩⟩ ⟨6, 0, ⟨#[]⟩, [], [], 2, ct, [], 0, ⟨⟨#[]⟩, 0, false⟩⟩ w5 (HEV.out.below HB5.out) (by exact ⟨none, 0, 0, none, 0, 0, none, 0, 0, rfl, ⟨rfl, by omega, fun h => absurd rfl h⟩, ⟨rfl, by omega, fun h => absurd rfl h⟩, rfl, by omega, fun h => absurd rfl h⟩))
     obtain ⟨sf, hsf⟩ : ∃ q, evF ⟨k, m, t, B, AA, 2, ct, L, K, ⟨cn, cq, cb⟩⟩ ⟨6, 0, ⟨#[]⟩, [], [], 2, ct, [], 0, ⟨⟨#[]⟩, 0, false⟩⟩ = q := ⟨_, rfl⟩
     rw [hsf] at HS HSM
     clear hsf
     go_wp2_with fail
     refine HSM.out.mono ?_
     rintro e w6 ⟨rfl, hb6⟩
     have HB6 := Lib.hid (HB5.out.trans (hb6.out.mono HB5.out.size))
     cases sf
     ·go_wp2_with fail
      go_ret
      exact ⟨by rw [HS.out]; rfl, HB6⟩
     ·go_wp2_with fail
      go_ret
      exact ⟨by rw [HS.out]; rfl, HB6⟩
  ·by_cases hk4 : ck = 4
   ·subst hk4
    have HS : Hid (altP ⟨k, m, t, B, AA, 4, ct, L, K, ⟨cn, cq, cb⟩⟩ = if (nameF cn && nameF ct && evF ⟨k, m, t, B, AA, 4, ct, L, K, ⟨cn, cq, cb⟩⟩ ⟨6, 0, ⟨#[]⟩, [], [], 4, ct, [], 0, ⟨cn, 0, false⟩⟩) = true then 0 else 1) := by show _ = _; unfold altP rightA ownA; simp
    generalize altP ⟨k, m, t, B, AA, 4, ct, L, K, ⟨cn, cq, cb⟩⟩ = res at *
    go_enter Tryz.func59, Tryz.ntmps59
    go_wp2_with fail
    obtain ⟨W0, hW0⟩ : ∃ W, W = (((w.alloc (.cells #[.int .i64 k, .int .i64 m, .string t, .slice Ab nb zb, .slice Aa na za, .int .i64 4, .string ct, .slice A n c, .int .i64 K, .string cn, .int .i64 cq, .bool cb] 61)).alloc (.cells #[.int .i64 4, .string ct, .slice A n c, .int .i64 K, .string cn, .int .i64 cq, .bool cb] 48)).alloc (.cells #[.int .i64 4, .string ct, .slice none 0 0, .int .i64 0, .string ⟨#[]⟩, .int .i64 0, .bool false] 48)) := ⟨_, rfl⟩
    have HE0 : Hid (Has W0 w.heap.size 61 #[.int .i64 k, .int .i64 m, .string t, .slice Ab nb zb, .slice Aa na za, .int .i64 4, .string ct, .slice A n c, .int .i64 K, .string cn, .int .i64 cq, .bool cb]) := by rw [hW0]; exact ((Has.new _ _ _).alloc _).alloc _
    have HC0 : Hid (Has W0 (w.heap.size + 1) 48 #[.int .i64 4, .string ct, .slice A n c, .int .i64 K, .string cn, .int .i64 cq, .bool cb]) := by
     have q := Has.new (w.alloc (.cells #[.int .i64 k, .int .i64 m, .string t, .slice Ab nb zb, .slice Aa na za, .int .i64 4, .string ct, .slice A n c, .int .i64 K, .string cn, .int .i64 cq, .bool cb] 61)) 48 #[.int .i64 4, .string ct, .slice A n c, .int .i64 K, .string cn, .int .i64 cq, .bool cb]
     rw [World.size_alloc] at q
     rw [hW0]; exact q.alloc _
    have HO0 : Hid (Has W0 (w.heap.size + 2) 48 #[.int .i64 4, .string ct, .slice none 0 0, .int .i64 0, .string ⟨#[]⟩, .int .i64 0, .bool false]) := by
     have q := Has.new ((w.alloc (.cells #[.int .i64 k, .int .i64 m, .string t, .slice Ab nb zb, .slice Aa na za, .int .i64 4, .string ct, .slice A n c, .int .i64 K, .string cn, .int .i64 cq, .bool cb] 61)).alloc (.cells #[.int .i64 4, .string ct, .slice A n c, .int .i64 K, .string cn, .int .i64 cq, .bool cb] 48)) 48 #[.int .i64 4, .string ct, .slice none 0 0, .int .i64 0, .string ⟨#[]⟩, .int .i64 0, .bool false]
     rw [World.size_alloc, World.size_alloc] at q
     rw [hW0]; exact q
    have HB0 : Hid (Below w.heap.size w W0) := by rw [hW0]; exact (((Below.refl w.heap.size w).alloc (Nat.le_refl _) _).alloc (by simp) _).alloc (by simp; omega) _
    rw [← hW0]
    clear hW0
    have HSY := Lib.hid (name_any cn W0.drew HCL.out.1)
    obtain ⟨rb, hrb⟩ : ∃ q, nameF cn = q := ⟨_, rfl⟩
    rw [hrb] at HS
    rw [hrb] at HSY
    clear hrb
    refine wp_region_held_drew (S := (fun X : World => X.cell? ⟨w.heap.size + 1, 4, none⟩ = some (.string cn))) (by kernel_rfl) (HC0.out.cell 4) (fun _ => ?_)
    (refine wpAnyH_take (i := 0) (v := ?_) rfl (by kernel_rfl) (by kernel_rfl) (by kernel_rfl) (fun _ _ _ h => h) (Or.inl ⟨by rfl, ?_⟩) (by assumption) ?_; rotate_left; (intro w hSw; (try dsimp only at hSw); go_simp; try with_reducible rfl); ((try simp only [zA, zB, zC, Act.put, zD, zE, zF])))
    (refine wpAnyH_take (i := 1) (v := ?_) rfl (by kernel_rfl) (by kernel_rfl) (by kernel_rfl) (fun _ _ _ h => h) (Or.inl ⟨by rfl, ?_⟩) (by assumption) ?_; rotate_left; (intro w hSw; (try dsimp only at hSw); go_simp; try with_reducible rfl); ((try simp only [zA, zB, zC, Act.put, zD, zE, zF])))
    (refine wpAnyH_take (i := 2) (v := ?_) rfl (by kernel_rfl) (by kernel_rfl) (by kernel_rfl) (fun _ _ _ h => h) (Or.inl ⟨by rfl, ?_⟩) (by assumption) ?_; rotate_left; (intro w hSw; (try dsimp only at hSw); go_simp; try with_reducible rfl); ((try simp only [zA, zB, zC, Act.put, zD, zE, zF])))
    (refine wpAnyH_take (i := 3) (v := ?_) rfl (by kernel_rfl) (by kernel_rfl) (by kernel_rfl) (fun _ _ _ h => h) (Or.inl ⟨by rfl, ?_⟩) (by assumption) ?_; rotate_left; (intro w hSw; (try dsimp only at hSw); go_simp; try with_reducible rfl); ((try simp only [zA, zB, zC, Act.put, zD, zE, zF])))
    (refine wpAnyH_take (i := 4) (v := ?_) rfl (by kernel_rfl) (by kernel_rfl) (by kernel_rfl) (fun _ _ _ h => h) (Or.inl ⟨by rfl, ?_⟩) (by assumption) ?_; rotate_left; (intro w hSw; (try dsimp only at hSw); go_simp; try with_reducible rfl); ((try simp only [zA, zB, zC, Act.put, zD, zE, zF])))
    (refine wpAnyH_take (i := 5) (v := ?_) rfl (by kernel_rfl) (by kernel_rfl) (by kernel_rfl) (fun _ _ _ h => h) (Or.inl ⟨by rfl, ?_⟩) (by assumption) ?_; rotate_left; (intro w hSw; (try dsimp only at hSw); go_simp; try with_reducible rfl); ((try simp only [zA, zB, zC, Act.put, zD, zE, zF])))
    (refine wpAnyH_take (i := 7) (v := ?_) rfl (by kernel_rfl) (by kernel_rfl) (by kernel_rfl) (fun _ _ _ h => h) (Or.inl ⟨by rfl, ?_⟩) (by assumption) ?_; rotate_left; (intro w hSw; (try dsimp only at hSw); go_simp; try with_reducible rfl); ((try simp only [zA, zB, zC, Act.put, zD, zE, zF])))
    (refine wpAnyH_take (i := 8) (v := ?_) rfl (by kernel_rfl) (by kernel_rfl) (by kernel_rfl) (fun _ _ _ h => h) (Or.inl ⟨by rfl, ?_⟩) (by assumption) ?_; rotate_left; (intro w hSw; (try dsimp only at hSw); go_simp; try with_reducible rfl); ((try simp only [zA, zB, zC, Act.put, zD, zE, zF])))
    refine wpAnyH_ready (rs := [6]) (by kernel_rfl) (by simp) ?_
    refine AllReadyH.cons rfl (fun K2 hK2 => ?_) AllReadyH.nil
    go_simp
    refine (HSY.out).mono ?_
    rintro e w4 ⟨rfl, hb4⟩
    have HB4 := Lib.hid (HB0.out.drew.trans (hb4.out.mono (show w.heap.size ≤ W0.drew.heap.size from HB0.out.size)))
    have HE4 := Lib.hid ((show Has W0.drew w.heap.size 61 #[.int .i64 k, .int .i64 m, .string t, .slice Ab nb zb, .slice Aa na za, .int .i64 4, .string ct, .slice A n c, .int .i64 K, .string cn, .int .i64 cq, .bool cb] from HE0.out).below hb4.out HE0.out.lt)
    have HC4 := Lib.hid ((show Has W0.drew (w.heap.size + 1) 48 #[.int .i64 4, .string ct, .slice A n c, .int .i64 K, .string cn, .int .i64 cq, .bool cb] from HC0.out).below hb4.out HC0.out.lt)
    have HO4 := Lib.hid ((show Has W0.drew (w.heap.size + 2) 48 #[.int .i64 4, .string ct, .slice none 0 0, .int .i64 0, .string ⟨#[]⟩, .int .i64 0, .bool false] from HO0.out).below hb4.out HO0.out.lt)
    go_wp2_with fail
    refine hK2.out _ _ (by (try dsimp only); exact (HC4.out.cell 4)) (fun _ => ?_)
    clear hK2 K2
    (try simp only [zA, zB, zC, Act.put, zD, zE, zF])
    have f4 := HO4.out.free 4
    have d4 := HO4.out.cell 4
    simp only [zG, zH, zI] at d4
    have HO7 : Hid (Has (w4.setCell ⟨w.heap.size + 2, 4, none⟩ (.string cn)) (w.heap.size + 2) 48 #[.int .i64 4, .string ct, .slice none 0 0, .int .i64 0, .string cn, .int .i64 0, .bool false]) := (HO4.out.put 4 (.string cn))
    have HE7 : Hid (Has (w4.setCell ⟨w.heap.size + 2, 4, none⟩ (.string cn)) w.heap.size 61 #[.int .i64 k, .int .i64 m, .string t, .slice Ab nb zb, .slice Aa na za, .int .i64 4, .string ct, .slice A n c, .int .i64 K, .string cn, .int .i64 cq, .bool cb]) := (HE4.out.far (p := ⟨w.heap.size + 2, 4, none⟩) (by show _ ≠ w.heap.size + 2; omega) (.string cn))
    have HC7 : Hid (Has (w4.setCell ⟨w.heap.size + 2, 4, none⟩ (.string cn)) (w.heap.size + 1) 48 #[.int .i64 4, .string ct, .slice A n c, .int .i64 K, .string cn, .int .i64 cq, .bool cb]) := (HC4.out.far (p := ⟨w.heap.size + 2, 4, none⟩) (by show _ ≠ w.heap.size + 2; omega) (.string cn))
    have HB7 : Hid (Below w.heap.size w (w4.setCell ⟨w.heap.size + 2, 4, none⟩ (.string cn))) := (HB4.out.setCell (p := ⟨w.heap.size + 2, 4, none⟩) (by show w.heap.size ≤ w.heap.size + 2; omega) (.string cn))
    refine wpAnyH_ready (rs := [9]) (by kernel_rfl) (by simp) ?_
    refine AllReadyH.cons rfl (fun K2 hK2 => ?_) (AllReadyH.nil)
    go_simp
    refine hK2.out _ _ (by (try dsimp only); exact (HC7.out.cell 4)) (fun _ => ?_)
    clear hK2 K2
    (try simp only [zA, zB, zC, Act.put, zD, zE, zF])
    (refine wpAnyH_take (i := 10) (v := ?_) rfl (by kernel_rfl) (by kernel_rfl) (by kernel_rfl) (fun _ _ _ h => h) (Or.inl ⟨by rfl, ?_⟩) (by assumption) ?_; rotate_left; (intro w hSw; (try dsimp only at hSw); go_simp; try with_reducible rfl); ((try simp only [zA, zB, zC, Act.put, zD, zE, zF])))
    refine wpAnyH_done (by kernel_rfl) ?_ _
    obtain ⟨W7, hW7⟩ : ∃ W, W = (w4.setCell ⟨w.heap.size + 2, 4, none⟩ (.string cn)) := ⟨_, rfl⟩
    rw [← hW7] at HO7 HE7 HC7 HB7 ⊢
    clear hW7 hb4 HB4 HE4 HC4 HO4 HB0 HE0 HC0 HO0 f4 d4
    clear HSY
    have c1 : W7.cell? ⟨w.heap.size + 1, 1, none⟩ = some (.string ct) := HC7.out.cell 1
    have HNM := Lib.hid (name_any ct W7 HCT.out)
    cases rb
    ·go_wp2_with fail
     go_ret
     exact ⟨by rw [HS.out]; rfl, HB7⟩
    ·go_wp2_with fail
     refine HNM.out.mono ?_
     rintro e w5 ⟨rfl, hb5⟩
     have HB5 := Lib.hid (HB7.out.trans (hb5.out.mono HB7.out.size))
     have HE5 := Lib.hid (HE7.out.below hb5.out HE7.out.lt)
     have HO5 := Lib.hid (HO7.out.below hb5.out HO7.out.lt)
     obtain ⟨nf, hnf⟩ : ∃ q, nameF ct = q := ⟨_, rfl⟩
     rw [hnf] at HS ⊢
     clear hnf hb5 c1 HNM HE7 HO7 HC7 HB7
     cases nf
     ·go_wp2_with fail
      go_ret
      exact ⟨by rw [HS.out]; rfl, HB5⟩
     ·have e0 := HE5.out.cell 0
      have e1 := HE5.out.cell 1
      have e2 := HE5.out.cell 2
      have e3 := HE5.out.cell 3
      have e4 := HE5.out.cell 4
      have e5 := HE5.out.cell 5
      have e6 := HE5.out.cell 6
      have e7 := HE5.out.cell 7
      have e8 := HE5.out.cell 8
      have e9 := HE5.out.cell 9
      have e10 := HE5.out.cell 10
      have e11 := HE5.out.cell 11
      have o0 := HO5.out.cell 0
      have o1 := HO5.out.cell 1
      have o2 := HO5.out.cell 2
      have o3 := HO5.out.cell 3
      have o4 := HO5.out.cell 4
      have o5 := HO5.out.cell 5
      have o6 := HO5.out.cell 6
      simp only [zG, zH, zI] at e0 e1 e2 e3 e4 e5 e6 e7 e8 e9 e10 e11 o0 o1 o2 o3 o4 o5 o6
      have HSM := Lib.hid (esame_any (.agg #[.int .i64 k, .int .i64 m, .string t, .slice Ab nb zb, .slice Aa na za, .int .i64 4, .string ct, .slice A n c, .int .i64 K, .string cn, .int .i64 cq, .bool cb]) (.agg #[.int .i64 6, .int .i64 0, .string ⟨#[]⟩, .slice none 0 0, .slice none 0 0, .int .i64 4, .string ct, .slice none 0 0, .int .i64 0, .string cn, .int .i64 0, .bool false]) ⟨k, m, t, B, AA, 4, ct, L, K, ⟨cn, cq, cb⟩⟩ ⟨6, 0, ⟨#[]⟩, [], [], 4, ct, [], 0, ⟨cn, 0, false⟩⟩ w5 (HEV.out.below HB5.out) (by exact ⟨none, 0, 0, none, 0, 0, none, 0, 0, rfl, ⟨rfl, by omega, fun h => absurd rfl h⟩, ⟨rfl, by omega, fun h => absurd rfl h⟩, rfl, by omega, fun h => absurd rfl h⟩))
      obtain ⟨sf, hsf⟩ : ∃ q, evF ⟨k, m, t, B, AA, 4, ct, L, K, ⟨cn, cq, cb⟩⟩ ⟨6, 0, ⟨#[]⟩, [], [], 4, ct, [], 0, ⟨cn, 0, false⟩⟩ = q := ⟨_, rfl⟩
      rw [hsf] at HS HSM
      clear hsf
      go_wp2_with fail
      refine HSM.out.mono ?_
      rintro e w6 ⟨rfl, hb6⟩
      have HB6 := Lib.hid (HB5.out.trans (hb6.out.mono HB5.out.size))
      cases sf
      ·go_wp2_with fail
       go_ret
       exact ⟨by rw [HS.out]; rfl, HB6⟩
      ·go_wp2_with fail
       go_ret
       exact ⟨by rw [HS.out]; rfl, HB6⟩
   ·by_cases hk35 : ck = 3 ∨ ck = 5
    ·rcases hk35 with rfl | rfl
     ·skip
      have HS : Hid (altP ⟨k, m, t, B, AA, 3, ct, L, K, ⟨cn, cq, cb⟩⟩ = if (smayF [⟨cn, cq, false⟩] 1 && nameF ct && evF ⟨k, m, t, B, AA, 3, ct, L, K, ⟨cn, cq, cb⟩⟩ ⟨6, 0, ⟨#[]⟩, [], [], 3, ct, [], 0, ⟨cn, cq, cb⟩⟩) = true then 0 else 1) := by show _ = _; unfold altP rightA ownA; simp
      generalize altP ⟨k, m, t, B, AA, 3, ct, L, K, ⟨cn, cq, cb⟩⟩ = res at *
      go_enter Tryz.func59, Tryz.ntmps59
      go_wp2_with fail
      obtain ⟨W0, hW0⟩ : ∃ W, W = (((w.alloc (.cells #[.int .i64 k, .int .i64 m, .string t, .slice Ab nb zb, .slice Aa na za, .int .i64 3, .string ct, .slice A n c, .int .i64 K, .string cn, .int .i64 cq, .bool cb] 61)).alloc (.cells #[.int .i64 3, .string ct, .slice A n c, .int .i64 K, .string cn, .int .i64 cq, .bool cb] 48)).alloc (.cells #[.int .i64 3, .string ct, .slice none 0 0, .int .i64 0, .string ⟨#[]⟩, .int .i64 0, .bool false] 48)) := ⟨_, rfl⟩
      have HE0 : Hid (Has W0 w.heap.size 61 #[.int .i64 k, .int .i64 m, .string t, .slice Ab nb zb, .slice Aa na za, .int .i64 3, .string ct, .slice A n c, .int .i64 K, .string cn, .int .i64 cq, .bool cb]) := by rw [hW0]; exact ((Has.new _ _ _).alloc _).alloc _
      have HC0 : Hid (Has W0 (w.heap.size + 1) 48 #[.int .i64 3, .string ct, .slice A n c, .int .i64 K, .string cn, .int .i64 cq, .bool cb]) := by
       have q := Has.new (w.alloc (.cells #[.int .i64 k, .int .i64 m, .string t, .slice Ab nb zb, .slice Aa na za, .int .i64 3, .string ct, .slice A n c, .int .i64 K, .string cn, .int .i64 cq, .bool cb] 61)) 48 #[.int .i64 3, .string ct, .slice A n c, .int .i64 K, .string cn, .int .i64 cq, .bool cb]
       rw [World.size_alloc] at q
       rw [hW0]; exact q.alloc _
      have HO0 : Hid (Has W0 (w.heap.size + 2) 48 #[.int .i64 3, .string ct, .slice none 0 0, .int .i64 0, .string ⟨#[]⟩, .int .i64 0, .bool false]) := by
       have q := Has.new ((w.alloc (.cells #[.int .i64 k, .int .i64 m, .string t, .slice Ab nb zb, .slice Aa na za, .int .i64 3, .string ct, .slice A n c, .int .i64 K, .string cn, .int .i64 cq, .bool cb] 61)).alloc (.cells #[.int .i64 3, .string ct, .slice A n c, .int .i64 K, .string cn, .int .i64 cq, .bool cb] 48)) 48 #[.int .i64 3, .string ct, .slice none 0 0, .int .i64 0, .string ⟨#[]⟩, .int .i64 0, .bool false]
       rw [World.size_alloc, World.size_alloc] at q
       rw [hW0]; exact q
      have HB0 : Hid (Below w.heap.size w W0) := by rw [hW0]; exact (((Below.refl w.heap.size w).alloc (Nat.le_refl _) _).alloc (by simp) _).alloc (by simp; omega) _
      rw [← hW0]
      clear hW0
      have HSY := Lib.hid (isColumn_any cn cq cb W0.drew ⟨HCL.out.1, HCL.out.2.1, HCL.out.2.2⟩)
      obtain ⟨rb, hrb⟩ : ∃ q, smayF [⟨cn, cq, false⟩] 1 = q := ⟨_, rfl⟩
      rw [hrb] at HS
      rw [hrb] at HSY
      clear hrb
      refine wp_region_held_drew (S := (fun X : World => X.cell? ⟨w.heap.size + 1, 4, none⟩ = some (.string cn) ∧ X.cell? ⟨w.heap.size + 1, 5, none⟩ = some (.int .i64 cq) ∧ X.cell? ⟨w.heap.size + 1, 6, none⟩ = some (.bool cb))) (by kernel_rfl) ⟨HC0.out.cell 4, HC0.out.cell 5, HC0.out.cell 6⟩ (fun _ => ?_)
      (refine wpAnyH_take (i := 0) (v := ?_) rfl (by kernel_rfl) (by kernel_rfl) (by kernel_rfl) (fun _ _ _ h => h) (Or.inl ⟨by rfl, ?_⟩) (by assumption) ?_; rotate_left; (intro w hSw; (try dsimp only at hSw); go_simp; try with_reducible rfl); ((try simp only [zA, zB, zC, Act.put, zD, zE, zF])))
      (refine wpAnyH_take (i := 1) (v := ?_) rfl (by kernel_rfl) (by kernel_rfl) (by kernel_rfl) (fun _ _ _ h => h) (Or.inl ⟨by rfl, ?_⟩) (by assumption) ?_; rotate_left; (intro w hSw; (try dsimp only at hSw); go_simp; try with_reducible rfl); ((try simp only [zA, zB, zC, Act.put, zD, zE, zF])))
      (refine wpAnyH_take (i := 2) (v := ?_) rfl (by kernel_rfl) (by kernel_rfl) (by kernel_rfl) (fun _ _ _ h => h) (Or.inl ⟨by rfl, ?_⟩) (by assumption) ?_; rotate_left; (intro w hSw; (try dsimp only at hSw); go_simp; try with_reducible rfl); ((try simp only [zA, zB, zC, Act.put, zD, zE, zF])))
      (refine wpAnyH_take (i := 3) (v := ?_) rfl (by kernel_rfl) (by kernel_rfl) (by kernel_rfl) (fun _ _ _ h => h) (Or.inl ⟨by rfl, ?_⟩) (by assumption) ?_; rotate_left; (intro w hSw; (try dsimp only at hSw); go_simp; try with_reducible rfl); ((try simp only [zA, zB, zC, Act.put, zD, zE, zF])))
      (refine wpAnyH_take (i := 5) (v := ?_) rfl (by kernel_rfl) (by kernel_rfl) (by kernel_rfl) (fun _ _ _ h => h) (Or.inl ⟨by rfl, ?_⟩) (by assumption) ?_; rotate_left; (intro w hSw; (try dsimp only at hSw); go_simp; try with_reducible rfl); ((try simp only [zA, zB, zC, Act.put, zD, zE, zF])))
      refine wpAnyH_ready (rs := [4]) (by kernel_rfl) (by simp) ?_
      refine AllReadyH.cons rfl (fun K2 hK2 => ?_) AllReadyH.nil
      go_simp
      refine (HSY.out).mono ?_
      rintro e w4 ⟨rfl, hb4⟩
      have HB4 := Lib.hid (HB0.out.drew.trans (hb4.out.mono (show w.heap.size ≤ W0.drew.heap.size from HB0.out.size)))
      have HE4 := Lib.hid ((show Has W0.drew w.heap.size 61 #[.int .i64 k, .int .i64 m, .string t, .slice Ab nb zb, .slice Aa na za, .int .i64 3, .string ct, .slice A n c, .int .i64 K, .string cn, .int .i64 cq, .bool cb] from HE0.out).below hb4.out HE0.out.lt)
      have HC4 := Lib.hid ((show Has W0.drew (w.heap.size + 1) 48 #[.int .i64 3, .string ct, .slice A n c, .int .i64 K, .string cn, .int .i64 cq, .bool cb] from HC0.out).below hb4.out HC0.out.lt)
      have HO4 := Lib.hid ((show Has W0.drew (w.heap.size + 2) 48 #[.int .i64 3, .string ct, .slice none 0 0, .int .i64 0, .string ⟨#[]⟩, .int .i64 0, .bool false] from HO0.out).below hb4.out HO0.out.lt)
      go_wp2_with fail
      refine hK2.out _ _ (by (try dsimp only); exact ⟨HC4.out.cell 4, HC4.out.cell 5, HC4.out.cell 6⟩) (fun _ => ?_)
      clear hK2 K2
      (try simp only [zA, zB, zC, Act.put, zD, zE, zF])
      have f4 := HO4.out.free 4
      have d4 := HO4.out.cell 4
      have f5 := HO4.out.free 5
      have d5 := HO4.out.cell 5
      have f6 := HO4.out.free 6
      have d6 := HO4.out.cell 6
      simp only [zG, zH, zI] at d4 d5 d6
      have HO7 : Hid (Has (((w4.setCell ⟨w.heap.size + 2, 4, none⟩ (.string cn)).setCell ⟨w.heap.size + 2, 5, none⟩ (.int .i64 cq)).setCell ⟨w.heap.size + 2, 6, none⟩ (.bool cb)) (w.heap.size + 2) 48 #[.int .i64 3, .string ct, .slice none 0 0, .int .i64 0, .string cn, .int .i64 cq, .bool cb]) := (((HO4.out.put 4 (.string cn)).put 5 (.int .i64 cq)).put 6 (.bool cb))
      have HE7 : Hid (Has (((w4.setCell ⟨w.heap.size + 2, 4, none⟩ (.string cn)).setCell ⟨w.heap.size + 2, 5, none⟩ (.int .i64 cq)).setCell ⟨w.heap.size + 2, 6, none⟩ (.bool cb)) w.heap.size 61 #[.int .i64 k, .int .i64 m, .string t, .slice Ab nb zb, .slice Aa na za, .int .i64 3, .string ct, .slice A n c, .int .i64 K, .string cn, .int .i64 cq, .bool cb]) := (((HE4.out.far (p := ⟨w.heap.size + 2, 4, none⟩) (by show _ ≠ w.heap.size + 2; omega) (.string cn)).far (p := ⟨w.heap.size + 2, 5, none⟩) (by show _ ≠ w.heap.size + 2; omega) (.int .i64 cq)).far (p := ⟨w.heap.size + 2, 6, none⟩) (by show _ ≠ w.heap.size + 2; omega) (.bool cb))
      have HC7 : Hid (Has (((w4.setCell ⟨w.heap.size + 2, 4, none⟩ (.string cn)).setCell ⟨w.heap.size + 2, 5, none⟩ (.int .i64 cq)).setCell ⟨w.heap.size + 2, 6, none⟩ (.bool cb)) (w.heap.size + 1) 48 #[.int .i64 3, .string ct, .slice A n c, .int .i64 K, .string cn, .int .i64 cq, .bool cb]) := (((HC4.out.far (p := ⟨w.heap.size + 2, 4, none⟩) (by show _ ≠ w.heap.size + 2; omega) (.string cn)).far (p := ⟨w.heap.size + 2, 5, none⟩) (by show _ ≠ w.heap.size + 2; omega) (.int .i64 cq)).far (p := ⟨w.heap.size + 2, 6, none⟩) (by show _ ≠ w.heap.size + 2; omega) (.bool cb))
      have HB7 : Hid (Below w.heap.size w (((w4.setCell ⟨w.heap.size + 2, 4, none⟩ (.string cn)).setCell ⟨w.heap.size + 2, 5, none⟩ (.int .i64 cq)).setCell ⟨w.heap.size + 2, 6, none⟩ (.bool cb))) := (((HB4.out.setCell (p := ⟨w.heap.size + 2, 4, none⟩) (by show w.heap.size ≤ w.heap.size + 2; omega) (.string cn)).setCell (p := ⟨w.heap.size + 2, 5, none⟩) (by show w.heap.size ≤ w.heap.size + 2; omega) (.int .i64 cq)).setCell (p := ⟨w.heap.size + 2, 6, none⟩) (by show w.heap.size ≤ w.heap.size + 2; omega) (.bool cb))
      refine wpAnyH_ready (rs := [6]) (by kernel_rfl) (by simp) ?_
      refine AllReadyH.cons rfl (fun K2 hK2 => ?_) (AllReadyH.nil)
      go_simp
      refine hK2.out _ _ (by (try dsimp only); exact ⟨HC7.out.cell 4, HC7.out.cell 5, HC7.out.cell 6⟩) (fun _ => ?_)
      clear hK2 K2
      (try simp only [zA, zB, zC, Act.put, zD, zE, zF])
      (refine wpAnyH_take (i := 7) (v := ?_) rfl (by kernel_rfl) (by kernel_rfl) (by kernel_rfl) (fun _ _ _ h => h) (Or.inl ⟨by rfl, ?_⟩) (by assumption) ?_; rotate_left; (intro w hSw; (try dsimp only at hSw); go_simp; try with_reducible rfl); ((try simp only [zA, zB, zC, Act.put, zD, zE, zF])))
      refine wpAnyH_done (by kernel_rfl) ?_ _
      obtain ⟨W7, hW7⟩ : ∃ W, W = (((w4.setCell ⟨w.heap.size + 2, 4, none⟩ (.string cn)).setCell ⟨w.heap.size + 2, 5, none⟩ (.int .i64 cq)).setCell ⟨w.heap.size + 2, 6, none⟩ (.bool cb)) := ⟨_, rfl⟩
      rw [← hW7] at HO7 HE7 HC7 HB7 ⊢
      clear hW7 hb4 HB4 HE4 HC4 HO4 HB0 HE0 HC0 HO0 f4 d4 f5 d5 f6 d6
      clear HSY
      have c1 : W7.cell? ⟨w.heap.size + 1, 1, none⟩ = some (.string ct) := HC7.out.cell 1
      have HNM := Lib.hid (name_any ct W7 HCT.out)
      cases rb
      ·go_wp2_with fail
       go_ret
       exact ⟨by rw [HS.out]; rfl, HB7⟩
      ·go_wp2_with fail
       refine HNM.out.mono ?_
       rintro e w5 ⟨rfl, hb5⟩
       have HB5 := Lib.hid (HB7.out.trans (hb5.out.mono HB7.out.size))
       have HE5 := Lib.hid (HE7.out.below hb5.out HE7.out.lt)
       have HO5 := Lib.hid (HO7.out.below hb5.out HO7.out.lt)
       obtain ⟨nf, hnf⟩ : ∃ q, nameF ct = q := ⟨_, rfl⟩
       rw [hnf] at HS ⊢
       clear hnf hb5 c1 HNM HE7 HO7 HC7 HB7
       cases nf
       ·go_wp2_with fail
        go_ret
        exact ⟨by rw [HS.out]; rfl, HB5⟩
       ·have e0 := HE5.out.cell 0
        have e1 := HE5.out.cell 1
        have e2 := HE5.out.cell 2
        have e3 := HE5.out.cell 3
        have e4 := HE5.out.cell 4
        have e5 := HE5.out.cell 5
        have e6 := HE5.out.cell 6
        have e7 := HE5.out.cell 7
        have e8 := HE5.out.cell 8
        have e9 := HE5.out.cell 9
        have e10 := HE5.out.cell 10
        have e11 := HE5.out.cell 11
        have o0 := HO5.out.cell 0
        have o1 := HO5.out.cell 1
        have o2 := HO5.out.cell 2
        have o3 := HO5.out.cell 3
        have o4 := HO5.out.cell 4
        have o5 := HO5.out.cell 5
        have o6 := HO5.out.cell 6
        simp only [zG, zH, zI] at e0 e1 e2 e3 e4 e5 e6 e7 e8 e9 e10 e11 o0 o1 o2 o3 o4 o5 o6
        have HSM := Lib.hid (esame_any (.agg #[.int .i64 k, .int .i64 m, .string t, .slice Ab nb zb, .slice Aa na za, .int .i64 3, .string ct, .slice A n c, .int .i64 K, .string cn, .int .i64 cq, .bool cb]) (.agg #[.int .i64 6, .int .i64 0, .string ⟨#[]⟩, .slice none 0 0, .slice none 0 0, .int .i64 3, .string ct, .slice none 0 0, .int .i64 0, .string cn, .int .i64 cq, .bool cb]) ⟨k, m, t, B, AA, 3, ct, L, K, ⟨cn, cq, cb⟩⟩ ⟨6, 0, ⟨#[]⟩, [], [], 3, ct, [], 0, ⟨cn, cq, cb⟩⟩ w5 (HEV.out.below HB5.out) (by exact ⟨none, 0, 0, none, 0, 0, none, 0, 0, rfl, ⟨rfl, by omega, fun h => absurd rfl h⟩, ⟨rfl, by omega, fun h => absurd rfl h⟩, rfl, by omega, fun h => absurd rfl h⟩))
        obtain ⟨sf, hsf⟩ : ∃ q, evF ⟨k, m, t, B, AA, 3, ct, L, K, ⟨cn, cq, cb⟩⟩ ⟨6, 0, ⟨#[]⟩, [], [], 3, ct, [], 0, ⟨cn, cq, cb⟩⟩ = q := ⟨_, rfl⟩
        rw [hsf] at HS HSM
        clear hsf
        go_wp2_with fail
        refine HSM.out.mono ?_
        rintro e w6 ⟨rfl, hb6⟩
        have HB6 := Lib.hid (HB5.out.trans (hb6.out.mono HB5.out.size))
        cases sf
        ·go_wp2_with fail
         go_ret
         exact ⟨by rw [HS.out]; rfl, HB6⟩
        ·go_wp2_with fail
         go_ret
         exact ⟨by rw [HS.out]; rfl, HB6⟩
     ·skip
      have HS : Hid (altP ⟨k, m, t, B, AA, 5, ct, L, K, ⟨cn, cq, cb⟩⟩ = if (smayF [⟨cn, cq, false⟩] 1 && nameF ct && evF ⟨k, m, t, B, AA, 5, ct, L, K, ⟨cn, cq, cb⟩⟩ ⟨6, 0, ⟨#[]⟩, [], [], 5, ct, [], 0, ⟨cn, cq, cb⟩⟩) = true then 0 else 1) := by show _ = _; unfold altP rightA ownA; simp
      generalize altP ⟨k, m, t, B, AA, 5, ct, L, K, ⟨cn, cq, cb⟩⟩ = res at *
      go_enter Tryz.func59, Tryz.ntmps59
      go_wp2_with fail
      obtain ⟨W0, hW0⟩ : ∃ W, W = (((w.alloc (.cells #[.int .i64 k, .int .i64 m, .string t, .slice Ab nb zb, .slice Aa na za, .int .i64 5, .string ct, .slice A n c, .int .i64 K, .string cn, .int .i64 cq, .bool cb] 61)).alloc (.cells #[.int .i64 5, .string ct, .slice A n c, .int .i64 K, .string cn, .int .i64 cq, .bool cb] 48)).alloc (.cells #[.int .i64 5, .string ct, .slice none 0 0, .int .i64 0, .string ⟨#[]⟩, .int .i64 0, .bool false] 48)) := ⟨_, rfl⟩
      have HE0 : Hid (Has W0 w.heap.size 61 #[.int .i64 k, .int .i64 m, .string t, .slice Ab nb zb, .slice Aa na za, .int .i64 5, .string ct, .slice A n c, .int .i64 K, .string cn, .int .i64 cq, .bool cb]) := by rw [hW0]; exact ((Has.new _ _ _).alloc _).alloc _
      have HC0 : Hid (Has W0 (w.heap.size + 1) 48 #[.int .i64 5, .string ct, .slice A n c, .int .i64 K, .string cn, .int .i64 cq, .bool cb]) := by
       have q := Has.new (w.alloc (.cells #[.int .i64 k, .int .i64 m, .string t, .slice Ab nb zb, .slice Aa na za, .int .i64 5, .string ct, .slice A n c, .int .i64 K, .string cn, .int .i64 cq, .bool cb] 61)) 48 #[.int .i64 5, .string ct, .slice A n c, .int .i64 K, .string cn, .int .i64 cq, .bool cb]
       rw [World.size_alloc] at q
       rw [hW0]; exact q.alloc _
      have HO0 : Hid (Has W0 (w.heap.size + 2) 48 #[.int .i64 5, .string ct, .slice none 0 0, .int .i64 0, .string ⟨#[]⟩, .int .i64 0, .bool false]) := by
       have q := Has.new ((w.alloc (.cells #[.int .i64 k, .int .i64 m, .string t, .slice Ab nb zb, .slice Aa na za, .int .i64 5, .string ct, .slice A n c, .int .i64 K, .string cn, .int .i64 cq, .bool cb] 61)).alloc (.cells #[.int .i64 5, .string ct, .slice A n c, .int .i64 K, .string cn, .int .i64 cq, .bool cb] 48)) 48 #[.int .i64 5, .string ct, .slice none 0 0, .int .i64 0, .string ⟨#[]⟩, .int .i64 0, .bool false]
       rw [World.size_alloc, World.size_alloc] at q
       rw [hW0]; exact q
      have HB0 : Hid (Below w.heap.size w W0) := by rw [hW0]; exact (((Below.refl w.heap.size w).alloc (Nat.le_refl _) _).alloc (by simp) _).alloc (by simp; omega) _
      rw [← hW0]
      clear hW0
      have HSY := Lib.hid (isColumn_any cn cq cb W0.drew ⟨HCL.out.1, HCL.out.2.1, HCL.out.2.2⟩)
      obtain ⟨rb, hrb⟩ : ∃ q, smayF [⟨cn, cq, false⟩] 1 = q := ⟨_, rfl⟩
      rw [hrb] at HS
      rw [hrb] at HSY
      clear hrb
      refine wp_region_held_drew (S := (fun X : World => X.cell? ⟨w.heap.size + 1, 4, none⟩ = some (.string cn) ∧ X.cell? ⟨w.heap.size + 1, 5, none⟩ = some (.int .i64 cq) ∧ X.cell? ⟨w.heap.size + 1, 6, none⟩ = some (.bool cb))) (by kernel_rfl) ⟨HC0.out.cell 4, HC0.out.cell 5, HC0.out.cell 6⟩ (fun _ => ?_)
      (refine wpAnyH_take (i := 0) (v := ?_) rfl (by kernel_rfl) (by kernel_rfl) (by kernel_rfl) (fun _ _ _ h => h) (Or.inl ⟨by rfl, ?_⟩) (by assumption) ?_; rotate_left; (intro w hSw; (try dsimp only at hSw); go_simp; try with_reducible rfl); ((try simp only [zA, zB, zC, Act.put, zD, zE, zF])))
      (refine wpAnyH_take (i := 1) (v := ?_) rfl (by kernel_rfl) (by kernel_rfl) (by kernel_rfl) (fun _ _ _ h => h) (Or.inl ⟨by rfl, ?_⟩) (by assumption) ?_; rotate_left; (intro w hSw; (try dsimp only at hSw); go_simp; try with_reducible rfl); ((try simp only [zA, zB, zC, Act.put, zD, zE, zF])))
      (refine wpAnyH_take (i := 2) (v := ?_) rfl (by kernel_rfl) (by kernel_rfl) (by kernel_rfl) (fun _ _ _ h => h) (Or.inl ⟨by rfl, ?_⟩) (by assumption) ?_; rotate_left; (intro w hSw; (try dsimp only at hSw); go_simp; try with_reducible rfl); ((try simp only [zA, zB, zC, Act.put, zD, zE, zF])))
      (refine wpAnyH_take (i := 3) (v := ?_) rfl (by kernel_rfl) (by kernel_rfl) (by kernel_rfl) (fun _ _ _ h => h) (Or.inl ⟨by rfl, ?_⟩) (by assumption) ?_; rotate_left; (intro w hSw; (try dsimp only at hSw); go_simp; try with_reducible rfl); ((try simp only [zA, zB, zC, Act.put, zD, zE, zF])))
      (refine wpAnyH_take (i := 5) (v := ?_) rfl (by kernel_rfl) (by kernel_rfl) (by kernel_rfl) (fun _ _ _ h => h) (Or.inl ⟨by rfl, ?_⟩) (by assumption) ?_; rotate_left; (intro w hSw; (try dsimp only at hSw); go_simp; try with_reducible rfl); ((try simp only [zA, zB, zC, Act.put, zD, zE, zF])))
      refine wpAnyH_ready (rs := [4]) (by kernel_rfl) (by simp) ?_
      refine AllReadyH.cons rfl (fun K2 hK2 => ?_) AllReadyH.nil
      go_simp
      refine (HSY.out).mono ?_
      rintro e w4 ⟨rfl, hb4⟩
      have HB4 := Lib.hid (HB0.out.drew.trans (hb4.out.mono (show w.heap.size ≤ W0.drew.heap.size from HB0.out.size)))
      have HE4 := Lib.hid ((show Has W0.drew w.heap.size 61 #[.int .i64 k, .int .i64 m, .string t, .slice Ab nb zb, .slice Aa na za, .int .i64 5, .string ct, .slice A n c, .int .i64 K, .string cn, .int .i64 cq, .bool cb] from HE0.out).below hb4.out HE0.out.lt)
      have HC4 := Lib.hid ((show Has W0.drew (w.heap.size + 1) 48 #[.int .i64 5, .string ct, .slice A n c, .int .i64 K, .string cn, .int .i64 cq, .bool cb] from HC0.out).below hb4.out HC0.out.lt)
      have HO4 := Lib.hid ((show Has W0.drew (w.heap.size + 2) 48 #[.int .i64 5, .string ct, .slice none 0 0, .int .i64 0, .string ⟨#[]⟩, .int .i64 0, .bool false] from HO0.out).below hb4.out HO0.out.lt)
      go_wp2_with fail
      refine hK2.out _ _ (by (try dsimp only); exact ⟨HC4.out.cell 4, HC4.out.cell 5, HC4.out.cell 6⟩) (fun _ => ?_)
      clear hK2 K2
      (try simp only [zA, zB, zC, Act.put, zD, zE, zF])
      have f4 := HO4.out.free 4
      have d4 := HO4.out.cell 4
      have f5 := HO4.out.free 5
      have d5 := HO4.out.cell 5
      have f6 := HO4.out.free 6
      have d6 := HO4.out.cell 6
      simp only [zG, zH, zI] at d4 d5 d6
      have HO7 : Hid (Has (((w4.setCell ⟨w.heap.size + 2, 4, none⟩ (.string cn)).setCell ⟨w.heap.size + 2, 5, none⟩ (.int .i64 cq)).setCell ⟨w.heap.size + 2, 6, none⟩ (.bool cb)) (w.heap.size + 2) 48 #[.int .i64 5, .string ct, .slice none 0 0, .int .i64 0, .string cn, .int .i64 cq, .bool cb]) := (((HO4.out.put 4 (.string cn)).put 5 (.int .i64 cq)).put 6 (.bool cb))
      have HE7 : Hid (Has (((w4.setCell ⟨w.heap.size + 2, 4, none⟩ (.string cn)).setCell ⟨w.heap.size + 2, 5, none⟩ (.int .i64 cq)).setCell ⟨w.heap.size + 2, 6, none⟩ (.bool cb)) w.heap.size 61 #[.int .i64 k, .int .i64 m, .string t, .slice Ab nb zb, .slice Aa na za, .int .i64 5, .string ct, .slice A n c, .int .i64 K, .string cn, .int .i64 cq, .bool cb]) := (((HE4.out.far (p := ⟨w.heap.size + 2, 4, none⟩) (by show _ ≠ w.heap.size + 2; omega) (.string cn)).far (p := ⟨w.heap.size + 2, 5, none⟩) (by show _ ≠ w.heap.size + 2; omega) (.int .i64 cq)).far (p := ⟨w.heap.size + 2, 6, none⟩) (by show _ ≠ w.heap.size + 2; omega) (.bool cb))
      have HC7 : Hid (Has (((w4.setCell ⟨w.heap.size + 2, 4, none⟩ (.string cn)).setCell ⟨w.heap.size + 2, 5, none⟩ (.int .i64 cq)).setCell ⟨w.heap.size + 2, 6, none⟩ (.bool cb)) (w.heap.size + 1) 48 #[.int .i64 5, .string ct, .slice A n c, .int .i64 K, .string cn, .int .i64 cq, .bool cb]) := (((HC4.out.far (p := ⟨w.heap.size + 2, 4, none⟩) (by show _ ≠ w.heap.size + 2; omega) (.string cn)).far (p := ⟨w.heap.size + 2, 5, none⟩) (by show _ ≠ w.heap.size + 2; omega) (.int .i64 cq)).far (p := ⟨w.heap.size + 2, 6, none⟩) (by show _ ≠ w.heap.size + 2; omega) (.bool cb))
      have HB7 : Hid (Below w.heap.size w (((w4.setCell ⟨w.heap.size + 2, 4, none⟩ (.string cn)).setCell ⟨w.heap.size + 2, 5, none⟩ (.int .i64 cq)).setCell ⟨w.heap.size + 2, 6, none⟩ (.bool cb))) := (((HB4.out.setCell (p := ⟨w.heap.size + 2, 4, none⟩) (by show w.heap.size ≤ w.heap.size + 2; omega) (.string cn)).setCell (p := ⟨w.heap.size + 2, 5, none⟩) (by show w.heap.size ≤ w.heap.size + 2; omega) (.int .i64 cq)).setCell (p := ⟨w.heap.size + 2, 6, none⟩) (by show w.heap.size ≤ w.heap.size + 2; omega) (.bool cb))
      refine wpAnyH_ready (rs := [6]) (by kernel_rfl) (by simp) ?_
      refine AllReadyH.cons rfl (fun K2 hK2 => ?_) (AllReadyH.nil)
      go_simp
      refine hK2.out _ _ (by (try dsimp only); exact ⟨HC7.out.cell 4, HC7.out.cell 5, HC7.out.cell 6⟩) (fun _ => ?_)
      clear hK2 K2
      (try simp only [zA, zB, zC, Act.put, zD, zE, zF])
      (refine wpAnyH_take (i := 7) (v := ?_) rfl (by kernel_rfl) (by kernel_rfl) (by kernel_rfl) (fun _ _ _ h => h) (Or.inl ⟨by rfl, ?_⟩) (by assumption) ?_; rotate_left; (intro w hSw; (try dsimp only at hSw); go_simp; try with_reducible rfl); ((try simp only [zA, zB, zC, Act.put, zD, zE, zF])))
      refine wpAnyH_done (by kernel_rfl) ?_ _
      obtain ⟨W7, hW7⟩ : ∃ W, W = (((w4.setCell ⟨w.heap.size + 2, 4, none⟩ (.string cn)).setCell ⟨w.heap.size + 2, 5, none⟩ (.int .i64 cq)).setCell ⟨w.heap.size + 2, 6, none⟩ (.bool cb)) := ⟨_, rfl⟩
      rw [← hW7] at HO7 HE7 HC7 HB7 ⊢
      clear hW7 hb4 HB4 HE4 HC4 HO4 HB0 HE0 HC0 HO0 f4 d4 f5 d5 f6 d6
      clear HSY
      have c1 : W7.cell? ⟨w.heap.size + 1, 1, none⟩ = some (.string ct) := HC7.out.cell 1
      have HNM := Lib.hid (name_any ct W7 HCT.out)
      cases rb
      ·go_wp2_with fail
       go_ret
       exact ⟨by rw [HS.out]; rfl, HB7⟩
      ·go_wp2_with fail
       refine HNM.out.mono ?_
       rintro e w5 ⟨rfl, hb5⟩
       have HB5 := Lib.hid (HB7.out.trans (hb5.out.mono HB7.out.size))
       have HE5 := Lib.hid (HE7.out.below hb5.out HE7.out.lt)
       have HO5 := Lib.hid (HO7.out.below hb5.out HO7.out.lt)
       obtain ⟨nf, hnf⟩ : ∃ q, nameF ct = q := ⟨_, rfl⟩
       rw [hnf] at HS ⊢
       clear hnf hb5 c1 HNM HE7 HO7 HC7 HB7
       cases nf
       ·go_wp2_with fail
        go_ret
        exact ⟨by rw [HS.out]; rfl, HB5⟩
       ·have e0 := HE5.out.cell 0
        have e1 := HE5.out.cell 1
        have e2 := HE5.out.cell 2
        have e3 := HE5.out.cell 3
        have e4 := HE5.out.cell 4
        have e5 := HE5.out.cell 5
        have e6 := HE5.out.cell 6
        have e7 := HE5.out.cell 7
        have e8 := HE5.out.cell 8
        have e9 := HE5.out.cell 9
        have e10 := HE5.out.cell 10
        have e11 := HE5.out.cell 11
        have o0 := HO5.out.cell 0
        have o1 := HO5.out.cell 1
        have o2 := HO5.out.cell 2
        have o3 := HO5.out.cell 3
        have o4 := HO5.out.cell 4
        have o5 := HO5.out.cell 5
        have o6 := HO5.out.cell 6
        simp only [zG, zH, zI] at e0 e1 e2 e3 e4 e5 e6 e7 e8 e9 e10 e11 o0 o1 o2 o3 o4 o5 o6
        have HSM := Lib.hid (esame_any (.agg #[.int .i64 k, .int .i64 m, .string t, .slice Ab nb zb, .slice Aa na za, .int .i64 5, .string ct, .slice A n c, .int .i64 K, .string cn, .int .i64 cq, .bool cb]) (.agg #[.int .i64 6, .int .i64 0, .string ⟨#[]⟩, .slice none 0 0, .slice none 0 0, .int .i64 5, .string ct, .slice none 0 0, .int .i64 0, .string cn, .int .i64 cq, .bool cb]) ⟨k, m, t, B, AA, 5, ct, L, K, ⟨cn, cq, cb⟩⟩ ⟨6, 0, ⟨#[]⟩, [], [], 5, ct, [], 0, ⟨cn, cq, cb⟩⟩ w5 (HEV.out.below HB5.out) (by exact ⟨none, 0, 0, none, 0, 0, none, 0, 0, rfl, ⟨rfl, by omega, fun h => absurd rfl h⟩, ⟨rfl, by omega, fun h => absurd rfl h⟩, rfl, by omega, fun h => absurd rfl h⟩))
        obtain ⟨sf, hsf⟩ : ∃ q, evF ⟨k, m, t, B, AA, 5, ct, L, K, ⟨cn, cq, cb⟩⟩ ⟨6, 0, ⟨#[]⟩, [], [], 5, ct, [], 0, ⟨cn, cq, cb⟩⟩ = q := ⟨_, rfl⟩
        rw [hsf] at HS HSM
        clear hsf
        go_wp2_with fail
        refine HSM.out.mono ?_
        rintro e w6 ⟨rfl, hb6⟩
        have HB6 := Lib.hid (HB5.out.trans (hb6.out.mono HB5.out.size))
        cases sf
        ·go_wp2_with fail
         go_ret
         exact ⟨by rw [HS.out]; rfl, HB6⟩
        ·go_wp2_with fail
         go_ret
         exact ⟨by rw [HS.out]; rfl, HB6⟩
    ·have e : altP ⟨k, m, t, B, AA, ck, ct, L, K, ⟨cn, cq, cb⟩⟩ = 5 := by unfold altP; rw [if_neg (by dsimp only; omega)]
     rw [e]
     have q1 : (ck == 1) = false := by simp; omega
     have q2 : (ck == 2) = false := by simp; omega
     have q3 : (ck == 3) = false := by simp; omega
     have q4 : (ck == 4) = false := by simp; omega
     have q5 : (ck == 5) = false := by simp; omega
     clear e hk1 hk2 hk4 hk35
     have HB : Hid (Below w.heap.size w (((w.alloc (.cells #[.int .i64 k, .int .i64 m, .string t, .slice Ab nb zb, .slice Aa na za, .int .i64 ck, .string ct, .slice A n c, .int .i64 K, .string cn, .int .i64 cq, .bool cb] 61)).alloc (.cells #[.int .i64 ck, .string ct, .slice A n c, .int .i64 K, .string cn, .int .i64 cq, .bool cb] 48)).alloc (.cells #[.int .i64 ck, .string ct, .slice none 0 0, .int .i64 0, .string ⟨#[]⟩, .int .i64 0, .bool false] 48))) := (((Below.refl w.heap.size w).alloc (Nat.le_refl _) _).alloc (by simp) _).alloc (by simp; omega) _
     go_enter Tryz.func59, Tryz.ntmps59
     go_wp2_with fail
     go_ret
     exact ⟨rfl, HB⟩
structure EvW (w : World) (x : Ev) (Ab : Option Addr) (nb zb : Nat) (Aa : Option Addr) (na za : Nat) (A : Option Addr) (n c : Nat) : Prop where
 at_ : EvAt w (.agg #[.int .i64 x.k, .int .i64 x.n, .string x.t, .slice Ab nb zb, .slice Aa na za, .int .i64 x.ck, .string x.ct, .slice A n c, .int .i64 x.K, .string x.cl.nm, .int .i64 x.cl.k, .bool x.cl.no]) x
 b : x.B.length = nb ∧ nb ≤ zb ∧ VRow w Ab x.B ∧ ∀ y ∈ x.B, y.fit
 a : x.A.length = na ∧ na ≤ za ∧ VRow w Aa x.A ∧ ∀ y ∈ x.A, y.fit
 nb63 : (nb : Int) ≤ 9223372036854775807
 na63 : (na : Int) ≤ 9223372036854775807
 l : x.L.length = n ∧ n ≤ 4398046511104 ∧ CRow w A x.L ∧ ∀ y ∈ x.L, y.fit
 ct : x.ct.size ≤ 140737488355328
 cl : x.cl.fit
theorem EvW.below {w w' : World} {x : Ev} {Ab : Option Addr} {nb zb : Nat} {Aa : Option Addr} {na za : Nat} {A : Option Addr} {n c : Nat} (h : EvW w x Ab nb zb Aa na za A n c) (hb : Below w.heap.size w w') : EvW w' x Ab nb zb Aa na za A n c :=
 ⟨h.at_.below hb, ⟨h.b.1, h.b.2.1, h.b.2.2.1.below hb, h.b.2.2.2⟩, ⟨h.a.1, h.a.2.1, h.a.2.2.1.below hb, h.a.2.2.2⟩, h.nb63, h.na63, ⟨h.l.1, h.l.2.1, h.l.2.2.1.below hb, h.l.2.2.2⟩, h.ct, h.cl⟩
structure TbW (w : World) (At : Option Addr) (nt ct : Nat) (T : List Tb) : Prop where
 len : T.length = nt
 few : nt ≤ 1000
 row : TRow w At T
 ok : TOks w T
 sort : SortT T
 good : ∀ y ∈ T, ∃ k : Nat, y.K = (k : Int) ∧ k ≤ y.L.length ∧ k ≤ 4
theorem TbW.below {w w' : World} {At : Option Addr} {nt ct : Nat} {T : List Tb} (h : TbW w At nt ct T) (hb : Below w.heap.size w w') : TbW w' At nt ct T :=
 ⟨h.len, h.few, h.row.below hb, h.ok.below hb, h.sort, h.good⟩
def mayP (x : Ev) (T : List Tb) : Int :=
 if x.k = 1 ∨ x.k = 2 ∨ x.k = 7 ∨ x.k = 8 ∨ x.k = 9 ∨ x.k = 10 then numF6 x
 else if x.k = 3 ∨ x.k = 4 ∨ x.k = 5 then rowG6 x T
 else if x.k = 6 then altP x else 5
set_option maxHeartbeats 8000000 in
theorem emay_any (x : Ev) (Ab : Option Addr) (nb zb : Nat) (Aa : Option Addr) (na za : Nat) (A : Option Addr) (n c : Nat) (At : Option Addr) (nt ctt : Nat) (T : List Tb) (w : World) (h : EvW w x Ab nb zb Aa na za A n c) (hT : TbW w At nt ctt T) (hTb : Tabs w) :
 Calls Tryz.prog 35 #[.agg #[.int .i64 x.k, .int .i64 x.n, .string x.t, .slice Ab nb zb, .slice Aa na za, .int .i64 x.ck, .string x.ct, .slice A n c, .int .i64 x.K, .string x.cl.nm, .int .i64 x.cl.k, .bool x.cl.no], .slice At nt ctt] w fun e w' => e = .returned (.int .i64 (mayP x T)) ∧ Hid (Below w.heap.size w w') := by
 have HW := Lib.hid h
 have HTW := Lib.hid hT
 have HTB := Lib.hid hTb
 clear h hT hTb
 have hb0 : Below w.heap.size w (w.alloc (.cells #[.int .i64 x.k, .int .i64 x.n, .string x.t, .slice Ab nb zb, .slice Aa na za, .int .i64 x.ck, .string x.ct, .slice A n c, .int .i64 x.K, .string x.cl.nm, .int .i64 x.cl.k, .bool x.cl.no] 61)) := (Below.refl w.heap.size w).alloc (Nat.le_refl _) _
 have HB := Lib.hid hb0
 have HW1 := Lib.hid (HW.out.below hb0)
 have HT1 := Lib.hid (HTW.out.below hb0)
 have HTB1 := Lib.hid (HTB.out.below hb0)
 clear hb0 HW HTW HTB
 obtain ⟨k, m, t, B, AA, ck, ct, L, K, ⟨cn, cq, cb⟩⟩ := x
 by_cases hc : k = 1 ∨ k = 2 ∨ k = 3 ∨ k = 4 ∨ k = 5 ∨ k = 6 ∨ k = 7 ∨ k = 8 ∨ k = 9 ∨ k = 10
 ·rcases hc with rfl | rfl | rfl | rfl | rfl | rfl | rfl | rfl | rfl | rfl
  ·have e : mayP ⟨1, m, t, B, AA, ck, ct, L, K, ⟨cn, cq, cb⟩⟩ T = numF6 ⟨1, m, t, B, AA, ck, ct, L, K, ⟨cn, cq, cb⟩⟩ := by unfold mayP; simp
   rw [e]
   have HM := Lib.hid (mayNumber_any ⟨1, m, t, B, AA, ck, ct, L, K, ⟨cn, cq, cb⟩⟩ Ab nb zb Aa na za A n c (w.alloc (.cells #[.int .i64 1, .int .i64 m, .string t, .slice Ab nb zb, .slice Aa na za, .int .i64 ck, .string ct, .slice A n c, .int .i64 K, .string cn, .int .i64 cq, .bool cb] 61)) HW1.out.at_)
   obtain ⟨res, hres⟩ : ∃ q, numF6 ⟨1, m, t, B, AA, ck, ct, L, K, ⟨cn, cq, cb⟩⟩ = q := ⟨_, rfl⟩
   rw [hres] at HM ⊢
   clear e hres HW1 HT1 HTB1
   go_enter Tryz.func35, Tryz.ntmps35
   go_wp2_with fail
   refine HM.out.mono ?_
   rintro e w1 ⟨rfl, hb1⟩
   have HB1 := Lib.hid (HB.out.trans (hb1.out.mono HB.out.size))
   go_wp2_with fail
   go_ret
   exact ⟨rfl, HB1⟩
  ·have e : mayP ⟨2, m, t, B, AA, ck, ct, L, K, ⟨cn, cq, cb⟩⟩ T = numF6 ⟨2, m, t, B, AA, ck, ct, L, K, ⟨cn, cq, cb⟩⟩ := by unfold mayP; simp
   rw [e]
   have HM := Lib.hid (mayNumber_any ⟨2, m, t, B, AA, ck, ct, L, K, ⟨cn, cq, cb⟩⟩ Ab nb zb Aa na za A n c (w.alloc (.cells #[.int .i64 2, .int .i64 m, .string t, .slice Ab nb zb, .slice Aa na za, .int .i64 ck, .string ct, .slice A n c, .int .i64 K, .string cn, .int .i64 cq, .bool cb] 61)) HW1.out.at_)
   obtain ⟨res, hres⟩ : ∃ q, numF6 ⟨2, m, t, B, AA, ck, ct, L, K, ⟨cn, cq, cb⟩⟩ = q := ⟨_, rfl⟩
   rw [hres] at HM ⊢
   clear e hres HW1 HT1 HTB1
   go_enter Tryz.func35, Tryz.ntmps35
   go_wp2_with fail
   refine HM.out.mono ?_
   rintro e w1 ⟨rfl, hb1⟩
   have HB1 := Lib.hid (HB.out.trans (hb1.out.mono HB.out.size))
   go_wp2_with fail
   go_ret
   exact ⟨rfl, HB1⟩
  ·have e : mayP ⟨3, m, t, B, AA, ck, ct, L, K, ⟨cn, cq, cb⟩⟩ T = rowG6 ⟨3, m, t, B, AA, ck, ct, L, K, ⟨cn, cq, cb⟩⟩ T := by unfold mayP; simp
   rw [e]
   have HM := Lib.hid (mayRow3_any ⟨3, m, t, B, AA, ck, ct, L, K, ⟨cn, cq, cb⟩⟩ Ab nb zb Aa na za A n c At nt ctt T (w.alloc (.cells #[.int .i64 3, .int .i64 m, .string t, .slice Ab nb zb, .slice Aa na za, .int .i64 ck, .string ct, .slice A n c, .int .i64 K, .string cn, .int .i64 cq, .bool cb] 61)) HW1.out.at_ rfl HW1.out.a HT1.out.len HT1.out.few HT1.out.row HT1.out.ok HT1.out.sort HT1.out.good HTB1.out HW1.out.na63)
   obtain ⟨res, hres⟩ : ∃ q, rowG6 ⟨3, m, t, B, AA, ck, ct, L, K, ⟨cn, cq, cb⟩⟩ T = q := ⟨_, rfl⟩
   rw [hres] at HM ⊢
   clear e hres HW1 HT1 HTB1
   go_enter Tryz.func35, Tryz.ntmps35
   go_wp2_with fail
   refine HM.out.mono ?_
   rintro e w1 ⟨rfl, hb1⟩
   have HB1 := Lib.hid (HB.out.trans (hb1.out.mono HB.out.size))
   go_wp2_with fail
   go_ret
   exact ⟨rfl, HB1⟩
  ·have e : mayP ⟨4, m, t, B, AA, ck, ct, L, K, ⟨cn, cq, cb⟩⟩ T = rowG6 ⟨4, m, t, B, AA, ck, ct, L, K, ⟨cn, cq, cb⟩⟩ T := by unfold mayP; simp
   rw [e]
   have HM := Lib.hid (mayRow4_any ⟨4, m, t, B, AA, ck, ct, L, K, ⟨cn, cq, cb⟩⟩ Ab nb zb Aa na za A n c At nt ctt T (w.alloc (.cells #[.int .i64 4, .int .i64 m, .string t, .slice Ab nb zb, .slice Aa na za, .int .i64 ck, .string ct, .slice A n c, .int .i64 K, .string cn, .int .i64 cq, .bool cb] 61)) HW1.out.at_ rfl HW1.out.a HT1.out.len HT1.out.few HT1.out.row HT1.out.ok HT1.out.sort HT1.out.good HTB1.out HW1.out.na63)
   obtain ⟨res, hres⟩ : ∃ q, rowG6 ⟨4, m, t, B, AA, ck, ct, L, K, ⟨cn, cq, cb⟩⟩ T = q := ⟨_, rfl⟩
   rw [hres] at HM ⊢
   clear e hres HW1 HT1 HTB1
   go_enter Tryz.func35, Tryz.ntmps35
   go_wp2_with fail
   refine HM.out.mono ?_
   rintro e w1 ⟨rfl, hb1⟩
   have HB1 := Lib.hid (HB.out.trans (hb1.out.mono HB.out.size))
   go_wp2_with fail
   go_ret
   exact ⟨rfl, HB1⟩
  ·have e : mayP ⟨5, m, t, B, AA, ck, ct, L, K, ⟨cn, cq, cb⟩⟩ T = rowG6 ⟨5, m, t, B, AA, ck, ct, L, K, ⟨cn, cq, cb⟩⟩ T := by unfold mayP; simp
   rw [e]
   have HM := Lib.hid (mayRow5_any ⟨5, m, t, B, AA, ck, ct, L, K, ⟨cn, cq, cb⟩⟩ Ab nb zb Aa na za A n c At nt ctt T (w.alloc (.cells #[.int .i64 5, .int .i64 m, .string t, .slice Ab nb zb, .slice Aa na za, .int .i64 ck, .string ct, .slice A n c, .int .i64 K, .string cn, .int .i64 cq, .bool cb] 61)) HW1.out.at_ rfl HW1.out.b HT1.out.len HT1.out.few HT1.out.row HT1.out.ok HT1.out.sort HT1.out.good HTB1.out HW1.out.nb63)
   obtain ⟨res, hres⟩ : ∃ q, rowG6 ⟨5, m, t, B, AA, ck, ct, L, K, ⟨cn, cq, cb⟩⟩ T = q := ⟨_, rfl⟩
   rw [hres] at HM ⊢
   clear e hres HW1 HT1 HTB1
   go_enter Tryz.func35, Tryz.ntmps35
   go_wp2_with fail
   refine HM.out.mono ?_
   rintro e w1 ⟨rfl, hb1⟩
   have HB1 := Lib.hid (HB.out.trans (hb1.out.mono HB.out.size))
   go_wp2_with fail
   go_ret
   exact ⟨rfl, HB1⟩
  ·have e : mayP ⟨6, m, t, B, AA, ck, ct, L, K, ⟨cn, cq, cb⟩⟩ T = altP ⟨6, m, t, B, AA, ck, ct, L, K, ⟨cn, cq, cb⟩⟩ := by unfold mayP; simp
   rw [e]
   have HM := Lib.hid (mayAlter_any ⟨6, m, t, B, AA, ck, ct, L, K, ⟨cn, cq, cb⟩⟩ Ab nb zb Aa na za A n c (w.alloc (.cells #[.int .i64 6, .int .i64 m, .string t, .slice Ab nb zb, .slice Aa na za, .int .i64 ck, .string ct, .slice A n c, .int .i64 K, .string cn, .int .i64 cq, .bool cb] 61)) HW1.out.at_ HW1.out.l HW1.out.ct HW1.out.cl)
   obtain ⟨res, hres⟩ : ∃ q, altP ⟨6, m, t, B, AA, ck, ct, L, K, ⟨cn, cq, cb⟩⟩ = q := ⟨_, rfl⟩
   rw [hres] at HM ⊢
   clear e hres HW1 HT1 HTB1
   go_enter Tryz.func35, Tryz.ntmps35
   go_wp2_with fail
   refine HM.out.mono ?_
   rintro e w1 ⟨rfl, hb1⟩
   have HB1 := Lib.hid (HB.out.trans (hb1.out.mono HB.out.size))
   go_wp2_with fail
   go_ret
   exact ⟨rfl, HB1⟩
  ·have e : mayP ⟨7, m, t, B, AA, ck, ct, L, K, ⟨cn, cq, cb⟩⟩ T = numF6 ⟨7, m, t, B, AA, ck, ct, L, K, ⟨cn, cq, cb⟩⟩ := by unfold mayP; simp
   rw [e]
   have HM := Lib.hid (mayNumber_any ⟨7, m, t, B, AA, ck, ct, L, K, ⟨cn, cq, cb⟩⟩ Ab nb zb Aa na za A n c (w.alloc (.cells #[.int .i64 7, .int .i64 m, .string t, .slice Ab nb zb, .slice Aa na za, .int .i64 ck, .string ct, .slice A n c, .int .i64 K, .string cn, .int .i64 cq, .bool cb] 61)) HW1.out.at_)
   obtain ⟨res, hres⟩ : ∃ q, numF6 ⟨7, m, t, B, AA, ck, ct, L, K, ⟨cn, cq, cb⟩⟩ = q := ⟨_, rfl⟩
   rw [hres] at HM ⊢
   clear e hres HW1 HT1 HTB1
   go_enter Tryz.func35, Tryz.ntmps35
   go_wp2_with fail
   refine HM.out.mono ?_
   rintro e w1 ⟨rfl, hb1⟩
   have HB1 := Lib.hid (HB.out.trans (hb1.out.mono HB.out.size))
   go_wp2_with fail
   go_ret
   exact ⟨rfl, HB1⟩
  ·have e : mayP ⟨8, m, t, B, AA, ck, ct, L, K, ⟨cn, cq, cb⟩⟩ T = numF6 ⟨8, m, t, B, AA, ck, ct, L, K, ⟨cn, cq, cb⟩⟩ := by unfold mayP; simp
   rw [e]
   have HM := Lib.hid (mayNumber_any ⟨8, m, t, B, AA, ck, ct, L, K, ⟨cn, cq, cb⟩⟩ Ab nb zb Aa na za A n c (w.alloc (.cells #[.int .i64 8, .int .i64 m, .string t, .slice Ab nb zb, .slice Aa na za, .int .i64 ck, .string ct, .slice A n c, .int .i64 K, .string cn, .int .i64 cq, .bool cb] 61)) HW1.out.at_)
   obtain ⟨res, hres⟩ : ∃ q, numF6 ⟨8, m, t, B, AA, ck, ct, L, K, ⟨cn, cq, cb⟩⟩ = q := ⟨_, rfl⟩
   rw [hres] at HM ⊢
   clear e hres HW1 HT1 HTB1
   go_enter Tryz.func35, Tryz.ntmps35
   go_wp2_with fail
   refine HM.out.mono ?_
   rintro e w1 ⟨rfl, hb1⟩
   have HB1 := Lib.hid (HB.out.trans (hb1.out.mono HB.out.size))
   go_wp2_with fail
   go_ret
   exact ⟨rfl, HB1⟩
  ·have e : mayP ⟨9, m, t, B, AA, ck, ct, L, K, ⟨cn, cq, cb⟩⟩ T = numF6 ⟨9, m, t, B, AA, ck, ct, L, K, ⟨cn, cq, cb⟩⟩ := by unfold mayP; simp
   rw [e]
   have HM := Lib.hid (mayNumber_any ⟨9, m, t, B, AA, ck, ct, L, K, ⟨cn, cq, cb⟩⟩ Ab nb zb Aa na za A n c (w.alloc (.cells #[.int .i64 9, .int .i64 m, .string t, .slice Ab nb zb, .slice Aa na za, .int .i64 ck, .string ct, .slice A n c, .int .i64 K, .string cn, .int .i64 cq, .bool cb] 61)) HW1.out.at_)
   obtain ⟨res, hres⟩ : ∃ q, numF6 ⟨9, m, t, B, AA, ck, ct, L, K, ⟨cn, cq, cb⟩⟩ = q := ⟨_, rfl⟩
   rw [hres] at HM ⊢
   clear e hres HW1 HT1 HTB1
   go_enter Tryz.func35, Tryz.ntmps35
   go_wp2_with fail
   refine HM.out.mono ?_
   rintro e w1 ⟨rfl, hb1⟩
   have HB1 := Lib.hid (HB.out.trans (hb1.out.mono HB.out.size))
   go_wp2_with fail
   go_ret
   exact ⟨rfl, HB1⟩
  ·have e : mayP ⟨10, m, t, B, AA, ck, ct, L, K, ⟨cn, cq, cb⟩⟩ T = numF6 ⟨10, m, t, B, AA, ck, ct, L, K, ⟨cn, cq, cb⟩⟩ := by unfold mayP; simp
   rw [e]
   have HM := Lib.hid (mayNumber_any ⟨10, m, t, B, AA, ck, ct, L, K, ⟨cn, cq, cb⟩⟩ Ab nb zb Aa na za A n c (w.alloc (.cells #[.int .i64 10, .int .i64 m, .string t, .slice Ab nb zb, .slice Aa na za, .int .i64 ck, .string ct, .slice A n c, .int .i64 K, .string cn, .int .i64 cq, .bool cb] 61)) HW1.out.at_)
   obtain ⟨res, hres⟩ : ∃ q, numF6 ⟨10, m, t, B, AA, ck, ct, L, K, ⟨cn, cq, cb⟩⟩ = q := ⟨_, rfl⟩
   rw [hres] at HM ⊢
   clear e hres HW1 HT1 HTB1
   go_enter Tryz.func35, Tryz.ntmps35
   go_wp2_with fail
   refine HM.out.mono ?_
   rintro e w1 ⟨rfl, hb1⟩
   have HB1 := Lib.hid (HB.out.trans (hb1.out.mono HB.out.size))
   go_wp2_with fail
   go_ret
   exact ⟨rfl, HB1⟩
 ·have e : mayP ⟨k, m, t, B, AA, ck, ct, L, K, ⟨cn, cq, cb⟩⟩ T = 5 := by
   unfold mayP
   rw [if_neg (by dsimp only; omega), if_neg (by dsimp only; omega), if_neg (by dsimp only; omega)]
  rw [e]
  have q1 : (k == 1) = false := by simp; omega
  have q2 : (k == 2) = false := by simp; omega
  have q3 : (k == 3) = false := by simp; omega
  have q4 : (k == 4) = false := by simp; omega
  have q5 : (k == 5) = false := by simp; omega
  have q6 : (k == 6) = false := by simp; omega
  have q7 : (k == 7) = false := by simp; omega
  have q8 : (k == 8) = false := by simp; omega
  have q9 : (k == 9) = false := by simp; omega
  have q10 : (k == 10) = false := by simp; omega
  clear e hc HW1 HT1
  go_enter Tryz.func35, Tryz.ntmps35
  go_wp2_with fail
  go_ret
  exact ⟨rfl, HB⟩
def plainF (x : Ev) : Bool := chG x.ck 0 x.ct ⟨#[]⟩ x.cl ⟨⟨#[]⟩, 0, false⟩ x.L [] x.K 0
def fitsR (x : Ev) (T : List Tb) : Bool := if x.k = 5 then (keyOk (tfL T x.t) x.B (tfK T x.t).toNat && x.B.length == (tfK T x.t).toNat) else fitsF (tfL T x.t) x.A
def mayR (x : Ev) (T : List Tb) : Int :=
 if x.k = 3 ∨ x.k = 4 ∨ x.k = 5 then
  (if plF T x.t = false then 7 else if fitsR x T = false then 9 else if (plainF x && (if x.k = 5 then x.A.length else x.B.length) == 0 && x.n == 0) = true then 0 else 1)
 else if x.k = 6 then
  (if altF x.ck x.ct x.L x.K x.cl = 0 then (if (x.n == 0 && x.t.toList.isEmpty && x.B.length == 0 && x.A.length == 0) = true then 0 else 1) else altF x.ck x.ct x.L x.K x.cl)
 else if x.k = 1 ∨ x.k = 2 ∨ x.k = 7 ∨ x.k = 8 ∨ x.k = 9 ∨ x.k = 10 then
  (if (decide (0 ≤ x.n) && x.t.toList.isEmpty && x.B.length == 0 && x.A.length == 0 && plainF x) = true then 0 else 1)
 else 5
set_option maxHeartbeats 16000000 in
theorem rmay6_any (x : Ev) (Ab : Option Addr) (nb zb : Nat) (Aa : Option Addr) (na za : Nat) (A : Option Addr) (n c : Nat) (At : Option Addr) (nt ctt : Nat) (T : List Tb) (w : World) (h : EvW w x Ab nb zb Aa na za A n c) (hT : TbW w At nt ctt T) :
 Calls Tryz.prog 37 #[.agg #[.int .i64 x.k, .int .i64 x.n, .string x.t, .slice Ab nb zb, .slice Aa na za, .int .i64 x.ck, .string x.ct, .slice A n c, .int .i64 x.K, .string x.cl.nm, .int .i64 x.cl.k, .bool x.cl.no], .slice At nt ctt] w fun e w' => e = .returned (.int .i64 (mayR x T)) ∧ Hid (Below w.heap.size w w') := by
 have hb0 : Below w.heap.size w (w.alloc (.cells #[.int .i64 x.k, .int .i64 x.n, .string x.t, .slice Ab nb zb, .slice Aa na za, .int .i64 x.ck, .string x.ct, .slice A n c, .int .i64 x.K, .string x.cl.nm, .int .i64 x.cl.k, .bool x.cl.no] 61)) := (Below.refl w.heap.size w).alloc (Nat.le_refl _) _
 have HB := Lib.hid hb0
 have HW1 := Lib.hid (h.below hb0)
 have HT1 := Lib.hid (hT.below hb0)
 have HE0 := Lib.hid (Has.new w 61 #[.int .i64 x.k, .int .i64 x.n, .string x.t, .slice Ab nb zb, .slice Aa na za, .int .i64 x.ck, .string x.ct, .slice A n c, .int .i64 x.K, .string x.cl.nm, .int .i64 x.cl.k, .bool x.cl.no])
 have HPL := Lib.hid (rchange_any x.ck x.ct A x.L n c x.K x.cl.nm x.cl.k x.cl.no 0 ⟨#[]⟩ none [] 0 0 0 ⟨#[]⟩ 0 false (w.alloc (.cells #[.int .i64 x.k, .int .i64 x.n, .string x.t, .slice Ab nb zb, .slice Aa na za, .int .i64 x.ck, .string x.ct, .slice A n c, .int .i64 x.K, .string x.cl.nm, .int .i64 x.cl.k, .bool x.cl.no] 61)) h.l.1 rfl h.l.2.1 (by omega) (h.l.2.2.1.below hb0) (fun h => absurd rfl h))
 obtain ⟨pl, hpl⟩ : ∃ q, plainF x = q := ⟨_, rfl⟩
 rw [show chG x.ck 0 x.ct ⟨#[]⟩ ⟨x.cl.nm, x.cl.k, x.cl.no⟩ ⟨⟨#[]⟩, 0, false⟩ x.L [] x.K 0 = pl from hpl] at HPL
 have HPV := Lib.hid hpl
 have HNB := Lib.hid h.b.1
 have HNA := Lib.hid h.a.1
 clear hb0 h hT hpl
 obtain ⟨k, m, t, B, AA, ck, ct, L, K, ⟨cn, cq, cb⟩⟩ := x
 by_cases hc : k = 1 ∨ k = 2 ∨ k = 3 ∨ k = 4 ∨ k = 5 ∨ k = 6 ∨ k = 7 ∨ k = 8 ∨ k = 9 ∨ k = 10
 ·rcases hc with rfl | rfl | rfl | rfl | rfl | rfl | rfl | rfl | rfl | rfl
  ·have e : mayR ⟨1, m, t, B, AA, ck, ct, L, K, ⟨cn, cq, cb⟩⟩ T = if (decide (0 ≤ m) && t.toList.isEmpty && B.length == 0 && AA.length == 0 && pl) = true then 0 else 1 := by unfold mayR; rw [HPV.out]; simp
   obtain ⟨res, hres⟩ : ∃ q, mayR ⟨1, m, t, B, AA, ck, ct, L, K, ⟨cn, cq, cb⟩⟩ T = q := ⟨_, rfl⟩
   rw [hres, HNB.out, HNA.out] at e
   rw [hres]
   have HS := Lib.hid e
   clear e hres HPV HNB HNA
   go_enter Tryz.func37, Tryz.ntmps37
   go_wp2_with fail
   refine HPL.out.mono ?_
   rintro e w1 ⟨rfl, hb1⟩
   have HB1 := Lib.hid (HB.out.trans (hb1.out.mono HB.out.size))
   have HE1 := Lib.hid (HE0.out.below hb1.out HE0.out.lt)
   have u0 := HE1.out.cell 0
   have u1 := HE1.out.cell 1
   have u2 := HE1.out.cell 2
   have u3 := HE1.out.cell 3
   have u4 := HE1.out.cell 4
   simp only [zG, zH, zI] at u0 u1 u2 u3 u4
   clear hb1 HPL HE0 HE1 HW1 HT1 HB
   by_cases hm : m < 0
   ·have hd : decide (0 ≤ m) = false := by simp; omega
    rw [hd] at HS
    go_wp2_with fail
    go_ret
    exact ⟨by rw [HS.out]; rfl, HB1⟩
   ·have hd : decide (0 ≤ m) = true := by simp; omega
    rw [hd] at HS
    cases ht : t.toList.isEmpty
    ·rw [ht] at HS
     go_wp2_with fail
     go_ret
     exact ⟨by rw [HS.out]; rfl, HB1⟩
    ·rw [ht] at HS
     by_cases hnb : nb = 0
     ·subst hnb
      by_cases hna : na = 0
      ·subst hna
       cases pl
       ·skip
        go_wp2_with fail
        go_ret
        exact ⟨by rw [HS.out]; rfl, HB1⟩
       ·skip
        go_wp2_with fail
        go_ret
        exact ⟨by rw [HS.out]; rfl, HB1⟩
      ·have h1 : (na == 0) = false := by simp; omega
       have h2 : (0 : Int) < (na : Int) := by omega
       rw [h1] at HS
       go_wp2_with fail
       go_ret
       exact ⟨by rw [HS.out]; rfl, HB1⟩
     ·have h1 : (nb == 0) = false := by simp; omega
      have h2 : (0 : Int) < (nb : Int) := by omega
      rw [h1] at HS
      go_wp2_with fail
      go_ret
      exact ⟨by rw [HS.out]; rfl, HB1⟩
  ·have e : mayR ⟨2, m, t, B, AA, ck, ct, L, K, ⟨cn, cq, cb⟩⟩ T = if (decide (0 ≤ m) && t.toList.isEmpty && B.length == 0 && AA.length == 0 && pl) = true then 0 else 1 := by unfold mayR; rw [HPV.out]; simp
   obtain ⟨res, hres⟩ : ∃ q, mayR ⟨2, m, t, B, AA, ck, ct, L, K, ⟨cn, cq, cb⟩⟩ T = q := ⟨_, rfl⟩
   rw [hres, HNB.out, HNA.out] at e
   rw [hres]
   have HS := Lib.hid e
   clear e hres HPV HNB HNA
   go_enter Tryz.func37, Tryz.ntmps37
   go_wp2_with fail
   refine HPL.out.mono ?_
   rintro e w1 ⟨rfl, hb1⟩
   have HB1 := Lib.hid (HB.out.trans (hb1.out.mono HB.out.size))
   have HE1 := Lib.hid (HE0.out.below hb1.out HE0.out.lt)
   have u0 := HE1.out.cell 0
   have u1 := HE1.out.cell 1
   have u2 := HE1.out.cell 2
   have u3 := HE1.out.cell 3
   have u4 := HE1.out.cell 4
   simp only [zG, zH, zI] at u0 u1 u2 u3 u4
   clear hb1 HPL HE0 HE1 HW1 HT1 HB
   by_cases hm : m < 0
   ·have hd : decide (0 ≤ m) = false := by simp; omega
    rw [hd] at HS
    go_wp2_with fail
    go_ret
    exact ⟨by rw [HS.out]; rfl, HB1⟩
   ·have hd : decide (0 ≤ m) = true := by simp; omega
    rw [hd] at HS
    cases ht : t.toList.isEmpty
    ·rw [ht] at HS
     go_wp2_with fail
     go_ret
     exact ⟨by rw [HS.out]; rfl, HB1⟩
    ·rw [ht] at HS
     by_cases hnb : nb = 0
     ·subst hnb
      by_cases hna : na = 0
      ·subst hna
       cases pl
       ·skip
        go_wp2_with fail
        go_ret
        exact ⟨by rw [HS.out]; rfl, HB1⟩
       ·skip
        go_wp2_with fail
        go_ret
        exact ⟨by rw [HS.out]; rfl, HB1⟩
      ·have h1 : (na == 0) = false := by simp; omega
       have h2 : (0 : Int) < (na : Int) := by omega
       rw [h1] at HS
       go_wp2_with fail
       go_ret
       exact ⟨by rw [HS.out]; rfl, HB1⟩
     ·have h1 : (nb == 0) = false := by simp; omega
      have h2 : (0 : Int) < (nb : Int) := by omega
      rw [h1] at HS
      go_wp2_with fail
      go_ret
      exact ⟨by rw [HS.out]; rfl, HB1⟩
  ·obtain ⟨As, ns, cs, kk, etf, q1, q2, q3, q4, q5, q6, q7⟩ := tfV_at (s := t) HT1.out.sort HT1.out.ok HT1.out.good
   obtain ⟨M, hM⟩ : ∃ q, tfL T t = q := ⟨_, rfl⟩
   obtain ⟨po, hpo⟩ : ∃ q, plF T t = q := ⟨_, rfl⟩
   have e : mayR ⟨3, m, t, B, AA, ck, ct, L, K, ⟨cn, cq, cb⟩⟩ T = if po = false then 7 else if fitsF M AA = false then 9 else if (pl && B.length == 0 && m == 0) = true then 0 else 1 := by unfold mayR fitsR; rw [HPV.out]; simp [hM, hpo, q5]
   obtain ⟨res, hres⟩ : ∃ q, mayR ⟨3, m, t, B, AA, ck, ct, L, K, ⟨cn, cq, cb⟩⟩ T = q := ⟨_, rfl⟩
   rw [hres, HNB.out] at e
   rw [hres]
   have HS := Lib.hid e
   clear e hres
   rw [hM] at q1 q4
   rw [hpo] at etf
   have HQ4 := Lib.hid q4
   have HQ1 := Lib.hid q1
   clear HPV hM hpo q5 q4 q1
   go_enter Tryz.func37, Tryz.ntmps37
   go_wp2_with fail
   refine HPL.out.mono ?_
   rintro e w1 ⟨rfl, hb1⟩
   have HB1 := Lib.hid (HB.out.trans (hb1.out.mono HB.out.size))
   have HE1 := Lib.hid (HE0.out.below hb1.out HE0.out.lt)
   have HFD := Lib.hid (find6_any At T nt ctt t w1 HT1.out.len HT1.out.few (HT1.out.row.below hb1.out))
   rw [etf] at HFD
   clear etf
   have u0 := HE1.out.cell 0
   have u1 := HE1.out.cell 1
   have u2 := HE1.out.cell 2
   have u3 := HE1.out.cell 3
   have u4 := HE1.out.cell 4
   simp only [zG, zH, zI] at u0 u1 u2 u3 u4
   go_wp2_with fail
   refine HFD.out.mono ?_
   rintro e w2 ⟨rfl, hb2⟩
   obtain ⟨W3, hW3⟩ : ∃ W, W = w2.alloc (.cells #[.slice As ns cs, .int .i64 kk] 39) := ⟨_, rfl⟩
   have hb3 : Below w2.heap.size w2 W3 := by rw [hW3]; exact (Below.refl _ _).alloc (Nat.le_refl _) _
   have HS3 : Hid (Has W3 w2.heap.size 39 #[.slice As ns cs, .int .i64 kk]) := by rw [hW3]; exact Has.new _ _ _
   have HB3 := Lib.hid ((HB1.out.trans (hb2.out.mono HB1.out.size)).trans (hb3.mono (HB1.out.trans (hb2.out.mono HB1.out.size)).size))
   have HE3 := Lib.hid ((HE1.out.below hb2.out HE1.out.lt).below hb3 (HE1.out.below hb2.out HE1.out.lt).lt)
   have HW3 := Lib.hid ((HW1.out.below (hb1.out.mono (Nat.le_refl _))).below hb2.out |>.below hb3)
   have HQ3 := Lib.hid (((HQ4.out.below hb1.out).below hb2.out).below hb3)
   have hW3' : w2.alloc (.cells #[.slice As ns cs, .int .i64 kk] 39) = W3 := hW3.symm
   obtain ⟨g, hg⟩ : ∃ g, w2.heap.size = g := ⟨_, rfl⟩
   rw [hg] at HS3
   clear hb1 hb2 hb3 hW3 HFD HPL HE0 HE1 HW1 HT1 HB HB1 HQ4 u0 u1 u2 u3 u4
   cases po
   ·go_wp2_with fail
    go_ret
    exact ⟨by rw [HS.out]; rfl, HB3⟩
   ·have s0 := HS3.out.cell 0
    have s1 := HS3.out.cell 1
    have u0 := HE3.out.cell 0
    have u1 := HE3.out.cell 1
    have u2 := HE3.out.cell 2
    have u3 := HE3.out.cell 3
    have u4 := HE3.out.cell 4
    simp only [zG, zH, zI] at u0 u1 u2 u3 u4
    simp only [zG, zH, zI] at s0 s1
    have HFT := Lib.hid (refFits_any As M ns cs (kk : Int) Aa AA na za W3 HQ1.out q2 HQ3.out HW3.out.a.1 HW3.out.a.2.2.1 HW3.out.a.2.2.2)
    obtain ⟨ft, hft⟩ : ∃ q, fitsF M AA = q := ⟨_, rfl⟩
    rw [hft] at HFT HS
    clear hft
    go_wp2_with fail
    refine HFT.out.mono ?_
    rintro e w4 ⟨rfl, hb4⟩
    have HB4 := Lib.hid (HB3.out.trans (hb4.out.mono HB3.out.size))
    have HE4 := Lib.hid (HE3.out.below hb4.out HE3.out.lt)
    have HS4 := Lib.hid (HS3.out.below hb4.out HS3.out.lt)
    have HW4 := Lib.hid (HW3.out.below hb4.out)
    have HQ4 := Lib.hid (HQ3.out.below hb4.out)
    clear hb4 HFT HB3 HE3 HS3 HW3 HQ3 hW3' s0 s1 u0 u1 u2 u3 u4
    have u0 := HE4.out.cell 0
    have u1 := HE4.out.cell 1
    have u2 := HE4.out.cell 2
    have u3 := HE4.out.cell 3
    have u4 := HE4.out.cell 4
    simp only [zG, zH, zI] at u0 u1 u2 u3 u4
    have s0 := HS4.out.cell 0
    have s1 := HS4.out.cell 1
    simp only [zG, zH, zI] at s0 s1
    cases ft
    ·go_wp2_with fail
     go_ret
     exact ⟨by rw [HS.out]; rfl, HB4⟩
    ·skip
     cases pl
     ·skip
      go_wp2_with fail
      go_ret
      exact ⟨by rw [HS.out]; rfl, HB4⟩
     ·by_cases ho : nb = 0
      ·have h1 : (nb == 0) = true := by simp; exact ho
       have h2 : ¬ (0 : Int) < (nb : Int) := by omega
       rw [h1] at HS
       cases hm : (m == 0)
       ·rw [hm] at HS
        have hm2 : (m != 0) = true := by rw [bne, hm]; rfl
        go_wp2_with fail
        go_ret
        exact ⟨by rw [HS.out]; rfl, HB4⟩
       ·rw [hm] at HS
        have hm2 : (m != 0) = false := by rw [bne, hm]; rfl
        go_wp2_with fail
        go_ret
        exact ⟨by rw [HS.out]; rfl, HB4⟩
      ·have h1 : (nb == 0) = false := by simp; exact ho
       have h2 : (0 : Int) < (nb : Int) := by omega
       rw [h1] at HS
       go_wp2_with fail
       go_ret
       exact ⟨by rw [HS.out]; rfl, HB4⟩
  ·obtain ⟨As, ns, cs, kk, etf, q1, q2, q3, q4, q5, q6, q7⟩ := tfV_at (s := t) HT1.out.sort HT1.out.ok HT1.out.good
   obtain ⟨M, hM⟩ : ∃ q, tfL T t = q := ⟨_, rfl⟩
   obtain ⟨po, hpo⟩ : ∃ q, plF T t = q := ⟨_, rfl⟩
   have e : mayR ⟨4, m, t, B, AA, ck, ct, L, K, ⟨cn, cq, cb⟩⟩ T = if po = false then 7 else if fitsF M AA = false then 9 else if (pl && B.length == 0 && m == 0) = true then 0 else 1 := by unfold mayR fitsR; rw [HPV.out]; simp [hM, hpo, q5]
   obtain ⟨res, hres⟩ : ∃ q, mayR ⟨4, m, t, B, AA, ck, ct, L, K, ⟨cn, cq, cb⟩⟩ T = q := ⟨_, rfl⟩
   rw [hres, HNB.out] at e
   rw [hres]
   have HS := Lib.hid e
   clear e hres
   rw [hM] at q1 q4
   rw [hpo] at etf
   have HQ4 := Lib.hid q4
   have HQ1 := Lib.hid q1
   clear HPV hM hpo q5 q4 q1
   go_enter Tryz.func37, Tryz.ntmps37
   go_wp2_with fail
   refine HPL.out.mono ?_
   rintro e w1 ⟨rfl, hb1⟩
   have HB1 := Lib.hid (HB.out.trans (hb1.out.mono HB.out.size))
   have HE1 := Lib.hid (HE0.out.below hb1.out HE0.out.lt)
   have HFD := Lib.hid (find6_any At T nt ctt t w1 HT1.out.len HT1.out.few (HT1.out.row.below hb1.out))
   rw [etf] at HFD
   clear etf
   have u0 := HE1.out.cell 0
   have u1 := HE1.out.cell 1
   have u2 := HE1.out.cell 2
   have u3 := HE1.out.cell 3
   have u4 := HE1.out.cell 4
   simp only [zG, zH, zI] at u0 u1 u2 u3 u4
   go_wp2_with fail
   refine HFD.out.mono ?_
   rintro e w2 ⟨rfl, hb2⟩
   obtain ⟨W3, hW3⟩ : ∃ W, W = w2.alloc (.cells #[.slice As ns cs, .int .i64 kk] 39) := ⟨_, rfl⟩
   have hb3 : Below w2.heap.size w2 W3 := by rw [hW3]; exact (Below.refl _ _).alloc (Nat.le_refl _) _
   have HS3 : Hid (Has W3 w2.heap.size 39 #[.slice As ns cs, .int .i64 kk]) := by rw [hW3]; exact Has.new _ _ _
   have HB3 := Lib.hid ((HB1.out.trans (hb2.out.mono HB1.out.size)).trans (hb3.mono (HB1.out.trans (hb2.out.mono HB1.out.size)).size))
   have HE3 := Lib.hid ((HE1.out.below hb2.out HE1.out.lt).below hb3 (HE1.out.below hb2.out HE1.out.lt).lt)
   have HW3 := Lib.hid ((HW1.out.below (hb1.out.mono (Nat.le_refl _))).below hb2.out |>.below hb3)
   have HQ3 := Lib.hid (((HQ4.out.below hb1.out).below hb2.out).below hb3)
   have hW3' : w2.alloc (.cells #[.slice As ns cs, .int .i64 kk] 39) = W3 := hW3.symm
   obtain ⟨g, hg⟩ : ∃ g, w2.heap.size = g := ⟨_, rfl⟩
   rw [hg] at HS3
   clear hb1 hb2 hb3 hW3 HFD HPL HE0 HE1 HW1 HT1 HB HB1 HQ4 u0 u1 u2 u3 u4
   cases po
   ·go_wp2_with fail
    go_ret
    exact ⟨by rw [HS.out]; rfl, HB3⟩
   ·have s0 := HS3.out.cell 0
    have s1 := HS3.out.cell 1
    have u0 := HE3.out.cell 0
    have u1 := HE3.out.cell 1
    have u2 := HE3.out.cell 2
    have u3 := HE3.out.cell 3
    have u4 := HE3.out.cell 4
    simp only [zG, zH, zI] at u0 u1 u2 u3 u4
    simp only [zG, zH, zI] at s0 s1
    have HFT := Lib.hid (refFits_any As M ns cs (kk : Int) Aa AA na za W3 HQ1.out q2 HQ3.out HW3.out.a.1 HW3.out.a.2.2.1 HW3.out.a.2.2.2)
    obtain ⟨ft, hft⟩ : ∃ q, fitsF M AA = q := ⟨_, rfl⟩
    rw [hft] at HFT HS
    clear hft
    go_wp2_with fail
    refine HFT.out.mono ?_
    rintro e w4 ⟨rfl, hb4⟩
    have HB4 := Lib.hid (HB3.out.trans (hb4.out.mono HB3.out.size))
    have HE4 := Lib.hid (HE3.out.below hb4.out HE3.out.lt)
    have HS4 := Lib.hid (HS3.out.below hb4.out HS3.out.lt)
    have HW4 := Lib.hid (HW3.out.below hb4.out)
    have HQ4 := Lib.hid (HQ3.out.below hb4.out)
    clear hb4 HFT HB3 HE3 HS3 HW3 HQ3 hW3' s0 s1 u0 u1 u2 u3 u4
    have u0 := HE4.out.cell 0
    have u1 := HE4.out.cell 1
    have u2 := HE4.out.cell 2
    have u3 := HE4.out.cell 3
    have u4 := HE4.out.cell 4
    simp only [zG, zH, zI] at u0 u1 u2 u3 u4
    have s0 := HS4.out.cell 0
    have s1 := HS4.out.cell 1
    simp only [zG, zH, zI] at s0 s1
    cases ft
    ·go_wp2_with fail
     go_ret
     exact ⟨by rw [HS.out]; rfl, HB4⟩
    ·skip
     cases pl
     ·skip
      go_wp2_with fail
      go_ret
      exact ⟨by rw [HS.out]; rfl, HB4⟩
     ·by_cases ho : nb = 0
      ·have h1 : (nb == 0) = true := by simp; exact ho
       have h2 : ¬ (0 : Int) < (nb : Int) := by omega
       rw [h1] at HS
       cases hm : (m == 0)
       ·rw [hm] at HS
        have hm2 : (m != 0) = true := by rw [bne, hm]; rfl
        go_wp2_with fail
        go_ret
        exact ⟨by rw [HS.out]; rfl, HB4⟩
       ·rw [hm] at HS
        have hm2 : (m != 0) = false := by rw [bne, hm]; rfl
        go_wp2_with fail
        go_ret
        exact ⟨by rw [HS.out]; rfl, HB4⟩
      ·have h1 : (nb == 0) = false := by simp; exact ho
       have h2 : (0 : Int) < (nb : Int) := by omega
       rw [h1] at HS
       go_wp2_with fail
       go_ret
       exact ⟨by rw [HS.out]; rfl, HB4⟩
  ·obtain ⟨As, ns, cs, kk, etf, q1, q2, q3, q4, q5, q6, q7⟩ := tfV_at (s := t) HT1.out.sort HT1.out.ok HT1.out.good
   obtain ⟨M, hM⟩ : ∃ q, tfL T t = q := ⟨_, rfl⟩
   obtain ⟨po, hpo⟩ : ∃ q, plF T t = q := ⟨_, rfl⟩
   have e : mayR ⟨5, m, t, B, AA, ck, ct, L, K, ⟨cn, cq, cb⟩⟩ T = if po = false then 7 else if (keyOk M B kk && B.length == kk) = false then 9 else if (pl && AA.length == 0 && m == 0) = true then 0 else 1 := by unfold mayR fitsR; rw [HPV.out]; simp [hM, hpo, q5]
   obtain ⟨res, hres⟩ : ∃ q, mayR ⟨5, m, t, B, AA, ck, ct, L, K, ⟨cn, cq, cb⟩⟩ T = q := ⟨_, rfl⟩
   rw [hres, HNA.out] at e
   rw [hres]
   have HS := Lib.hid e
   clear e hres
   rw [hM] at q1 q4
   rw [hpo] at etf
   have HQ4 := Lib.hid q4
   have HQ1 := Lib.hid q1
   clear HPV hM hpo q5 q4 q1
   go_enter Tryz.func37, Tryz.ntmps37
   go_wp2_with fail
   refine HPL.out.mono ?_
   rintro e w1 ⟨rfl, hb1⟩
   have HB1 := Lib.hid (HB.out.trans (hb1.out.mono HB.out.size))
   have HE1 := Lib.hid (HE0.out.below hb1.out HE0.out.lt)
   have HFD := Lib.hid (find6_any At T nt ctt t w1 HT1.out.len HT1.out.few (HT1.out.row.below hb1.out))
   rw [etf] at HFD
   clear etf
   have u0 := HE1.out.cell 0
   have u1 := HE1.out.cell 1
   have u2 := HE1.out.cell 2
   have u3 := HE1.out.cell 3
   have u4 := HE1.out.cell 4
   simp only [zG, zH, zI] at u0 u1 u2 u3 u4
   go_wp2_with fail
   refine HFD.out.mono ?_
   rintro e w2 ⟨rfl, hb2⟩
   obtain ⟨W3, hW3⟩ : ∃ W, W = w2.alloc (.cells #[.slice As ns cs, .int .i64 kk] 39) := ⟨_, rfl⟩
   have hb3 : Below w2.heap.size w2 W3 := by rw [hW3]; exact (Below.refl _ _).alloc (Nat.le_refl _) _
   have HS3 : Hid (Has W3 w2.heap.size 39 #[.slice As ns cs, .int .i64 kk]) := by rw [hW3]; exact Has.new _ _ _
   have HB3 := Lib.hid ((HB1.out.trans (hb2.out.mono HB1.out.size)).trans (hb3.mono (HB1.out.trans (hb2.out.mono HB1.out.size)).size))
   have HE3 := Lib.hid ((HE1.out.below hb2.out HE1.out.lt).below hb3 (HE1.out.below hb2.out HE1.out.lt).lt)
   have HW3 := Lib.hid ((HW1.out.below (hb1.out.mono (Nat.le_refl _))).below hb2.out |>.below hb3)
   have HQ3 := Lib.hid (((HQ4.out.below hb1.out).below hb2.out).below hb3)
   have hW3' : w2.alloc (.cells #[.slice As ns cs, .int .i64 kk] 39) = W3 := hW3.symm
   obtain ⟨g, hg⟩ : ∃ g, w2.heap.size = g := ⟨_, rfl⟩
   rw [hg] at HS3
   clear hb1 hb2 hb3 hW3 HFD HPL HE0 HE1 HW1 HT1 HB HB1 HQ4 u0 u1 u2 u3 u4
   cases po
   ·go_wp2_with fail
    go_ret
    exact ⟨by rw [HS.out]; rfl, HB3⟩
   ·have s0 := HS3.out.cell 0
    have s1 := HS3.out.cell 1
    have u0 := HE3.out.cell 0
    have u1 := HE3.out.cell 1
    have u2 := HE3.out.cell 2
    have u3 := HE3.out.cell 3
    have u4 := HE3.out.cell 4
    simp only [zG, zH, zI] at u0 u1 u2 u3 u4
    simp only [zG, zH, zI] at s0 s1
    have HFT := Lib.hid (refFits_any As M ns cs (kk : Int) Aa AA na za W3 HQ1.out q2 HQ3.out HW3.out.a.1 HW3.out.a.2.2.1 HW3.out.a.2.2.2)
    obtain ⟨ft, hft⟩ : ∃ q, fitsF M AA = q := ⟨_, rfl⟩
    rw [hft] at HFT
    clear hft
    go_wp2_with fail
    refine HFT.out.mono ?_
    rintro e w4 ⟨rfl, hb4⟩
    have HB4 := Lib.hid (HB3.out.trans (hb4.out.mono HB3.out.size))
    have HE4 := Lib.hid (HE3.out.below hb4.out HE3.out.lt)
    have HS4 := Lib.hid (HS3.out.below hb4.out HS3.out.lt)
    have HW4 := Lib.hid (HW3.out.below hb4.out)
    have HQ4 := Lib.hid (HQ3.out.below hb4.out)
    clear hb4 HFT HB3 HE3 HS3 HW3 HQ3 hW3' s0 s1 u0 u1 u2 u3 u4
    have u0 := HE4.out.cell 0
    have u1 := HE4.out.cell 1
    have u2 := HE4.out.cell 2
    have u3 := HE4.out.cell 3
    have u4 := HE4.out.cell 4
    simp only [zG, zH, zI] at u0 u1 u2 u3 u4
    have s0 := HS4.out.cell 0
    have s1 := HS4.out.cell 1
    simp only [zG, zH, zI] at s0 s1
    have HKY := Lib.hid (rkey_any As M ns cs kk Ab B nb zb w4 HQ1.out q2 q6 q7 HW4.out.b.2.1 HQ4.out HW4.out.b.1 HW4.out.b.2.2.1 HW4.out.b.2.2.2)
    obtain ⟨ko, hko⟩ : ∃ q, keyOk M B kk = q := ⟨_, rfl⟩
    obtain ⟨ks, ke, hkt, hke⟩ : ∃ (ks : ByteArray) (ke : Int), keyT M B kk = .tuple #[.string ks, .int .i64 ke] ∧ (ke == 0) = ko := by unfold keyT; rw [hko]; cases ko <;> exact ⟨_, _, rfl, rfl⟩
    rw [hkt] at HKY
    rw [hko, HNB.out] at HS
    clear hkt hko
    go_wp2_with fail
    refine HKY.out.mono ?_
    rintro e w5 ⟨rfl, hb5⟩
    have HB5 := Lib.hid (HB4.out.trans (hb5.out.mono HB4.out.size))
    have HE5 := Lib.hid (HE4.out.below hb5.out HE4.out.lt)
    have HS5 := Lib.hid (HS4.out.below hb5.out HS4.out.lt)
    clear hb5 HKY HB4 HE4 HS4 HW4 HQ4 s0 s1 u0 u1 u2 u3 u4
    have u0 := HE5.out.cell 0
    have u1 := HE5.out.cell 1
    have u2 := HE5.out.cell 2
    have u3 := HE5.out.cell 3
    have u4 := HE5.out.cell 4
    simp only [zG, zH, zI] at u0 u1 u2 u3 u4
    have s0 := HS5.out.cell 0
    have s1 := HS5.out.cell 1
    simp only [zG, zH, zI] at s0 s1
    have hne : ((nb : Int) == (kk : Int)) = (nb == kk) := natInt_beq nb kk
    cases ko
    ·go_wp2_with fail
     go_ret
     exact ⟨by rw [HS.out]; rfl, HB5⟩
    ·cases hnk : (nb == kk)
     ·rw [hnk] at hne HS
      go_wp2_with fail
      go_ret
      exact ⟨by rw [HS.out]; rfl, HB5⟩
     ·rw [hnk] at hne HS
      cases pl
      ·skip
       go_wp2_with fail
       go_ret
       exact ⟨by rw [HS.out]; rfl, HB5⟩
      ·by_cases ho : na = 0
       ·have h1 : (na == 0) = true := by simp; exact ho
        have h2 : ¬ (0 : Int) < (na : Int) := by omega
        rw [h1] at HS
        cases hm : (m == 0)
        ·rw [hm] at HS
         have hm2 : (m != 0) = true := by rw [bne, hm]; rfl
         go_wp2_with fail
         go_ret
         exact ⟨by rw [HS.out]; rfl, HB5⟩
        ·rw [hm] at HS
         have hm2 : (m != 0) = false := by rw [bne, hm]; rfl
         go_wp2_with fail
         go_ret
         exact ⟨by rw [HS.out]; rfl, HB5⟩
       ·have h1 : (na == 0) = false := by simp; exact ho
        have h2 : (0 : Int) < (na : Int) := by omega
        rw [h1] at HS
        go_wp2_with fail
        go_ret
        exact ⟨by rw [HS.out]; rfl, HB5⟩
  ·have e : mayR ⟨6, m, t, B, AA, ck, ct, L, K, ⟨cn, cq, cb⟩⟩ T = if altF ck ct L K ⟨cn, cq, cb⟩ = 0 then (if (m == 0 && t.toList.isEmpty && B.length == 0 && AA.length == 0) = true then 0 else 1) else altF ck ct L K ⟨cn, cq, cb⟩ := by unfold mayR; simp
   obtain ⟨res, hres⟩ : ∃ q, mayR ⟨6, m, t, B, AA, ck, ct, L, K, ⟨cn, cq, cb⟩⟩ T = q := ⟨_, rfl⟩
   rw [hres, HNB.out, HNA.out] at e
   rw [hres]
   have HS := Lib.hid e
   clear e hres HPV HNB HNA
   go_enter Tryz.func37, Tryz.ntmps37
   go_wp2_with fail
   refine HPL.out.mono ?_
   rintro e w1 ⟨rfl, hb1⟩
   have HB1 := Lib.hid (HB.out.trans (hb1.out.mono HB.out.size))
   have HE1 := Lib.hid (HE0.out.below hb1.out HE0.out.lt)
   have HAL := Lib.hid (raltered_any ck ct A n c L K cn cq cb w1 HW1.out.l.1 (by have := HW1.out.l.2.1; omega) (HW1.out.l.2.2.1.below hb1.out))
   obtain ⟨af, haf⟩ : ∃ q, altF ck ct L K ⟨cn, cq, cb⟩ = q := ⟨_, rfl⟩
   rw [haf] at HAL HS
   clear haf
   obtain ⟨u0, u1, u2, u3, u4, u5, u6, u7, u8, u9, u10, u11, _⟩ := all12 HE1.out
   go_wp2_with fail
   refine HAL.out.mono ?_
   rintro e w2 ⟨rfl, hb2⟩
   have HB2 := Lib.hid (HB1.out.trans (hb2.out.mono HB1.out.size))
   have HE2 := Lib.hid (HE1.out.below hb2.out HE1.out.lt)
   have v0 := HE2.out.cell 0
   have v1 := HE2.out.cell 1
   have v2 := HE2.out.cell 2
   have v3 := HE2.out.cell 3
   have v4 := HE2.out.cell 4
   simp only [zG, zH, zI] at v0 v1 v2 v3 v4
   clear hb1 hb2 HPL HAL HE0 HE1 HE2 HW1 HT1 HB HB1 u0 u1 u2 u3 u4 u5 u6 u7 u8 u9 u10 u11
   by_cases ha : af = 0
   ·subst ha
    rw [if_pos rfl] at HS
    cases hm : (m == 0)
    ·rw [hm] at HS
     have hm2 : (m != 0) = true := by rw [bne, hm]; rfl
     go_wp2_with fail
     go_ret
     exact ⟨by rw [HS.out]; rfl, HB2⟩
    ·rw [hm] at HS
     have hm2 : (m != 0) = false := by rw [bne, hm]; rfl
     cases ht : t.toList.isEmpty
     ·rw [ht] at HS
      go_wp2_with fail
      go_ret
      exact ⟨by rw [HS.out]; rfl, HB2⟩
     ·rw [ht] at HS
      by_cases hnb : nb = 0
      ·subst hnb
       by_cases hna : na = 0
       ·subst hna
        go_wp2_with fail
        go_ret
        exact ⟨by rw [HS.out]; rfl, HB2⟩
       ·have h1 : (na == 0) = false := by simp; omega
        have h2 : (0 : Int) < (na : Int) := by omega
        rw [h1] at HS
        go_wp2_with fail
        go_ret
        exact ⟨by rw [HS.out]; rfl, HB2⟩
      ·have h1 : (nb == 0) = false := by simp; omega
       have h2 : (0 : Int) < (nb : Int) := by omega
       rw [h1] at HS
       go_wp2_with fail
       go_ret
       exact ⟨by rw [HS.out]; rfl, HB2⟩
   ·rw [if_neg ha] at HS
    have ha2 : (af != 0) = true := by simp; exact ha
    go_wp2_with fail
    go_ret
    exact ⟨by rw [HS.out]; rfl, HB2⟩
  ·have e : mayR ⟨7, m, t, B, AA, ck, ct, L, K, ⟨cn, cq, cb⟩⟩ T = if (decide (0 ≤ m) && t.toList.isEmpty && B.length == 0 && AA.length == 0 && pl) = true then 0 else 1 := by unfold mayR; rw [HPV.out]; simp
   obtain ⟨res, hres⟩ : ∃ q, mayR ⟨7, m, t, B, AA, ck, ct, L, K, ⟨cn, cq, cb⟩⟩ T = q := ⟨_, rfl⟩
   rw [hres, HNB.out, HNA.out] at e
   rw [hres]
   have HS := Lib.hid e
   clear e hres HPV HNB HNA
   go_enter Tryz.func37, Tryz.ntmps37
   go_wp2_with fail
   refine HPL.out.mono ?_
   rintro e w1 ⟨rfl, hb1⟩
   have HB1 := Lib.hid (HB.out.trans (hb1.out.mono HB.out.size))
   have HE1 := Lib.hid (HE0.out.below hb1.out HE0.out.lt)
   have u0 := HE1.out.cell 0
   have u1 := HE1.out.cell 1
   have u2 := HE1.out.cell 2
   have u3 := HE1.out.cell 3
   have u4 := HE1.out.cell 4
   simp only [zG, zH, zI] at u0 u1 u2 u3 u4
   clear hb1 HPL HE0 HE1 HW1 HT1 HB
   by_cases hm : m < 0
   ·have hd : decide (0 ≤ m) = false := by simp; omega
    rw [hd] at HS
    go_wp2_with fail
    go_ret
    exact ⟨by rw [HS.out]; rfl, HB1⟩
   ·have hd : decide (0 ≤ m) = true := by simp; omega
    rw [hd] at HS
    cases ht : t.toList.isEmpty
    ·rw [ht] at HS
     go_wp2_with fail
     go_ret
     exact ⟨by rw [HS.out]; rfl, HB1⟩
    ·rw [ht] at HS
     by_cases hnb : nb = 0
     ·subst hnb
      by_cases hna : na = 0
      ·subst hna
       cases pl
       ·skip
        go_wp2_with fail
        go_ret
        exact ⟨by rw [HS.out]; rfl, HB1⟩
       ·skip
        go_wp2_with fail
        go_ret
        exact ⟨by rw [HS.out]; rfl, HB1⟩
      ·have h1 : (na == 0) = false := by simp; omega
       have h2 : (0 : Int) < (na : Int) := by omega
       rw [h1] at HS
       go_wp2_with fail
       go_ret
       exact ⟨by rw [HS.out]; rfl, HB1⟩
     ·have h1 : (nb == 0) = false := by simp; omega
      have h2 : (0 : Int) < (nb : Int) := by omega
      rw [h1] at HS
      go_wp2_with fail
      go_ret
      exact ⟨by rw [HS.out]; rfl, HB1⟩
  ·have e : mayR ⟨8, m, t, B, AA, ck, ct, L, K, ⟨cn, cq, cb⟩⟩ T = if (decide (0 ≤ m) && t.toList.isEmpty && B.length == 0 && AA.length == 0 && pl) = true then 0 else 1 := by unfold mayR; rw [HPV.out]; simp
   obtain ⟨res, hres⟩ : ∃ q, mayR ⟨8, m, t, B, AA, ck, ct, L, K, ⟨cn, cq, cb⟩⟩ T = q := ⟨_, rfl⟩
   rw [hres, HNB.out, HNA.out] at e
   rw [hres]
   have HS := Lib.hid e
   clear e hres HPV HNB HNA
   go_enter Tryz.func37, Tryz.ntmps37
   go_wp2_with fail
   refine HPL.out.mono ?_
   rintro e w1 ⟨rfl, hb1⟩
   have HB1 := Lib.hid (HB.out.trans (hb1.out.mono HB.out.size))
   have HE1 := Lib.hid (HE0.out.below hb1.out HE0.out.lt)
   have u0 := HE1.out.cell 0
   have u1 := HE1.out.cell 1
   have u2 := HE1.out.cell 2
   have u3 := HE1.out.cell 3
   have u4 := HE1.out.cell 4
   simp only [zG, zH, zI] at u0 u1 u2 u3 u4
   clear hb1 HPL HE0 HE1 HW1 HT1 HB
   by_cases hm : m < 0
   ·have hd : decide (0 ≤ m) = false := by simp; omega
    rw [hd] at HS
    go_wp2_with fail
    go_ret
    exact ⟨by rw [HS.out]; rfl, HB1⟩
   ·have hd : decide (0 ≤ m) = true := by simp; omega
    rw [hd] at HS
    cases ht : t.toList.isEmpty
    ·rw [ht] at HS
     go_wp2_with fail
     go_ret
     exact ⟨by rw [HS.out]; rfl, HB1⟩
    ·rw [ht] at HS
     by_cases hnb : nb = 0
     ·subst hnb
      by_cases hna : na = 0
      ·subst hna
       cases pl
       ·skip
        go_wp2_with fail
        go_ret
        exact ⟨by rw [HS.out]; rfl, HB1⟩
       ·skip
        go_wp2_with fail
        go_ret
        exact ⟨by rw [HS.out]; rfl, HB1⟩
      ·have h1 : (na == 0) = false := by simp; omega
       have h2 : (0 : Int) < (na : Int) := by omega
       rw [h1] at HS
       go_wp2_with fail
       go_ret
       exact ⟨by rw [HS.out]; rfl, HB1⟩
     ·have h1 : (nb == 0) = false := by simp; omega
      have h2 : (0 : Int) < (nb : Int) := by omega
      rw [h1] at HS
      go_wp2_with fail
      go_ret
      exact ⟨by rw [HS.out]; rfl, HB1⟩
  ·have e : mayR ⟨9, m, t, B, AA, ck, ct, L, K, ⟨cn, cq, cb⟩⟩ T = if (decide (0 ≤ m) && t.toList.isEmpty && B.length == 0 && AA.length == 0 && pl) = true then 0 else 1 := by unfold mayR; rw [HPV.out]; simp
   obtain ⟨res, hres⟩ : ∃ q, mayR ⟨9, m, t, B, AA, ck, ct, L, K, ⟨cn, cq, cb⟩⟩ T = q := ⟨_, rfl⟩
   rw [hres, HNB.out, HNA.out] at e
   rw [hres]
   have HS := Lib.hid e
   clear e hres HPV HNB HNA
   go_enter Tryz.func37, Tryz.ntmps37
   go_wp2_with fail
   refine HPL.out.mono ?_
   rintro e w1 ⟨rfl, hb1⟩
   have HB1 := Lib.hid (HB.out.trans (hb1.out.mono HB.out.size))
   have HE1 := Lib.hid (HE0.out.below hb1.out HE0.out.lt)
   have u0 := HE1.out.cell 0
   have u1 := HE1.out.cell 1
   have u2 := HE1.out.cell 2
   have u3 := HE1.out.cell 3
   have u4 := HE1.out.cell 4
   simp only [zG, zH, zI] at u0 u1 u2 u3 u4
   clear hb1 HPL HE0 HE1 HW1 HT1 HB
   by_cases hm : m < 0
   ·have hd : decide (0 ≤ m) = false := by simp; omega
    rw [hd] at HS
    go_wp2_with fail
    go_ret
    exact ⟨by rw [HS.out]; rfl, HB1⟩
   ·have hd : decide (0 ≤ m) = true := by simp; omega
    rw [hd] at HS
    cases ht : t.toList.isEmpty
    ·rw [ht] at HS
     go_wp2_with fail
     go_ret
     exact ⟨by rw [HS.out]; rfl, HB1⟩
    ·rw [ht] at HS
     by_cases hnb : nb = 0
     ·subst hnb
      by_cases hna : na = 0
      ·subst hna
       cases pl
       ·skip
        go_wp2_with fail
        go_ret
        exact ⟨by rw [HS.out]; rfl, HB1⟩
       ·skip
        go_wp2_with fail
        go_ret
        exact ⟨by rw [HS.out]; rfl, HB1⟩
      ·have h1 : (na == 0) = false := by simp; omega
       have h2 : (0 : Int) < (na : Int) := by omega
       rw [h1] at HS
       go_wp2_with fail
       go_ret
       exact ⟨by rw [HS.out]; rfl, HB1⟩
     ·have h1 : (nb == 0) = false := by simp; omega
      have h2 : (0 : Int) < (nb : Int) := by omega
      rw [h1] at HS
      go_wp2_with fail
      go_ret
      exact ⟨by rw [HS.out]; rfl, HB1⟩
  ·have e : mayR ⟨10, m, t, B, AA, ck, ct, L, K, ⟨cn, cq, cb⟩⟩ T = if (decide (0 ≤ m) && t.toList.isEmpty && B.length == 0 && AA.length == 0 && pl) = true then 0 else 1 := by unfold mayR; rw [HPV.out]; simp
   obtain ⟨res, hres⟩ : ∃ q, mayR ⟨10, m, t, B, AA, ck, ct, L, K, ⟨cn, cq, cb⟩⟩ T = q := ⟨_, rfl⟩
   rw [hres, HNB.out, HNA.out] at e
   rw [hres]
   have HS := Lib.hid e
   clear e hres HPV HNB HNA
   go_enter Tryz.func37, Tryz.ntmps37
   go_wp2_with fail
   refine HPL.out.mono ?_
   rintro e w1 ⟨rfl, hb1⟩
   have HB1 := Lib.hid (HB.out.trans (hb1.out.mono HB.out.size))
   have HE1 := Lib.hid (HE0.out.below hb1.out HE0.out.lt)
   have u0 := HE1.out.cell 0
   have u1 := HE1.out.cell 1
   have u2 := HE1.out.cell 2
   have u3 := HE1.out.cell 3
   have u4 := HE1.out.cell 4
   simp only [zG, zH, zI] at u0 u1 u2 u3 u4
   clear hb1 HPL HE0 HE1 HW1 HT1 HB
   by_cases hm : m < 0
   ·have hd : decide (0 ≤ m) = false := by simp; omega
    rw [hd] at HS
    go_wp2_with fail
    go_ret
    exact ⟨by rw [HS.out]; rfl, HB1⟩
   ·have hd : decide (0 ≤ m) = true := by simp; omega
    rw [hd] at HS
    cases ht : t.toList.isEmpty
    ·rw [ht] at HS
     go_wp2_with fail
     go_ret
     exact ⟨by rw [HS.out]; rfl, HB1⟩
    ·rw [ht] at HS
     by_cases hnb : nb = 0
     ·subst hnb
      by_cases hna : na = 0
      ·subst hna
       cases pl
       ·skip
        go_wp2_with fail
        go_ret
        exact ⟨by rw [HS.out]; rfl, HB1⟩
       ·skip
        go_wp2_with fail
        go_ret
        exact ⟨by rw [HS.out]; rfl, HB1⟩
      ·have h1 : (na == 0) = false := by simp; omega
       have h2 : (0 : Int) < (na : Int) := by omega
       rw [h1] at HS
       go_wp2_with fail
       go_ret
       exact ⟨by rw [HS.out]; rfl, HB1⟩
     ·have h1 : (nb == 0) = false := by simp; omega
      have h2 : (0 : Int) < (nb : Int) := by omega
      rw [h1] at HS
      go_wp2_with fail
      go_ret
      exact ⟨by rw [HS.out]; rfl, HB1⟩
 ·have e : mayR ⟨k, m, t, B, AA, ck, ct, L, K, ⟨cn, cq, cb⟩⟩ T = 5 := by
   unfold mayR
   rw [if_neg (by dsimp only; omega), if_neg (by dsimp only; omega), if_neg (by dsimp only; omega)]
  rw [e]
  have q1 : (k == 1) = false := by simp; omega
  have q2 : (k == 2) = false := by simp; omega
  have q3 : (k == 3) = false := by simp; omega
  have q4 : (k == 4) = false := by simp; omega
  have q5 : (k == 5) = false := by simp; omega
  have q6 : (k == 6) = false := by simp; omega
  have q7 : (k == 7) = false := by simp; omega
  have q8 : (k == 8) = false := by simp; omega
  have q9 : (k == 9) = false := by simp; omega
  have q10 : (k == 10) = false := by simp; omega
  clear e hc
  go_enter Tryz.func37, Tryz.ntmps37
  go_wp2_with fail
  refine HPL.out.mono ?_
  rintro e w1 ⟨rfl, hb1⟩
  have HB1 := Lib.hid (HB.out.trans (hb1.out.mono HB.out.size))
  have u0 := (HE0.out.below hb1.out HE0.out.lt).cell 0
  simp only [zG, zH] at u0
  go_wp2_with fail
  go_ret
  exact ⟨rfl, HB1⟩
theorem fits_kinds {M : List Cl} {R : List Vl} : ∀ k, k ≤ M.length → k ≤ R.length → (∀ i (h : i < M.length), i < k → M[i].no = false) → fitsTo M R k = (kindsTo M R k && (R.take k).all Vl.may)
 | 0, _, _, _ => rfl
 | k + 1, hM, hR, hn => by
   rw [fitsTo_succ M R k (by omega) (by omega), kindsTo_succ M R k (by omega) (by omega), fits_kinds k (by omega) (by omega) (fun i h hi => hn i h (by omega)), List.take_succ_eq_append_getElem (by omega), List.all_append]
   have h := hn k (by omega) (by omega)
   simp only [standsF, h, List.all_cons, List.all_nil, Bool.and_false, Bool.or_false, Bool.and_true]
   cases kindsTo M R k <;> cases (R.take k).all Vl.may <;> cases (R[k].k == M[k].k) <;> cases R[k].may <;> rfl
theorem vs_nil (L : List Vl) : vsF L [] = (L.length == 0) := by
 cases L with
 | nil => rfl
 | cons x L => simp [vsF]
theorem cs_nil (L : List Cl) : csF L [] = (L.length == 0) := by
 cases L with
 | nil => rfl
 | cons x L => simp [csF]
theorem nil_list (t : ByteArray) : (t.toList == (⟨#[]⟩ : ByteArray).toList) = t.toList.isEmpty := by
 have e : (⟨#[]⟩ : ByteArray).toList = [] := by rw [ByteArray.toList_eq]
 rw [e]
 cases t.toList <;> rfl
theorem one_col (s : ByteArray) (k : Int) : smayF [⟨s, k, false⟩] 1 = (nameF s && kindF k) := by
 rw [smayF_yes (by simp) (by simp) (by decide) (by decide) (by simp)]
 have h : colsTo [⟨s, k, false⟩] 1 1 = colOk [⟨s, k, false⟩] 1 0 := by simp [colsTo]
 show colsTo [⟨s, k, false⟩] 1 1 = _
 rw [h, colOk_at _ _ _ (by simp)]
 simp [findI, findN, List.findIdx_cons]
theorem num_one (x : Ev) : numF6 x = if (decide (0 ≤ x.n) && x.t.toList.isEmpty && x.B.length == 0 && x.A.length == 0 && plainF x) = true then 0 else 1 := by
 unfold numF6 evF bareE plainF chG chF
 dsimp only
 rw [vs_nil, vs_nil, nil_list]
 by_cases h : x.n < 0
 ·have h2 : decide (0 ≤ x.n) = false := by simp; omega
  rw [if_pos h, h2]; rfl
 ·have h2 : decide (0 ≤ x.n) = true := by simp; omega
  rw [if_neg h, h2]
  simp only [beq_self_eq_true, Bool.true_and]
theorem ss_nil (L : List Cl) (K : Int) : ssF L K [] 0 = (K == 0 && L.length == 0) := by unfold ssF; rw [cs_nil]
theorem col_cut (cn : ByteArray) (cq : Int) (cb : Bool) : Cl.eqb ⟨cn, cq, cb⟩ ⟨cn, 0, false⟩ = (cq == 0 && !cb) := by simp [Cl.eqb]
theorem ev_own (m : Int) (t : ByteArray) (B AA : List Vl) (ck : Int) (ct : ByteArray) (L L' : List Cl) (K K' : Int) (cl cl' : Cl) : evF ⟨6, m, t, B, AA, ck, ct, L, K, cl⟩ ⟨6, 0, ⟨#[]⟩, [], [], ck, ct, L', K', cl'⟩ = (m == 0 && t.toList.isEmpty && B.length == 0 && AA.length == 0 && (cl.eqb cl' && ssF L K L' K')) := by
 unfold evF chF
 dsimp only
 rw [vs_nil, vs_nil, nil_list]
 simp only [beq_self_eq_true, Bool.true_and]
set_option maxHeartbeats 4000000 in
theorem alt_one (x : Ev) (hk : x.k = 6) : altP x = if altF x.ck x.ct x.L x.K x.cl = 0 then (if (x.n == 0 && x.t.toList.isEmpty && x.B.length == 0 && x.A.length == 0) = true then 0 else 1) else altF x.ck x.ct x.L x.K x.cl := by
 obtain ⟨k, m, t, B, AA, ck, ct, L, K, ⟨cn, cq, cb⟩⟩ := x
 have hk6 : k = 6 := hk
 subst hk6
 clear hk
 dsimp only
 by_cases h : ck = 1 ∨ ck = 2 ∨ ck = 3 ∨ ck = 4 ∨ ck = 5
 ·rcases h with rfl | rfl | rfl | rfl | rfl
  ·rw [show altP ⟨6, m, t, B, AA, 1, ct, L, K, ⟨cn, cq, cb⟩⟩ = (if (smayF L K && nameF ct && evF ⟨6, m, t, B, AA, 1, ct, L, K, ⟨cn, cq, cb⟩⟩ ⟨6, 0, ⟨#[]⟩, [], [], 1, ct, L, K, ⟨⟨#[]⟩, 0, false⟩⟩) = true then 0 else 1) from rfl, show altF 1 ct L K ⟨cn, cq, cb⟩ = (if (nameF ct && smayF L K && Cl.eqb ⟨cn, cq, cb⟩ ⟨⟨#[]⟩, 0, false⟩) = true then 0 else 1) from rfl, ev_own, ssF_refl]
   cases nameF ct <;> cases smayF L K <;> cases (Cl.eqb ⟨cn, cq, cb⟩ ⟨⟨#[]⟩, 0, false⟩) <;> cases (m == 0) <;> cases t.toList.isEmpty <;> cases (B.length == 0) <;> cases (AA.length == 0) <;> rfl
  ·rw [show altP ⟨6, m, t, B, AA, 2, ct, L, K, ⟨cn, cq, cb⟩⟩ = (if (true && nameF ct && evF ⟨6, m, t, B, AA, 2, ct, L, K, ⟨cn, cq, cb⟩⟩ ⟨6, 0, ⟨#[]⟩, [], [], 2, ct, [], 0, ⟨⟨#[]⟩, 0, false⟩⟩) = true then 0 else 1) from rfl, show altF 2 ct L K ⟨cn, cq, cb⟩ = (if (nameF ct && (K == 0 && L.length == 0) && Cl.eqb ⟨cn, cq, cb⟩ ⟨⟨#[]⟩, 0, false⟩) = true then 0 else 1) from rfl, ev_own, ss_nil]
   cases nameF ct <;> cases (K == 0) <;> cases (L.length == 0) <;> cases (Cl.eqb ⟨cn, cq, cb⟩ ⟨⟨#[]⟩, 0, false⟩) <;> cases (m == 0) <;> cases t.toList.isEmpty <;> cases (B.length == 0) <;> cases (AA.length == 0) <;> rfl
  ·rw [show altP ⟨6, m, t, B, AA, 3, ct, L, K, ⟨cn, cq, cb⟩⟩ = (if (smayF [⟨cn, cq, false⟩] 1 && nameF ct && evF ⟨6, m, t, B, AA, 3, ct, L, K, ⟨cn, cq, cb⟩⟩ ⟨6, 0, ⟨#[]⟩, [], [], 3, ct, [], 0, ⟨cn, cq, cb⟩⟩) = true then 0 else 1) from rfl, show altF 3 ct L K ⟨cn, cq, cb⟩ = (if (nameF ct && (K == 0 && L.length == 0) && nameF cn && kindF cq) = true then 0 else 1) from rfl, ev_own, ss_nil, Cl.eqb_refl, one_col]
   cases nameF ct <;> cases nameF cn <;> cases (K == 0) <;> cases (L.length == 0) <;> cases kindF cq <;> cases (m == 0) <;> cases t.toList.isEmpty <;> cases (B.length == 0) <;> cases (AA.length == 0) <;> rfl
  ·rw [show altP ⟨6, m, t, B, AA, 4, ct, L, K, ⟨cn, cq, cb⟩⟩ = (if (nameF cn && nameF ct && evF ⟨6, m, t, B, AA, 4, ct, L, K, ⟨cn, cq, cb⟩⟩ ⟨6, 0, ⟨#[]⟩, [], [], 4, ct, [], 0, ⟨cn, 0, false⟩⟩) = true then 0 else 1) from rfl, show altF 4 ct L K ⟨cn, cq, cb⟩ = (if (nameF ct && (K == 0 && L.length == 0) && nameF cn && cq == 0 && !cb) = true then 0 else 1) from rfl, ev_own, ss_nil, col_cut]
   cases nameF ct <;> cases nameF cn <;> cases (K == 0) <;> cases (L.length == 0) <;> cases (cq == 0) <;> cases cb <;> cases (m == 0) <;> cases t.toList.isEmpty <;> cases (B.length == 0) <;> cases (AA.length == 0) <;> rfl
  ·rw [show altP ⟨6, m, t, B, AA, 5, ct, L, K, ⟨cn, cq, cb⟩⟩ = (if (smayF [⟨cn, cq, false⟩] 1 && nameF ct && evF ⟨6, m, t, B, AA, 5, ct, L, K, ⟨cn, cq, cb⟩⟩ ⟨6, 0, ⟨#[]⟩, [], [], 5, ct, [], 0, ⟨cn, cq, cb⟩⟩) = true then 0 else 1) from rfl, show altF 5 ct L K ⟨cn, cq, cb⟩ = (if (nameF ct && (K == 0 && L.length == 0) && nameF cn && kindF cq) = true then 0 else 1) from rfl, ev_own, ss_nil, Cl.eqb_refl, one_col]
   cases nameF ct <;> cases nameF cn <;> cases (K == 0) <;> cases (L.length == 0) <;> cases kindF cq <;> cases (m == 0) <;> cases t.toList.isEmpty <;> cases (B.length == 0) <;> cases (AA.length == 0) <;> rfl
 ·unfold altP altF
  dsimp only
  rw [if_neg (by omega), if_neg (by omega), if_neg (by omega), if_neg (by omega), if_neg (by omega), if_neg (by omega)]
structure Sc (M : List Cl) (k : Nat) : Prop where
 cols : Cols M
 len : 1 ≤ M.length ∧ M.length ≤ 16
 keys : 1 ≤ k ∧ k ≤ M.length ∧ k ≤ 4
 none : ∀ i (h : i < M.length), i < k → M[i].no = false
theorem sc_of_may {M : List Cl} {K : Int} (h : smayF M K = true) : ∃ k : Nat, K = (k : Int) ∧ Sc M k := by
 have hc : 1 ≤ M.length ∧ M.length ≤ 16 ∧ 1 ≤ K ∧ K ≤ 4 ∧ K ≤ M.length := by
  apply Decidable.byContradiction
  intro hn
  rw [smayF_no hn] at h; cases h
 rw [smayF_yes hc.1 hc.2.1 hc.2.2.1 hc.2.2.2.1 hc.2.2.2.2] at h
 unfold colsTo at h
 rw [List.all_eq_true] at h
 refine ⟨K.toNat, by omega, fun i hi => ?_, ⟨hc.1, hc.2.1⟩, ⟨by omega, by omega, by omega⟩, fun i hi hk => ?_⟩
 ·have h1 := h i (List.mem_range.2 hi)
  rw [colOk_at M K i hi] at h1
  simp only [Bool.and_eq_true] at h1
  exact ⟨h1.1.1.1, by simpa using h1.1.1.2, h1.1.2⟩
 ·have h1 := h i (List.mem_range.2 hi)
  rw [colOk_at M K i hi] at h1
  simp only [Bool.and_eq_true, Bool.not_eq_true', Bool.and_eq_false_iff, decide_eq_false_iff_not] at h1
  rcases h1.2 with h | h
  ·exact h
  ·omega
theorem apply_sc {M : List Cl} {k : Nat} (hg : Sc M k) {ck : Int} {nm : ByteArray} {kd : Int} {no : Bool} (h : (doesF M k ck nm kd no).e = 0) : smayF (applyL M (doesF M k ck nm kd no) nm kd) k = true := by
 have hl := hg.len
 have hk := hg.keys
 obtain ⟨hE, hA⟩ := cols_parts hg.cols
 rcases does_cases hk.2.1 h with ⟨rfl, hf, hkd, hnm, hl16, hd⟩ | ⟨i, hf, hki, hil, ⟨rfl, hd⟩ | ⟨rfl, hkd, hd⟩⟩
 ·rw [hd]
  have e2 : applyL M ⟨M.length, M.length, 1, 0⟩ nm kd = M ++ [⟨nm, kd, true⟩] := by simp [applyL]
  rw [e2]
  refine may_of (cols_snoc hg.cols hnm hf hkd) (by simp) (by simp; omega) hk.1 (by omega) (by simp; omega) fun j hj hjk => ?_
  rw [List.getElem_append_left (by omega)]
  exact hg.none j (by omega) hjk
 ·rw [hd]
  have e2 : applyL M ⟨i, i + 1, 0, 0⟩ nm kd = M.take i ++ M.drop (i + 1) := by simp [applyL]
  rw [e2]
  have hE2 : Each (M.take i ++ M.drop (i + 1)) := fun c hc => by
   rcases List.mem_append.1 hc with h | h
   ·exact hE c (List.mem_of_mem_take h)
   ·exact hE c (List.mem_of_mem_drop h)
  have hs : (M.take i ++ M.drop (i + 1)).Sublist M := by
   have h1 : (M.take i ++ M.drop (i + 1)).Sublist (M.take i ++ M.drop i) := List.Sublist.append_left (List.drop_sublist_drop_left M (Nat.le_succ i)) _
   rwa [List.take_append_drop] at h1
  have hA2 : Apart (M.take i ++ M.drop (i + 1)) := List.Pairwise.sublist (hs.map _) hA
  refine may_of (cols_of hE2 hA2) (by simp; omega) (by simp; omega) hk.1 (by omega) (by simp; omega) fun j hj hjk => ?_
  rw [List.getElem_append_left (by rw [List.length_take]; omega), List.getElem_take]
  exact hg.none j (by omega) hjk
 ·rw [hd]
  have e2 : applyL M ⟨i, i + 1, 1, 0⟩ nm kd = M.set i ⟨nm, kd, true⟩ := by rw [set_mid M i _ hil]; simp [applyL]
  rw [e2]
  have hnm := findI_nm hf hil
  have hm : (M.set i ⟨nm, kd, true⟩).map (fun c => c.nm.toList) = M.map fun c => c.nm.toList := by
   rw [List.map_set]
   apply List.ext_getElem (by simp)
   intro j h1 h2
   rw [List.getElem_set]
   split
   ·rename_i hij; subst hij; rw [List.getElem_map, hnm]
   ·rfl
  have hA2 : Apart (M.set i ⟨nm, kd, true⟩) := by unfold Apart; rw [hm]; exact hA
  have hE2 : Each (M.set i ⟨nm, kd, true⟩) := fun c hc => by
   rcases List.mem_or_eq_of_mem_set hc with h | rfl
   ·exact hE c h
   ·exact ⟨by rw [← hnm]; exact (hE _ (List.getElem_mem hil)).1, hkd⟩
  refine may_of (cols_of hE2 hA2) (by simp; omega) (by simp; omega) hk.1 (by omega) (by simp; omega) fun j hj hjk => ?_
  rw [List.getElem_set_ne (by omega)]
  exact hg.none j (by simpa using hj) hjk
def RtD (D : List Td) : Prop := SortD D ∧ ∀ x ∈ D, nameF x.nm = true ∧ smayF x.L x.K = true
theorem follow_rt {G T' : List Tb} {ck : Int} {tn : ByteArray} {L' : List Cl} {K' : Int} {cn : ByteArray} {kd : Int} {no : Bool} (hG : RtD (tds G)) (hl : G.length ≤ 64) (hE : foE G ck tn L' K' cn kd no = 0) (hT : tds T' = foD G ck tn L' K' cn kd no) :
 RtD (tds T') ∧ T'.length ≤ 64 := by
 have hm := hG.2
 by_cases h1 : ck = 1
 ·subst h1
  rw [foE_c] at hE
  have hn : nameF tn = true := by
   cases h : nameF tn
   ·rw [fcE_name h] at hE; omega
   ·rfl
  have hp : plF G tn = false := by
   cases h : plF G tn
   ·rfl
   ·rw [fcE_there hn h] at hE; omega
  have hmy : smayF L' K' = true := by
   cases h : smayF L' K'
   ·rw [fcE_may hn hp h] at hE; omega
   ·rfl
  have h64 : G.length < 64 := by
   apply Decidable.byContradiction
   intro h6
   rw [fcE_many hn hp hmy (by omega)] at hE; omega
  rw [foD_c hE, lbN_d] at hT
  have hlen : T'.length ≤ 64 := by
   rw [← tds_len, hT]
   have := tds_len G
   simp
   omega
  refine ⟨⟨(by rw [hT]; exact sortD_ins (x := ⟨tn, L', K'⟩) hG.1 (by rw [← plF_d]; exact hp)), fun x hx => ?_⟩, hlen⟩
  rw [hT, List.append_assoc, List.mem_append] at hx
  rcases hx with hx | hx
  ·exact hm x (List.mem_of_mem_take hx)
  ·rw [List.singleton_append, List.mem_cons] at hx
   rcases hx with rfl | hx
   ·exact ⟨hn, hmy⟩
   ·exact hm x (List.mem_of_mem_drop hx)
 ·have hp : plF G tn = true := by
   cases h : plF G tn
   ·rw [foE_none h1 h] at hE; omega
   ·rfl
  have hlt := plF_lt hp
  by_cases h2 : ck = 2
  ·subst h2
   rw [foD_drop hp] at hT
   have hlen : T'.length ≤ 64 := by
    rw [← tds_len, hT]
    have := tds_len G
    simp
    omega
   refine ⟨⟨(by rw [hT]; exact sortD_del hG.1 _), fun x hx => ?_⟩, hlen⟩
   rw [hT, List.mem_append] at hx
   rcases hx with hx | hx
   ·exact hm x (List.mem_of_mem_take hx)
   ·exact hm x (List.mem_of_mem_drop hx)
  ·rw [foE_alter h1 h2 hp hlt] at hE
   rw [foD_alter h1 h2 hp hlt hE] at hT
   have hnm : G[lbN G tn].nm = tn := by
    have h := plF_at hlt
    rw [hp] at h
    exact bytes_inj h.symm
   obtain ⟨hq, hmy⟩ := hm G[lbN G tn].td (List.mem_map_of_mem (List.getElem_mem hlt))
   obtain ⟨k, hk, hgs⟩ := sc_of_may hmy
   have hlen : T'.length ≤ 64 := by
    rw [← tds_len, hT]
    have := tds_len G
    simp
    omega
   have hl9 : lbN G tn < (tds G).length := by rw [tds_len]; exact hlt
   refine ⟨⟨(by rw [hT]; exact sortD_rep hG.1 hl9 (by rw [tds_get G _ hlt]; exact hnm.symm)), fun x hx => ?_⟩, hlen⟩
   rw [hT, List.append_assoc, List.mem_append] at hx
   rcases hx with hx | hx
   ·exact hm x (List.mem_of_mem_take hx)
   ·rw [List.singleton_append, List.mem_cons] at hx
    rcases hx with rfl | hx
    ·have hq : nameF G[lbN G tn].nm = true := hq
     rw [hnm] at hq
     refine ⟨hq, ?_⟩
     show smayF (applyL _ _ _ _) (applyK _ _) = true
     unfold applyK
     have hk : G[lbN G tn].K = (k : Int) := hk
     rw [if_pos hE, hk]
     rw [hk] at hE
     exact apply_sc hgs hE
    ·exact hm x (List.mem_of_mem_drop hx)
theorem tatN_d (T : List Tb) (s : ByteArray) : tatN T s = (tds T).findIdx fun x => x.nm.toList == s.toList := by
 unfold tatN tds
 rw [List.findIdx_map]
 rfl
theorem tfL_d {T T' : List Tb} (h : tds T = tds T') (s : ByteArray) : tfL T s = tfL T' s ∧ tfK T s = tfK T' s := by
 have e : ∀ U : List Tb, tfL U s = (match (tds U)[(tds U).findIdx fun x => x.nm.toList == s.toList]? with | some x => x.L | none => []) ∧ tfK U s = (match (tds U)[(tds U).findIdx fun x => x.nm.toList == s.toList]? with | some x => x.K | none => 0) := fun U => by
  unfold tfL tfK
  rw [tatN_d]
  unfold tds
  rw [List.getElem?_map]
  cases U[(U.map Tb.td).findIdx fun x => x.nm.toList == s.toList]? <;> exact ⟨rfl, rfl⟩
 rw [(e T).1, (e T).2, (e T').1, (e T').2, h]
 exact ⟨rfl, rfl⟩
theorem mayP_d {T T' : List Tb} (h : tds T = tds T') (x : Ev) : mayP x T = mayP x T' := by
 have e1 : plF T x.t = plF T' x.t := by rw [plF_d, plF_d, h]
 obtain ⟨e2, e3⟩ := tfL_d h x.t
 have e4 : rowFits x T = rowFits x T' := by unfold rowFits; rw [e2, e3]
 unfold mayP rowG6
 rw [e1, e4]
theorem foE_d {T T' : List Tb} (h : tds T = tds T') (ck : Int) (tn : ByteArray) (L' : List Cl) (K' : Int) (cn : ByteArray) (kd : Int) (no : Bool) : foE T ck tn L' K' cn kd no = foE T' ck tn L' K' cn kd no := by
 have e1 : plF T tn = plF T' tn := by rw [plF_d, plF_d, h]
 have e2 : T.length = T'.length := by rw [← tds_len, ← tds_len, h]
 by_cases h1 : ck = 1
 ·subst h1
  rw [foE_c, foE_c]
  unfold fcE
  rw [e1, e2]
 ·cases hp : plF T tn
  ·rw [foE_none h1 hp, foE_none h1 (by rw [← e1]; exact hp)]
  ·have hp' : plF T' tn = true := by rw [← e1]; exact hp
   by_cases h2 : ck = 2
   ·subst h2; rw [foE_drop hp, foE_drop hp']
   ·have hl := plF_lt hp
    have hl' := plF_lt hp'
    rw [foE_alter h1 h2 hp hl, foE_alter h1 h2 hp' hl']
    have e3 : lbN T tn = lbN T' tn := by rw [lbN_d, lbN_d, h]
    have e4 : T[lbN T tn].td = T'[lbN T' tn].td := by
     rw [← tds_get T _ hl, ← tds_get T' _ hl']
     simp only [h, e3]
    have e5 : T[lbN T tn].L = T'[lbN T' tn].L := congrArg Td.L e4
    have e6 : T[lbN T tn].K = T'[lbN T' tn].K := congrArg Td.K e4
    rw [e5, e6]
theorem foD_d {T T' : List Tb} (h : tds T = tds T') (ck : Int) (tn : ByteArray) (L' : List Cl) (K' : Int) (cn : ByteArray) (kd : Int) (no : Bool) : foD T ck tn L' K' cn kd no = foD T' ck tn L' K' cn kd no := by
 have e0 := foE_d h ck tn L' K' cn kd no
 have e1 : plF T tn = plF T' tn := by rw [plF_d, plF_d, h]
 by_cases hE : foE T ck tn L' K' cn kd no = 0
 ·by_cases h1 : ck = 1
  ·subst h1
   rw [foE_c] at hE
   have hE' : fcE T' tn L' K' = 0 := by
    have e := e0
    rw [foE_c, foE_c] at e
    rw [← e]
    exact hE
   rw [foD_c hE, foD_c hE', lbN_d, lbN_d, h]
  ·have hp : plF T tn = true := by
    cases hp : plF T tn
    ·rw [foE_none h1 hp] at hE; omega
    ·rfl
   have hp' : plF T' tn = true := by rw [← e1]; exact hp
   by_cases h2 : ck = 2
   ·subst h2; rw [foD_drop hp, foD_drop hp', lbN_d, lbN_d, h]
   ·have hl := plF_lt hp
    have hl' := plF_lt hp'
    have hE' := hE
    rw [e0, foE_alter h1 h2 hp' hl'] at hE'
    rw [foE_alter h1 h2 hp hl] at hE
    rw [foD_alter h1 h2 hp hl hE, foD_alter h1 h2 hp' hl' hE']
    have e3 : lbN T tn = lbN T' tn := by rw [lbN_d, lbN_d, h]
    have e4 : T[lbN T tn].td = T'[lbN T' tn].td := by
     rw [← tds_get T _ hl, ← tds_get T' _ hl']
     simp only [h, e3]
    have e5 : T[lbN T tn].L = T'[lbN T' tn].L := congrArg Td.L e4
    have e6 : T[lbN T tn].K = T'[lbN T' tn].K := congrArg Td.K e4
    rw [e5, e6, e3, h]
 ·rw [foD_bad hE, foD_bad (by rw [← e0]; exact hE)]
end Go.Proofs.YtlnbhlgkehenpaaGreatDoor
namespace Go.Proofs.YtlnbhlgkehenpaaGreatDoor
open Go.RowKit Go.Maps Dg
set_option maxRecDepth 100000
theorem run_copyC (w : World) (A : Option Addr) (L : List Cl) (n c : Nat) (hn : L.length = n) (hl : n ≤ 4398046511104) (hA : CRow w A L) (h0 : A = none → c = 0) :
 ∃ R W', (Builtin.append_ #[37, 37] 37 #[.slice none 0 0, .slice A n c]).run Tryz.prog w = .ok R W' ∧ OwnC w.heap.size W' R L ∧ Below w.heap.size w W' := by
 subst hn
 obtain ⟨i0, hi, hz0, hz1, hz2⟩ := info_parts infoC
 cases A with
 | none =>
   obtain rfl : L = [] := Classical.byContradiction fun hne => by obtain ⟨b, off, e, _⟩ := hA hne; cases e
   obtain rfl := h0 rfl
   exact ⟨_, w, run_append_owned_none w w.heap.size 37 37 46 i0 3 Tryz.underlying37 hi (.slice none 0 0) 0 [] (World.ownsRow_nil _ _ _ _), World.ownsRow_nil _ _ _ _, Below.refl _ _⟩
 | some a =>
   obtain ⟨R, W', hrun, hown, hg, _, hx⟩ := run_append_own_at (P := Tryz.prog) w w.heap.size 37 37 46 i0 _ 3 32 Tryz.underlying37 hi hz0 hz1 hz2 rfl (by decide) (.slice none 0 0) 0 [] (World.ownsRow_nil _ _ _ _)
    a L.length c (L.flatMap Cl.cells) (cflat_len L) (fun j u hj => by
     have hjl : j < L.length * 3 := by
      have := (List.getElem?_eq_some_iff.1 hj).1
      rwa [cflat_len] at this
     have hne : L ≠ [] := fun e => by rw [e] at hjl; simp at hjl
     obtain ⟨b, off, e, hc⟩ := hA hne
     injection e with e
     subst e
     rw [Addr.add_lit]
     exact crow_cell hc j u hj) (fun u hu => by
     obtain ⟨r, _, hu⟩ := List.mem_flatMap.1 hu
     simp [Cl.cells] at hu; rcases hu with rfl | rfl | rfl <;> rfl) (by unfold maxLen; omega) (by omega) (Nat.le_refl _)
   refine ⟨R, W', hrun, ?_, ?_⟩
   ·unfold OwnC; simpa using hown
   ·exact (Below.refl _ w).grown hg (Nat.le_refl _) fun k hk => by cases hk
theorem copyC_any (A : Option Addr) (L : List Cl) (n c : Nat) (w : World) (hn : L.length = n) (hl : n ≤ 4398046511104) (hA : CRow w A L) (h0 : A = none → c = 0) :
 Calls Tryz.prog 19 #[.slice A n c] w fun e w' => ∃ v, e = .returned v ∧ Hid (OwnC w.heap.size w' v L) ∧ Hid (Below w.heap.size w w') := by
 obtain ⟨R, W, hrun, ho, hb⟩ := run_copyC w A L n c hn hl hA h0
 have HO := Lib.hid ho
 have HB := Lib.hid hb
 clear ho hb hn hl hA h0
 go_enter Tryz.func19, Tryz.ntmps19
 go_wp2_with (at_builtin; refine wpList_app rfl _ _ 37 37 rfl (.slice none 0 0) (.slice A n c) rfl rfl ⟨R, W, hrun, ?_⟩)
 go_ret
 exact ⟨_, rfl, HO, HB⟩
theorem copyT_any (A : Option Addr) (L : List Tb) (n c : Nat) (w : World) (hn : L.length = n) (hl : n ≤ 1000) (hA : TRow w A L) (h0 : A = none → c = 0) :
 Calls Tryz.prog 18 #[.slice A n c] w fun e w' => ∃ v, e = .returned v ∧ Hid (OwnT w.heap.size w' v L) ∧ Hid (Below w.heap.size w w') := by
 obtain ⟨R, W, hrun, ho, hb⟩ := appTs w w.heap.size (.slice none 0 0) [] (ownT_nil _ _) (Nat.le_refl _) A L n c hn hA h0 (by simpa using hl)
 rw [List.nil_append] at ho
 have HO := Lib.hid ho
 have HB := Lib.hid hb
 clear ho hb hn hl hA h0
 go_enter Tryz.func18, Tryz.ntmps18
 go_wp2_with (at_builtin; refine wpList_app rfl _ _ 22 22 rfl (.slice none 0 0) (.slice A n c) rfl rfl ⟨R, W, hrun, ?_⟩)
 go_ret
 exact ⟨_, rfl, HO, HB⟩
structure Wd where
 k : Int
 t : ByteArray
 R : List Vl
 ck : Int
 ct : ByteArray
 L : List Cl
 K : Int
 cl : Cl
def Wd.ev (x : Wd) : Ev := ⟨x.k, 0, x.t, [], x.R, x.ck, x.ct, x.L, x.K, x.cl⟩
structure Gr where
 x : Wd
 Ar : Option Addr
 nr : Nat
 zr : Nat
 A : Option Addr
 n : Nat
 c : Nat
def Gr.row (r : Gr) : List Value := [.int .i64 r.x.k, .string r.x.t, .slice r.Ar r.nr r.zr, .int .i64 r.x.ck, .string r.x.ct, .slice r.A r.n r.c, .int .i64 r.x.K, .string r.x.cl.nm, .int .i64 r.x.cl.k, .bool r.x.cl.no]
def Gr.val (r : Gr) : Value := .agg #[.int .i64 r.x.k, .string r.x.t, .slice r.Ar r.nr r.zr, .int .i64 r.x.ck, .string r.x.ct, .slice r.A r.n r.c, .int .i64 r.x.K, .string r.x.cl.nm, .int .i64 r.x.cl.k, .bool r.x.cl.no]
structure Gr.ok (w : World) (r : Gr) : Prop where
 b : r.x.R.length = r.nr ∧ r.nr ≤ 4398046511104 ∧ VRow w r.Ar r.x.R
 c : r.x.L.length = r.n ∧ r.n ≤ 4398046511104 ∧ CRow w r.A r.x.L
theorem Gr.ok.below {w w' : World} {r : Gr} (h : r.ok w) (hb : Below w.heap.size w w') : r.ok w' :=
 ⟨⟨h.b.1, h.b.2.1, h.b.2.2.below hb⟩, ⟨h.c.1, h.c.2.1, h.c.2.2.below hb⟩⟩
theorem Gr.ok.at {w : World} {r : Gr} (h : r.ok w) : EvAt w (.agg #[.int .i64 r.x.k, .int .i64 0, .string r.x.t, .slice none 0 0, .slice r.Ar r.nr r.zr, .int .i64 r.x.ck, .string r.x.ct, .slice r.A r.n r.c, .int .i64 r.x.K, .string r.x.cl.nm, .int .i64 r.x.cl.k, .bool r.x.cl.no]) r.x.ev :=
 ⟨none, 0, 0, r.Ar, r.nr, r.zr, r.A, r.n, r.c, rfl, ⟨rfl, by omega, fun h => absurd rfl h⟩, ⟨h.b.1, by have := h.b.2.1; omega, h.b.2.2⟩, h.c.1, by have := h.c.2.1; omega, h.c.2.2⟩
def GRow (w : World) (A : Option Addr) (T : List Gr) : Prop := T ≠ [] → ∃ b off, A = some ⟨b, off, none⟩ ∧ ∀ i (h : i < T.length), ∀ j, j < 10 → w.cell? ⟨b, off + i * 10 + j, none⟩ = T[i].row[j]?
theorem GRow.nil (w : World) (A : Option Addr) : GRow w A [] := fun h => absurd rfl h
theorem grow10 (r : Gr) (j : Nat) (hj : j < 10) : ∃ v, r.row[j]? = some v := ⟨r.row[j]'(by simpa [Gr.row] using hj), List.getElem?_eq_getElem _⟩
theorem GRow.keep {w w' : World} {A : Option Addr} {T : List Gr} (h : GRow w A T) (hk : ∀ (p : Addr) (u : Value), (∃ b off, A = some ⟨b, off, none⟩ ∧ p.block = b) → w.cell? p = some u → w'.cell? p = some u) : GRow w' A T := fun hne => by
 obtain ⟨b, off, e, hc⟩ := h hne
 refine ⟨b, off, e, fun i hi j hj => ?_⟩
 obtain ⟨v, hv⟩ := grow10 T[i] j hj
 have h0 := hc i hi j hj
 rw [hv] at h0 ⊢
 exact hk _ _ ⟨b, off, e, rfl⟩ h0
theorem GRow.below {w w' : World} {A : Option Addr} {T : List Gr} (h : GRow w A T) (hb : Below w.heap.size w w') : GRow w' A T :=
 h.keep fun p u _ h => (hb.cell (World.block_lt_of_cell? w p h)).trans h
theorem GRow.tur {X : List Nat} {w w' : World} {A : Option Addr} {T : List Gr} (h : GRow w A T) (ht : Tur X w w') (ho : ∀ a, A = some a → a.block ∉ X) : GRow w' A T :=
 h.keep fun p u ⟨b, off, e, ep⟩ h => (World.cell?_of_block (ht.block p.block (World.block_lt_of_cell? w p h) (by rw [ep]; exact ho _ e))).trans h
theorem infoG : (Tryz.prog.info? 52).map (fun i => (i.zero, i.size, i.bytes)) = some (some (.agg #[.int .i64 0, .string ⟨#[]⟩, .slice none 0 0, .int .i64 0, .string ⟨#[]⟩, .slice none 0 0, .int .i64 0, .string ⟨#[]⟩, .int .i64 0, .bool false]), 10, 136) := by kernel_rfl
def OwnG (B : Nat) (w : World) (v : Value) (L : List Gr) : Prop := w.ownsRow B 52 10 v L.length (L.flatMap Gr.row)
theorem ownG_nil (B : Nat) (w : World) : OwnG B w (.slice none 0 0) [] := World.ownsRow_nil _ _ _ _
theorem OwnG.below {B : Nat} {w w' : World} {v : Value} {L : List Gr} (h : OwnG B w v L) (hb : Below w.heap.size w w') : OwnG B w' v L := by
 rcases h.2 with ⟨hv, hn⟩ | ⟨g, cap, cur, hv, hg, hh, hc, hcm, hsz, ht⟩
 ·exact ⟨h.1, .inl ⟨hv, hn⟩⟩
 ·exact ⟨h.1, .inr ⟨g, cap, cur, hv, hg, Has.below (t := 52) (cs := cur) hh hb (Has.lt (t := 52) (cs := cur) hh), hc, hcm, hsz, ht⟩⟩
theorem gflat_len (L : List Gr) : (L.flatMap Gr.row).length = L.length * 10 := by
 induction L with
 | nil => rfl
 | cons x L ih => rw [List.flatMap_cons, List.length_append, ih]; simp [Gr.row]; omega
theorem gflat_get (L : List Gr) (i j : Nat) (h : i < L.length) (hj : j < 10) : (L.flatMap Gr.row)[i * 10 + j]? = L[i].row[j]? := by
 induction L generalizing i with
 | nil => simp at h
 | cons x L ih =>
   rw [List.flatMap_cons]
   rcases i with _ | i
   ·rw [List.getElem?_append_left (by simp [Gr.row]; omega)]
    simp
   ·rw [List.getElem?_append_right (by simp [Gr.row]; omega)]
    have e : (i + 1) * 10 + j - x.row.length = i * 10 + j := by simp [Gr.row]; omega
    rw [e, ih i (by simpa using h)]
    simp
theorem ownG_row {B : Nat} {w : World} {v : Value} {T : List Gr} (h : OwnG B w v T) : ∃ A c, v = .slice A T.length c ∧ T.length ≤ c ∧ c ≤ maxLen ∧ GRow w A T ∧ (A = none → c = 0) ∧ (∀ a, A = some a → v.ownBlock = some a.block ∧ B ≤ a.block ∧ a.block < w.heap.size) := by
 rcases h.2 with ⟨hv, hn⟩ | ⟨g, cap, cur, hv, hg, hh, hc, hcm, hsz, ht⟩
 ·obtain rfl := List.eq_nil_of_length_eq_zero hn
  exact ⟨none, 0, hv, Nat.le_refl _, Nat.zero_le _, fun h => absurd rfl h, (fun _ => rfl), (fun a e => by cases e)⟩
 ·refine ⟨_, _, hv, hc, hcm, fun _ => ⟨g, 0, rfl, fun i hi j hj => ?_⟩, (fun e => by cases e), fun a e => ?_⟩
  ·rw [Nat.zero_add, Has.cell (t := 52) (cs := cur) hh, ← gflat_get T i j hi hj, ← ht, List.getElem?_take, if_pos (by omega)]
   simp
  ·obtain rfl : (⟨g, 0, none⟩ : Addr) = a := Option.some.inj e
   rw [hv]
   exact ⟨rfl, hg, Has.lt (t := 52) (cs := cur) hh⟩
theorem ownG_open {B : Nat} {w : World} {v : Value} {T : List Gr} (h : OwnG B w v T) : ∃ A n c, v = .slice A n c ∧ Hid (T.length = n) ∧ n ≤ c ∧ c ≤ maxLen ∧ Hid (GRow w A T) ∧ Hid (A = none → c = 0) ∧ Hid (∀ a, A = some a → (Value.slice A n c).ownBlock = some a.block ∧ B ≤ a.block ∧ a.block < w.heap.size) := by
 obtain ⟨A, c, e, h1, h2, h3, h4, h5⟩ := ownG_row h
 subst e
 exact ⟨A, T.length, c, rfl, rfl, h1, h2, h3, h4, h5⟩
theorem OwnG.tur {X : List Nat} {B : Nat} {w w' : World} {v : Value} {T : List Gr} (h : OwnG B w v T) (ht : Tur X w w') (hx : ∀ g, v.ownBlock = some g → g ∉ X) : OwnG B w' v T := by
 rcases h.2 with ⟨hv, hn⟩ | ⟨g, cap, cur, hv, hg, hh, hc, hcm, hsz, htk⟩
 ·exact ⟨h.1, .inl ⟨hv, hn⟩⟩
 ·exact ⟨h.1, .inr ⟨g, cap, cur, hv, hg, Has.tur (t := 52) (cs := cur) hh ht (hx g (by rw [hv]; rfl)), hc, hcm, hsz, htk⟩⟩
theorem OwnG.mono {B C : Nat} {w : World} {v : Value} {T : List Gr} (h : OwnG B w v T) (hc : C ≤ B) : OwnG C w v T := by
 rcases h.2 with ⟨hv, hn⟩ | ⟨g, cap, cur, hv, hg, r⟩
 ·exact ⟨h.1, .inl ⟨hv, hn⟩⟩
 ·exact ⟨h.1, .inr ⟨g, cap, cur, hv, Nat.le_trans hc hg, r⟩⟩
theorem appG (w : World) (g : Nat) (hg0 : g = w.heap.size) (B : Nat) (v : Value) (T : List Gr) (r : Gr) (h : OwnG B w v T) (hB : B ≤ w.heap.size) (hl : T.length ≤ 1000000) :
 ∃ R W', (Builtin.append_ #[23, 23] 23 #[v, .slice (some ⟨g, 0, none⟩) 1 1]).run Tryz.prog (w.alloc (.cells #[.int .i64 r.x.k, .string r.x.t, .slice r.Ar r.nr r.zr, .int .i64 r.x.ck, .string r.x.ct, .slice r.A r.n r.c, .int .i64 r.x.K, .string r.x.cl.nm, .int .i64 r.x.cl.k, .bool r.x.cl.no] 52)) = .ok R W' ∧ OwnG B W' R (T ++ [r]) ∧ Tur v.ownBlock.toList w W' ∧ (∀ k, R.ownBlock = some k → v.ownBlock = some k ∨ w.heap.size ≤ k) := by
 subst hg0
 obtain ⟨i0, hi, hz0, hz1, hz2⟩ := info_parts infoG
 obtain ⟨R, W', hrun, hown, hg, _, hx⟩ := run_append_own_at (P := Tryz.prog) (w.alloc (.cells r.row.toArray 52)) B 23 23 52 i0 _ 10 136 Tryz.underlying23 hi hz0 hz1 hz2 rfl (by decide) v T.length (T.flatMap Gr.row) (World.ownsRow.alloc h _)
  ⟨w.heap.size, 0, none⟩ 1 1 r.row rfl (fun j u hj => by
    have := (Has.new w 52 r.row.toArray).cell j
    rw [List.getElem?_toArray] at this
    rw [Addr.add_lit, Nat.zero_add]
    exact this.trans hj) (fun u hu => by simp [Gr.row] at hu; rcases hu with rfl | rfl | rfl | rfl | rfl | rfl | rfl | rfl | rfl | rfl <;> rfl) (by unfold maxLen; omega) (by omega) (by simp; omega)
 refine ⟨R, W', hrun, ?_, ?_, ?_⟩
 ·unfold OwnG; rw [List.flatMap_append, List.length_append]; simpa using hown
 ·exact (Tur.alloc _ w _).trans (Tur.grown hg fun k hk => by rw [hk]; simp) (Fre.refl _ _)
 ·intro k hk
  rcases hx with hx | hx
  ·exact .inl (hx ▸ hk)
  ·rw [hx] at hk
   injection hk with hk
   have : (w.alloc (.cells r.row.toArray 52)).heap.size = w.heap.size + 1 := by simp
   exact .inr (by omega)
theorem appGs (w : World) (B : Nat) (v : Value) (T : List Gr) (A : Option Addr) (n c : Nat) (M : List Gr) (h : OwnG B w v T) (hB : B ≤ w.heap.size) (hM : M.length = n) (hr : GRow w A M) (hA : A = none → c = 0) (hl : T.length + n ≤ 1000000) :
 ∃ R W', (Builtin.append_ #[23, 23] 23 #[v, .slice A n c]).run Tryz.prog w = .ok R W' ∧ OwnG B W' R (T ++ M) ∧ Tur v.ownBlock.toList w W' ∧ (∀ k, R.ownBlock = some k → v.ownBlock = some k ∨ w.heap.size ≤ k) := by
 obtain ⟨i0, hi, hz0, hz1, hz2⟩ := info_parts infoG
 subst hM
 cases A with
 | none =>
   obtain rfl : M = [] := Classical.byContradiction fun hne => by obtain ⟨b, off, e, _⟩ := hr hne; cases e
   obtain rfl := hA rfl
   refine ⟨v, w, run_append_owned_none w B 23 23 52 i0 10 Tryz.underlying23 hi v _ _ h, ?_, Tur.refl _ _, fun k hk => .inl hk⟩
   rw [List.append_nil]
   exact h
 | some a =>
   obtain ⟨R, W', hrun, hown, hg, _, hx⟩ := run_append_own_at (P := Tryz.prog) w B 23 23 52 i0 _ 10 136 Tryz.underlying23 hi hz0 hz1 hz2 rfl (by decide) v T.length (T.flatMap Gr.row) h
    a M.length c (M.flatMap Gr.row) (gflat_len M) (fun j u hj => by
     have hjl : j < M.length * 10 := by
      have := (List.getElem?_eq_some_iff.1 hj).1
      rwa [gflat_len] at this
     have hne : M ≠ [] := fun e => by rw [e] at hjl; simp at hjl
     obtain ⟨b, off, e, hc⟩ := hr hne
     injection e with e
     subst e
     have hi : j / 10 < M.length := by omega
     have ej : j = j / 10 * 10 + j % 10 := by omega
     have q := hc (j / 10) hi (j % 10) (by omega)
     rw [ej, gflat_get M (j / 10) (j % 10) hi (by omega)] at hj
     rw [Addr.add_lit, ej, ← Nat.add_assoc]
     exact q.trans hj) (fun u hu => by
     obtain ⟨r, _, hu⟩ := List.mem_flatMap.1 hu
     simp [Gr.row] at hu; rcases hu with rfl | rfl | rfl | rfl | rfl | rfl | rfl | rfl | rfl | rfl <;> rfl) (by unfold maxLen; omega) (by omega) hB
   refine ⟨R, W', hrun, ?_, ?_, ?_⟩
   ·unfold OwnG; rw [List.flatMap_append, List.length_append]; exact hown
   ·exact Tur.grown hg fun k hk => by rw [hk]; simp
   ·intro k hk
    rcases hx with hx | hx
    ·exact .inl (hx ▸ hk)
    ·rw [hx] at hk
     injection hk with hk
     exact .inr (by omega)
end Go.Proofs.YtlnbhlgkehenpaaGreatDoor
namespace Go.Proofs.YtlnbhlgkehenpaaGreatDoor
open Go.RowKit Dg
set_option maxRecDepth 100000
theorem min2i (W : World) (a b n : Nat) (h : n = min a b) : (Builtin.min_ #[3, 3] 3 #[.int .i64 a, .int .i64 b]).run Tryz.prog W = .ok (.int .i64 n) W := by
 simp only [Builtin.min_, List.foldlM_cons, List.foldlM_nil, Builtin.min2, Sem.run_bind, Sem.run_pure, Result.andThen_ok]
 congr 2
 omega
theorem two (w : World) (a b : Array Value) (t u : TypeId) : Has ((w.alloc (.cells a t)).alloc (.cells b u)) (w.heap.size + 1) u b ∧ Hid (Below w.heap.size w ((w.alloc (.cells a t)).alloc (.cells b u))) := by
 have h := Has.new (w.alloc (.cells a t)) u b
 rw [World.size_alloc] at h
 exact ⟨h, ((Below.refl _ w).alloc (Nat.le_refl _) _).alloc (by simp) _⟩
theorem three1 (w : World) (a b c : Array Value) (t u v : TypeId) : Has (((w.alloc (.cells a t)).alloc (.cells b u)).alloc (.cells c v)) (w.heap.size + 1) u b ∧ Hid (Below w.heap.size w (((w.alloc (.cells a t)).alloc (.cells b u)).alloc (.cells c v))) := by
 obtain ⟨h, hb⟩ := two w a b t u
 exact ⟨h.alloc _, hb.out.alloc (by simp; omega) _⟩
def to40 (s : ByteArray) : ByteArray := s.extract 0 (min s.size 40)
theorem chEnd14 (w' : World) (g : Nat) (c0 c1 c2 c3 c4 c5 c6 : Value) (tmps : Array Value) (hp : tmps.getD 2 undef = .pointer (some ⟨g, 0, none⟩)) (hh : Has w' g 48 #[c0, c1, c2, c3, c4, c5, c6]) :
 (results Tryz.f15 tmps).run Tryz.prog w' = .ok (.agg #[c0, c1, c2, c3, c4, c5, c6]) w' :=
 results_cell_row rfl _ _ g 48 #[c0, c1, c2, c3, c4, c5, c6] (0, 0) _ hp hh Tryz.underlying48 rfl (by kernel_rfl)
set_option maxHeartbeats 2000000 in
theorem cut14_is (ck : Int) (ct : ByteArray) (A : Option Addr) (n c : Nat) (K : Int) (cn : ByteArray) (cq : Int) (cb : Bool) (w : World) (hnc : n ≤ c) (hcm : c ≤ maxLen) (ht : ct.size ≤ 140737488355328) (hc : cn.size ≤ 140737488355328) :
 Calls Tryz.prog 15 #[.agg #[.int .i64 ck, .string ct, .slice A n c, .int .i64 K, .string cn, .int .i64 cq, .bool cb]] w fun e w' => e = .returned (.agg #[.int .i64 ck, .string (to40 ct), .slice A (min n 20) c, .int .i64 K, .string (to40 cn), .int .i64 cq, .bool cb]) ∧ w' = (w.alloc (.cells #[.int .i64 ck, .string (to40 ct), .slice A (min n 20) c, .int .i64 K, .string (to40 cn), .int .i64 cq, .bool cb] 48)).alloc (.cells #[.int .i64 ck, .string (to40 ct), .slice A (min n 20) c, .int .i64 K, .string (to40 cn), .int .i64 cq, .bool cb] 48) := by
 have h1 : (Builtin.min_ #[3, 3] 3 #[.int .i64 (ct.size : Nat), .int .i64 (40 : Nat)]).run Tryz.prog = fun W => .ok (.int .i64 ((min ct.size 40 : Nat) : Int)) W := funext fun W => min2i W _ _ _ rfl
 go_enter Tryz.func15, Tryz.ntmps15
 go_wp2_with fail
 have e1 : ct.extract 0 (min (ct.size : Int) 40).toNat = to40 ct := by unfold to40; congr 1; omega
 have e2 : cn.extract 0 (min (cn.size : Int) 40).toNat = to40 cn := by unfold to40; congr 1; omega
 have e3 : (min (n : Int) 20).toNat = min n 20 := by omega
 rw [e1, e2, e3]
 obtain ⟨h2, hb⟩ := two w #[.int .i64 ck, .string (to40 ct), .slice A (min n 20) c, .int .i64 K, .string (to40 cn), .int .i64 cq, .bool cb] #[.int .i64 ck, .string (to40 ct), .slice A (min n 20) c, .int .i64 K, .string (to40 cn), .int .i64 cq, .bool cb] 48 48
 exact bodyPost_ret (chEnd14 _ (w.heap.size + 1) _ _ _ _ _ _ _ _ rfl h2) rfl ⟨rfl, rfl⟩
theorem toldEnd (w' : World) (g : Nat) (u0 u1 u2 u3 u4 u5 u6 u7 u8 u9 u10 u11 : Value) (tmps : Array Value) (hp : tmps.getD 2 undef = .pointer (some ⟨g, 0, none⟩)) (hh : Has w' g 61 #[u0, u1, u2, u3, u4, u5, u6, u7, u8, u9, u10, u11]) :
 (results Tryz.f34 tmps).run Tryz.prog w' = .ok (.agg #[u0, u1, u2, u3, u4, u5, u6, u7, u8, u9, u10, u11]) w' :=
 results_cell_row rfl _ _ g 61 #[u0, u1, u2, u3, u4, u5, u6, u7, u8, u9, u10, u11] (0, 0) _ hp hh Tryz.underlying61 rfl (by kernel_rfl)
def tk (k : Int) : Int := if k = 1 then 4 else if k = 2 then 5 else if k = 3 then 6 else 0
set_option maxHeartbeats 4000000 in
theorem told_any (k : Int) (t : ByteArray) (Ar : Option Addr) (nr zr : Nat) (ck : Int) (ct : ByteArray) (A : Option Addr) (n c : Nat) (K : Int) (cn : ByteArray) (cq : Int) (cb : Bool) (w : World) :
 Calls Tryz.prog 34 #[.agg #[.int .i64 k, .string t, .slice Ar nr zr, .int .i64 ck, .string ct, .slice A n c, .int .i64 K, .string cn, .int .i64 cq, .bool cb]] w fun e w' => e = .returned (.agg #[.int .i64 (tk k), .int .i64 0, .string t, if k = 2 then .slice Ar nr zr else .slice none 0 0, if k = 2 then .slice none 0 0 else .slice Ar nr zr, .int .i64 ck, .string ct, .slice A n c, .int .i64 K, .string cn, .int .i64 cq, .bool cb]) ∧ Hid (Below w.heap.size w w') := by
 by_cases h1 : k = 1
 ·subst h1
  go_enter Tryz.func34, Tryz.ntmps34
  go_wp2_with fail
  obtain ⟨h, hb⟩ := three1 w #[.int .i64 1, .string t, .slice Ar nr zr, .int .i64 ck, .string ct, .slice A n c, .int .i64 K, .string cn, .int .i64 cq, .bool cb] #[.int .i64 4, .int .i64 0, .string t, .slice none 0 0, .slice Ar nr zr, .int .i64 ck, .string ct, .slice A n c, .int .i64 K, .string cn, .int .i64 cq, .bool cb] #[.int .i64 4, .int .i64 0, .string t, .slice none 0 0, .slice Ar nr zr, .int .i64 ck, .string ct, .slice A n c, .int .i64 K, .string cn, .int .i64 cq, .bool cb] 52 61 61
  exact bodyPost_ret (toldEnd _ (w.heap.size + 1) _ _ _ _ _ _ _ _ _ _ _ _ _ rfl h) rfl ⟨by simp [tk], hb⟩
 by_cases h2 : k = 2
 ·subst h2
  go_enter Tryz.func34, Tryz.ntmps34
  go_wp2_with fail
  go_region
  all_goals (go_wp2_with fail)
  all_goals (obtain ⟨h, hb⟩ := three1 w #[.int .i64 2, .string t, .slice Ar nr zr, .int .i64 ck, .string ct, .slice A n c, .int .i64 K, .string cn, .int .i64 cq, .bool cb] #[.int .i64 5, .int .i64 0, .string t, .slice Ar nr zr, .slice none 0 0, .int .i64 ck, .string ct, .slice A n c, .int .i64 K, .string cn, .int .i64 cq, .bool cb] #[.int .i64 5, .int .i64 0, .string t, .slice Ar nr zr, .slice none 0 0, .int .i64 ck, .string ct, .slice A n c, .int .i64 K, .string cn, .int .i64 cq, .bool cb] 52 61 61; exact bodyPost_ret (toldEnd _ (w.heap.size + 1) _ _ _ _ _ _ _ _ _ _ _ _ _ rfl h.drew) rfl ⟨by simp [tk], hb.out.drew⟩)
 by_cases h3 : k = 3
 ·subst h3
  go_enter Tryz.func34, Tryz.ntmps34
  go_wp2_with fail
  obtain ⟨h, hb⟩ := three1 w #[.int .i64 3, .string t, .slice Ar nr zr, .int .i64 ck, .string ct, .slice A n c, .int .i64 K, .string cn, .int .i64 cq, .bool cb] #[.int .i64 6, .int .i64 0, .string t, .slice none 0 0, .slice Ar nr zr, .int .i64 ck, .string ct, .slice A n c, .int .i64 K, .string cn, .int .i64 cq, .bool cb] #[.int .i64 6, .int .i64 0, .string t, .slice none 0 0, .slice Ar nr zr, .int .i64 ck, .string ct, .slice A n c, .int .i64 K, .string cn, .int .i64 cq, .bool cb] 52 61 61
  exact bodyPost_ret (toldEnd _ (w.heap.size + 1) _ _ _ _ _ _ _ _ _ _ _ _ _ rfl h) rfl ⟨by simp [tk], hb⟩
 ·have q1 : (k == 1) = false := by simpa using h1
  have q2 : (k == 2) = false := by simpa using h2
  have q3 : (k == 3) = false := by simpa using h3
  have ht : tk k = 0 := by unfold tk; rw [if_neg h1, if_neg h2, if_neg h3]
  go_enter Tryz.func34, Tryz.ntmps34
  go_wp2_with fail
  obtain ⟨h, hb⟩ := three1 w #[.int .i64 k, .string t, .slice Ar nr zr, .int .i64 ck, .string ct, .slice A n c, .int .i64 K, .string cn, .int .i64 cq, .bool cb] #[.int .i64 0, .int .i64 0, .string t, .slice none 0 0, .slice Ar nr zr, .int .i64 ck, .string ct, .slice A n c, .int .i64 K, .string cn, .int .i64 cq, .bool cb] #[.int .i64 0, .int .i64 0, .string t, .slice none 0 0, .slice Ar nr zr, .int .i64 ck, .string ct, .slice A n c, .int .i64 K, .string cn, .int .i64 cq, .bool cb] 52 61 61
  exact bodyPost_ret (toldEnd _ (w.heap.size + 1) _ _ _ _ _ _ _ _ _ _ _ _ _ rfl h) rfl ⟨by simp, hb⟩
end Go.Proofs.YtlnbhlgkehenpaaGreatDoor
namespace Go.Proofs.YtlnbhlgkehenpaaGreatDoor
open Go.RowKit Go.Maps Dg
set_option maxRecDepth 100000
theorem wEndB {fn : Func} {p u : Tmp} (h : fn.results = #[.cell p 52, .tmp u]) (w' : World) (g : Nat) (u0 u1 u2 u3 u4 u5 u6 u7 u8 u9 : Value) (tmps : Array Value) (hp : tmps.getD p undef = .pointer (some ⟨g, 0, none⟩)) (hh : Has w' g 52 #[u0, u1, u2, u3, u4, u5, u6, u7, u8, u9]) :
 (results fn tmps).run Tryz.prog w' = .ok (.tuple #[.agg #[u0, u1, u2, u3, u4, u5, u6, u7, u8, u9], tmps.getD u undef]) w' := by
 rw [results_cell_tmp h, hp]
 simp only [asAddr, Sem.run_pure, Result.andThen_ok]
 rw [run_loadVar_row w' g 52 52 #[u0, u1, u2, u3, u4, u5, u6, u7, u8, u9] (0, 0) _ hh Tryz.underlying52 rfl (by kernel_rfl)]
 rfl
theorem revEnd14 (w' : World) (g : Nat) (u0 u1 u2 u3 u4 u5 u6 u7 u8 u9 u10 u11 : Value) (tmps : Array Value) (hp : tmps.getD 2 undef = .pointer (some ⟨g, 0, none⟩)) (hh : Has w' g 61 #[u0, u1, u2, u3, u4, u5, u6, u7, u8, u9, u10, u11]) :
 (results Tryz.f36 tmps).run Tryz.prog w' = .ok (.agg #[u0, u1, u2, u3, u4, u5, u6, u7, u8, u9, u10, u11]) w' :=
 results_cell_row rfl _ _ g 61 #[u0, u1, u2, u3, u4, u5, u6, u7, u8, u9, u10, u11] (0, 0) _ hp hh Tryz.underlying61 rfl (by kernel_rfl)
set_option maxHeartbeats 4000000 in
theorem rev14_any (k : Int) (t : ByteArray) (Ar : Option Addr) (nr zr : Nat) (ck : Int) (ct : ByteArray) (A : Option Addr) (n c : Nat) (K : Int) (cn : ByteArray) (cq : Int) (cb : Bool) (w : World) :
 Calls Tryz.prog 36 #[.agg #[.int .i64 k, .string t, .slice Ar nr zr, .int .i64 ck, .string ct, .slice A n c, .int .i64 K, .string cn, .int .i64 cq, .bool cb]] w fun e w' => e = .returned (.agg #[.int .i64 (tk k), .int .i64 0, .string t, if k = 2 then .slice Ar nr zr else .slice none 0 0, if k = 1 ∨ k = 3 then .slice Ar nr zr else .slice none 0 0, .int .i64 ck, .string ct, .slice A n c, .int .i64 K, .string cn, .int .i64 cq, .bool cb]) ∧ Hid (Below w.heap.size w w') := by
 by_cases h1 : k = 1
 ·subst h1
  go_enter Tryz.func36, Tryz.ntmps36
  go_wp2_with fail
  obtain ⟨h, hb⟩ := three1 w #[.int .i64 1, .string t, .slice Ar nr zr, .int .i64 ck, .string ct, .slice A n c, .int .i64 K, .string cn, .int .i64 cq, .bool cb] #[.int .i64 4, .int .i64 0, .string t, .slice none 0 0, .slice Ar nr zr, .int .i64 ck, .string ct, .slice A n c, .int .i64 K, .string cn, .int .i64 cq, .bool cb] #[.int .i64 4, .int .i64 0, .string t, .slice none 0 0, .slice Ar nr zr, .int .i64 ck, .string ct, .slice A n c, .int .i64 K, .string cn, .int .i64 cq, .bool cb] 52 61 61
  exact bodyPost_ret (revEnd14 _ (w.heap.size + 1) _ _ _ _ _ _ _ _ _ _ _ _ _ rfl h) rfl ⟨by simp [tk], hb⟩
 by_cases h2 : k = 2
 ·subst h2
  go_enter Tryz.func36, Tryz.ntmps36
  go_wp2_with fail
  obtain ⟨h, hb⟩ := three1 w #[.int .i64 2, .string t, .slice Ar nr zr, .int .i64 ck, .string ct, .slice A n c, .int .i64 K, .string cn, .int .i64 cq, .bool cb] #[.int .i64 5, .int .i64 0, .string t, .slice Ar nr zr, .slice none 0 0, .int .i64 ck, .string ct, .slice A n c, .int .i64 K, .string cn, .int .i64 cq, .bool cb] #[.int .i64 5, .int .i64 0, .string t, .slice Ar nr zr, .slice none 0 0, .int .i64 ck, .string ct, .slice A n c, .int .i64 K, .string cn, .int .i64 cq, .bool cb] 52 61 61
  exact bodyPost_ret (revEnd14 _ (w.heap.size + 1) _ _ _ _ _ _ _ _ _ _ _ _ _ rfl h) rfl ⟨by simp [tk], hb⟩
 by_cases h3 : k = 3
 ·subst h3
  go_enter Tryz.func36, Tryz.ntmps36
  go_wp2_with fail
  obtain ⟨h, hb⟩ := three1 w #[.int .i64 3, .string t, .slice Ar nr zr, .int .i64 ck, .string ct, .slice A n c, .int .i64 K, .string cn, .int .i64 cq, .bool cb] #[.int .i64 6, .int .i64 0, .string t, .slice none 0 0, .slice Ar nr zr, .int .i64 ck, .string ct, .slice A n c, .int .i64 K, .string cn, .int .i64 cq, .bool cb] #[.int .i64 6, .int .i64 0, .string t, .slice none 0 0, .slice Ar nr zr, .int .i64 ck, .string ct, .slice A n c, .int .i64 K, .string cn, .int .i64 cq, .bool cb] 52 61 61
  exact bodyPost_ret (revEnd14 _ (w.heap.size + 1) _ _ _ _ _ _ _ _ _ _ _ _ _ rfl h) rfl ⟨by simp [tk], hb⟩
 ·have q1 : (k == 1) = false := by simpa using h1
  have q2 : (k == 2) = false := by simpa using h2
  have q3 : (k == 3) = false := by simpa using h3
  have ht : tk k = 0 := by unfold tk; rw [if_neg h1, if_neg h2, if_neg h3]
  go_enter Tryz.func36, Tryz.ntmps36
  go_wp2_with fail
  obtain ⟨h, hb⟩ := three1 w #[.int .i64 k, .string t, .slice Ar nr zr, .int .i64 ck, .string ct, .slice A n c, .int .i64 K, .string cn, .int .i64 cq, .bool cb] #[.int .i64 0, .int .i64 0, .string t, .slice none 0 0, .slice none 0 0, .int .i64 ck, .string ct, .slice A n c, .int .i64 K, .string cn, .int .i64 cq, .bool cb] #[.int .i64 0, .int .i64 0, .string t, .slice none 0 0, .slice none 0 0, .int .i64 ck, .string ct, .slice A n c, .int .i64 K, .string cn, .int .i64 cq, .bool cb] 52 61 61
  exact bodyPost_ret (revEnd14 _ (w.heap.size + 1) _ _ _ _ _ _ _ _ _ _ _ _ _ rfl h) rfl ⟨by simp, hb⟩
def ofV (k : Int) (t : ByteArray) (ra rb : Value) (ck : Int) (ct : ByteArray) (vc : Value) (K : Int) (cn : ByteArray) (cq : Int) (cb : Bool) : Value :=
 if k = 3 ∨ k = 4 then .agg #[.int .i64 1, .string t, ra, .int .i64 0, .string ⟨#[]⟩, .slice none 0 0, .int .i64 0, .string ⟨#[]⟩, .int .i64 0, .bool false]
 else if k = 5 then .agg #[.int .i64 2, .string t, rb, .int .i64 0, .string ⟨#[]⟩, .slice none 0 0, .int .i64 0, .string ⟨#[]⟩, .int .i64 0, .bool false]
 else if k = 6 then .agg #[.int .i64 3, .string ⟨#[]⟩, .slice none 0 0, .int .i64 ck, .string ct, vc, .int .i64 K, .string cn, .int .i64 cq, .bool cb]
 else .agg #[.int .i64 0, .string ⟨#[]⟩, .slice none 0 0, .int .i64 0, .string ⟨#[]⟩, .slice none 0 0, .int .i64 0, .string ⟨#[]⟩, .int .i64 0, .bool false]
def ofB (k : Int) : Bool := k == 3 || k == 4 || k == 5 || k == 6
set_option maxHeartbeats 4000000 in
theorem rof14_any (k m : Int) (t : ByteArray) (Ab : Option Addr) (nb zb : Nat) (Aa : Option Addr) (na za : Nat) (ck : Int) (ct : ByteArray) (A : Option Addr) (n c : Nat) (K : Int) (cn : ByteArray) (cq : Int) (cb : Bool) (w : World) :
 Calls Tryz.prog 22 #[.agg #[.int .i64 k, .int .i64 m, .string t, .slice Ab nb zb, .slice Aa na za, .int .i64 ck, .string ct, .slice A n c, .int .i64 K, .string cn, .int .i64 cq, .bool cb]] w fun e w' => e = .returned (.tuple #[ofV k t (.slice Aa na za) (.slice Ab nb zb) ck ct (.slice A n c) K cn cq cb, .bool (ofB k)]) ∧ Hid (Below w.heap.size w w') := by
 by_cases h3 : k = 3
 ·subst h3
  go_enter Tryz.func22, Tryz.ntmps22
  go_wp2_with fail
  obtain ⟨h, hb⟩ := two w #[.int .i64 3, .int .i64 m, .string t, .slice Ab nb zb, .slice Aa na za, .int .i64 ck, .string ct, .slice A n c, .int .i64 K, .string cn, .int .i64 cq, .bool cb] #[.int .i64 1, .string t, .slice Aa na za, .int .i64 0, .string ⟨#[]⟩, .slice none 0 0, .int .i64 0, .string ⟨#[]⟩, .int .i64 0, .bool false] 61 52
  exact bodyPost_ret (wEndB rfl _ (w.heap.size + 1) _ _ _ _ _ _ _ _ _ _ _ rfl h) rfl ⟨by simp [ofV, ofB], hb⟩
 by_cases h4 : k = 4
 ·subst h4
  go_enter Tryz.func22, Tryz.ntmps22
  go_wp2_with fail
  obtain ⟨h, hb⟩ := two w #[.int .i64 4, .int .i64 m, .string t, .slice Ab nb zb, .slice Aa na za, .int .i64 ck, .string ct, .slice A n c, .int .i64 K, .string cn, .int .i64 cq, .bool cb] #[.int .i64 1, .string t, .slice Aa na za, .int .i64 0, .string ⟨#[]⟩, .slice none 0 0, .int .i64 0, .string ⟨#[]⟩, .int .i64 0, .bool false] 61 52
  exact bodyPost_ret (wEndB rfl _ (w.heap.size + 1) _ _ _ _ _ _ _ _ _ _ _ rfl h) rfl ⟨by simp [ofV, ofB], hb⟩
 by_cases h5 : k = 5
 ·subst h5
  go_enter Tryz.func22, Tryz.ntmps22
  go_wp2_with fail
  obtain ⟨h, hb⟩ := two w #[.int .i64 5, .int .i64 m, .string t, .slice Ab nb zb, .slice Aa na za, .int .i64 ck, .string ct, .slice A n c, .int .i64 K, .string cn, .int .i64 cq, .bool cb] #[.int .i64 2, .string t, .slice Ab nb zb, .int .i64 0, .string ⟨#[]⟩, .slice none 0 0, .int .i64 0, .string ⟨#[]⟩, .int .i64 0, .bool false] 61 52
  exact bodyPost_ret (wEndB rfl _ (w.heap.size + 1) _ _ _ _ _ _ _ _ _ _ _ rfl h) rfl ⟨by simp [ofV, ofB], hb⟩
 by_cases h6 : k = 6
 ·subst h6
  go_enter Tryz.func22, Tryz.ntmps22
  go_wp2_with fail
  obtain ⟨h, hb⟩ := two w #[.int .i64 6, .int .i64 m, .string t, .slice Ab nb zb, .slice Aa na za, .int .i64 ck, .string ct, .slice A n c, .int .i64 K, .string cn, .int .i64 cq, .bool cb] #[.int .i64 3, .string ⟨#[]⟩, .slice none 0 0, .int .i64 ck, .string ct, .slice A n c, .int .i64 K, .string cn, .int .i64 cq, .bool cb] 61 52
  exact bodyPost_ret (wEndB rfl _ (w.heap.size + 1) _ _ _ _ _ _ _ _ _ _ _ rfl h) rfl ⟨by simp [ofV, ofB], hb⟩
 ·have q3 : (k == 3) = false := by simpa using h3
  have q4 : (k == 4) = false := by simpa using h4
  have q5 : (k == 5) = false := by simpa using h5
  have q6 : (k == 6) = false := by simpa using h6
  have hB : ofB k = false := by unfold ofB; rw [q3, q4, q5, q6]; rfl
  have hV : ofV k t (.slice Aa na za) (.slice Ab nb zb) ck ct (.slice A n c) K cn cq cb = .agg #[.int .i64 0, .string ⟨#[]⟩, .slice none 0 0, .int .i64 0, .string ⟨#[]⟩, .slice none 0 0, .int .i64 0, .string ⟨#[]⟩, .int .i64 0, .bool false] := by unfold ofV; rw [if_neg (by omega), if_neg h5, if_neg h6]
  rw [hB, hV]
  go_enter Tryz.func22, Tryz.ntmps22
  go_wp2_with fail
  obtain ⟨h, hb⟩ := two w #[.int .i64 k, .int .i64 m, .string t, .slice Ab nb zb, .slice Aa na za, .int .i64 ck, .string ct, .slice A n c, .int .i64 K, .string cn, .int .i64 cq, .bool cb] #[.int .i64 0, .string ⟨#[]⟩, .slice none 0 0, .int .i64 0, .string ⟨#[]⟩, .slice none 0 0, .int .i64 0, .string ⟨#[]⟩, .int .i64 0, .bool false] 61 52
  exact bodyPost_ret (wEndB rfl _ (w.heap.size + 1) _ _ _ _ _ _ _ _ _ _ _ rfl h) rfl ⟨rfl, hb⟩
end Go.Proofs.YtlnbhlgkehenpaaGreatDoor
namespace Go.Proofs.YtlnbhlgkehenpaaGreatDoor
open Go.RowKit Dg
set_option maxRecDepth 100000
def Wd.told (x : Wd) : Ev := ⟨tk x.k, 0, x.t, if x.k = 2 then x.R else [], if x.k = 2 then [] else x.R, x.ck, x.ct, x.L, x.K, x.cl⟩
def toldV (r : Gr) : Value := .agg #[.int .i64 (tk r.x.k), .int .i64 0, .string r.x.t, if r.x.k = 2 then .slice r.Ar r.nr r.zr else .slice none 0 0, if r.x.k = 2 then .slice none 0 0 else .slice r.Ar r.nr r.zr, .int .i64 r.x.ck, .string r.x.ct, .slice r.A r.n r.c, .int .i64 r.x.K, .string r.x.cl.nm, .int .i64 r.x.cl.k, .bool r.x.cl.no]
theorem toldV_at {w : World} {r : Gr} (h : r.ok w) : EvAt w (toldV r) r.x.told := by
 have h1 : (r.nr : Int) ≤ 9223372036854775807 := by have := h.b.2.1; omega
 by_cases h2 : r.x.k = 2
 ·refine ⟨r.Ar, r.nr, r.zr, none, 0, 0, r.A, r.n, r.c, ?_, ?_, ?_, h.c.1, h.c.2.1, h.c.2.2⟩
  ·simp [toldV, Wd.told, h2]
  ·simp only [Wd.told, h2, if_true]; exact ⟨h.b.1, h1, h.b.2.2⟩
  ·simp only [Wd.told, h2, if_true]; exact ⟨rfl, by omega, fun h => absurd rfl h⟩
 ·refine ⟨none, 0, 0, r.Ar, r.nr, r.zr, r.A, r.n, r.c, ?_, ?_, ?_, h.c.1, h.c.2.1, h.c.2.2⟩
  ·simp [toldV, Wd.told, h2]
  ·simp only [Wd.told, h2, if_false]; exact ⟨rfl, by omega, fun h => absurd rfl h⟩
  ·simp only [Wd.told, h2, if_false]; exact ⟨h.b.1, h1, h.b.2.2⟩
theorem toldG_any (r : Gr) (w : World) : Calls Tryz.prog 34 #[.agg #[.int .i64 r.x.k, .string r.x.t, .slice r.Ar r.nr r.zr, .int .i64 r.x.ck, .string r.x.ct, .slice r.A r.n r.c, .int .i64 r.x.K, .string r.x.cl.nm, .int .i64 r.x.cl.k, .bool r.x.cl.no]] w fun e w' => e = .returned (toldV r) ∧ Hid (Below w.heap.size w w') :=
 told_any r.x.k r.x.t r.Ar r.nr r.zr r.x.ck r.x.ct r.A r.n r.c r.x.K r.x.cl.nm r.x.cl.k r.x.cl.no w
structure GIn (w : World) (A : Option Addr) (n : Nat) (T : List Gr) : Prop where
 len : T.length = n
 few : n ≤ 1000
 row : GRow w A T
 ok : ∀ r ∈ T, r.ok w
theorem GIn.below {w w' : World} {A : Option Addr} {n : Nat} {T : List Gr} (h : GIn w A n T) (hb : Below w.heap.size w w') : GIn w' A n T := ⟨h.len, h.few, h.row.below hb, fun r hr => (h.ok r hr).below hb⟩
theorem GIn.at {w : World} {A : Option Addr} {n : Nat} {T : List Gr} (h : GIn w A n T) {k : Nat} (hk : k < T.length) : ∃ b off, A = some ⟨b, off, none⟩ ∧ ∀ j, j < 10 → w.cell? ⟨b, off + k * 10 + j, none⟩ = T[k].row[j]? := by
 obtain ⟨b, off, e, hc⟩ := h.row (by intro e; rw [e] at hk; simp at hk)
 exact ⟨b, off, e, hc k hk⟩
theorem sc_fit (M : List Cl) (k : Nat) (h : Sc M k) : ∀ x ∈ M, x.nm.size ≤ 32 ∧ 1 ≤ x.k ∧ x.k ≤ 4 ∧ x.fit := fun x hx => by
 obtain ⟨i, hi, rfl⟩ := List.getElem_of_mem hx
 obtain ⟨q1, q2, q3⟩ := h.cols i hi
 have hs := nameF_size q1
 have hk : 1 ≤ M[i].k ∧ M[i].k ≤ 4 := by simpa [kindF] using q3
 exact ⟨hs.2, hk.1, hk.2, by omega, by omega, by omega⟩
theorem key_sc {M : List Cl} {k : Nat} (hg : Sc M k) (R : List Vl) : (beginsF M R k && (R.take k).all Vl.may) = keyOk M R k := by
 unfold beginsF keyOk
 by_cases h : k ≤ R.length
 ·rw [fits_kinds k hg.keys.2.1 h hg.none]; simp [h]
 ·simp [h]
theorem row_sc (x : Ev) (T : List Tb) (hk : x.k = 3 ∨ x.k = 4 ∨ x.k = 5) (hG : plF T x.t = true → ∃ k : Nat, tfK T x.t = (k : Int) ∧ Sc (tfL T x.t) k) :
 rowG6 x T = if plF T x.t = false then 7 else if fitsR x T = false then 9 else if (plainF x && (if x.k = 5 then x.A.length else x.B.length) == 0 && x.n == 0) = true then 0 else 1 := by
 unfold rowG6
 cases hp : plF T x.t with
 | false => rfl
 | true =>
   obtain ⟨k, hk1, hk2⟩ := hG hp
   have hf : rowFits x T = fitsR x T := by
    unfold rowFits fitsR
    by_cases h5 : x.k = 5
    ·rw [if_pos h5, if_pos h5, hk1]
     unfold isKeyF
     rw [Int.toNat_natCast, key_sc hk2]
    ·rw [if_neg h5, if_neg h5]
   have he : evF x (ownE x) = (plainF x && (if x.k = 5 then x.A.length else x.B.length) == 0 && x.n == 0) := by
    unfold evF ownE plainF chG chF
    by_cases h5 : x.k = 5
    ·simp only [if_pos h5, vs_nil, vsF_refl, beq_self_eq_true, Bool.true_and]
     cases (x.n == 0) <;> cases (x.A.length == 0) <;> simp
    ·simp only [if_neg h5, vs_nil, vsF_refl, beq_self_eq_true, Bool.true_and]
     cases (x.n == 0) <;> cases (x.B.length == 0) <;> simp
   rw [hf, he]
theorem may_sc (x : Ev) (T : List Tb) (hG : plF T x.t = true → ∃ k : Nat, tfK T x.t = (k : Int) ∧ Sc (tfL T x.t) k) : mayP x T = mayR x T := by
 unfold mayP mayR
 by_cases h1 : x.k = 1 ∨ x.k = 2 ∨ x.k = 7 ∨ x.k = 8 ∨ x.k = 9 ∨ x.k = 10
 ·rw [if_pos h1, if_neg (by omega), if_neg (by omega), if_pos h1, num_one]
 ·rw [if_neg h1]
  by_cases h3 : x.k = 3 ∨ x.k = 4 ∨ x.k = 5
  ·rw [if_pos h3, if_pos h3, row_sc x T h3 hG]
  ·rw [if_neg h3, if_neg h3]
   by_cases h6 : x.k = 6
   ·rw [if_pos h6, if_pos h6, alt_one x h6]
   ·rw [if_neg h6, if_neg h6, if_neg h1]
theorem rt_found {T : List Tb} (h : RtD (tds T)) (s : ByteArray) : plF T s = true → ∃ k : Nat, tfK T s = (k : Int) ∧ Sc (tfL T s) k := fun hp => by
 have hl := plF_lt hp
 obtain ⟨h1, h2⟩ := tfL_yes hp hl
 obtain ⟨_, hm⟩ := h.2 (T[lbN T s]'hl).td (List.mem_map_of_mem (List.getElem_mem hl))
 obtain ⟨k, hk, hs⟩ := sc_of_may hm
 exact ⟨k, by rw [h2]; exact hk, by rw [h1]; exact hs⟩
def put12 (W : World) (g : Nat) (u0 u1 u2 u3 u4 u5 u6 u7 u8 u9 u10 u11 : Value) : World := ((((((((((((W.setCell ⟨g, 0, none⟩ u0).setCell ⟨g, 1, none⟩ u1).setCell ⟨g, 2, none⟩ u2).setCell ⟨g, 3, none⟩ u3).setCell ⟨g, 4, none⟩ u4).setCell ⟨g, 5, none⟩ u5).setCell ⟨g, 6, none⟩ u6).setCell ⟨g, 7, none⟩ u7).setCell ⟨g, 8, none⟩ u8).setCell ⟨g, 9, none⟩ u9).setCell ⟨g, 10, none⟩ u10).setCell ⟨g, 11, none⟩ u11)
theorem put12_has {W : World} {g : Nat} {t : TypeId} {a0 a1 a2 a3 a4 a5 a6 a7 a8 a9 a10 a11 : Value} (h : Has W g t #[a0, a1, a2, a3, a4, a5, a6, a7, a8, a9, a10, a11]) (u0 u1 u2 u3 u4 u5 u6 u7 u8 u9 u10 u11 : Value) : Has (put12 W g u0 u1 u2 u3 u4 u5 u6 u7 u8 u9 u10 u11) g t #[u0, u1, u2, u3, u4, u5, u6, u7, u8, u9, u10, u11] := by
 have h0 : Has (W.setCell ⟨g, 0, none⟩ u0) g t #[u0, a1, a2, a3, a4, a5, a6, a7, a8, a9, a10, a11] := h.put 0 u0
 have h1 : Has ((W.setCell ⟨g, 0, none⟩ u0).setCell ⟨g, 1, none⟩ u1) g t #[u0, u1, a2, a3, a4, a5, a6, a7, a8, a9, a10, a11] := h0.put 1 u1
 have h2 : Has (((W.setCell ⟨g, 0, none⟩ u0).setCell ⟨g, 1, none⟩ u1).setCell ⟨g, 2, none⟩ u2) g t #[u0, u1, u2, a3, a4, a5, a6, a7, a8, a9, a10, a11] := h1.put 2 u2
 have h3 : Has ((((W.setCell ⟨g, 0, none⟩ u0).setCell ⟨g, 1, none⟩ u1).setCell ⟨g, 2, none⟩ u2).setCell ⟨g, 3, none⟩ u3) g t #[u0, u1, u2, u3, a4, a5, a6, a7, a8, a9, a10, a11] := h2.put 3 u3
 have h4 : Has (((((W.setCell ⟨g, 0, none⟩ u0).setCell ⟨g, 1, none⟩ u1).setCell ⟨g, 2, none⟩ u2).setCell ⟨g, 3, none⟩ u3).setCell ⟨g, 4, none⟩ u4) g t #[u0, u1, u2, u3, u4, a5, a6, a7, a8, a9, a10, a11] := h3.put 4 u4
 have h5 : Has ((((((W.setCell ⟨g, 0, none⟩ u0).setCell ⟨g, 1, none⟩ u1).setCell ⟨g, 2, none⟩ u2).setCell ⟨g, 3, none⟩ u3).setCell ⟨g, 4, none⟩ u4).setCell ⟨g, 5, none⟩ u5) g t #[u0, u1, u2, u3, u4, u5, a6, a7, a8, a9, a10, a11] := h4.put 5 u5
 have h6 : Has (((((((W.setCell ⟨g, 0, none⟩ u0).setCell ⟨g, 1, none⟩ u1).setCell ⟨g, 2, none⟩ u2).setCell ⟨g, 3, none⟩ u3).setCell ⟨g, 4, none⟩ u4).setCell ⟨g, 5, none⟩ u5).setCell ⟨g, 6, none⟩ u6) g t #[u0, u1, u2, u3, u4, u5, u6, a7, a8, a9, a10, a11] := h5.put 6 u6
 have h7 : Has ((((((((W.setCell ⟨g, 0, none⟩ u0).setCell ⟨g, 1, none⟩ u1).setCell ⟨g, 2, none⟩ u2).setCell ⟨g, 3, none⟩ u3).setCell ⟨g, 4, none⟩ u4).setCell ⟨g, 5, none⟩ u5).setCell ⟨g, 6, none⟩ u6).setCell ⟨g, 7, none⟩ u7) g t #[u0, u1, u2, u3, u4, u5, u6, u7, a8, a9, a10, a11] := h6.put 7 u7
 have h8 : Has (((((((((W.setCell ⟨g, 0, none⟩ u0).setCell ⟨g, 1, none⟩ u1).setCell ⟨g, 2, none⟩ u2).setCell ⟨g, 3, none⟩ u3).setCell ⟨g, 4, none⟩ u4).setCell ⟨g, 5, none⟩ u5).setCell ⟨g, 6, none⟩ u6).setCell ⟨g, 7, none⟩ u7).setCell ⟨g, 8, none⟩ u8) g t #[u0, u1, u2, u3, u4, u5, u6, u7, u8, a9, a10, a11] := h7.put 8 u8
 have h9 : Has ((((((((((W.setCell ⟨g, 0, none⟩ u0).setCell ⟨g, 1, none⟩ u1).setCell ⟨g, 2, none⟩ u2).setCell ⟨g, 3, none⟩ u3).setCell ⟨g, 4, none⟩ u4).setCell ⟨g, 5, none⟩ u5).setCell ⟨g, 6, none⟩ u6).setCell ⟨g, 7, none⟩ u7).setCell ⟨g, 8, none⟩ u8).setCell ⟨g, 9, none⟩ u9) g t #[u0, u1, u2, u3, u4, u5, u6, u7, u8, u9, a10, a11] := h8.put 9 u9
 have h10 : Has (((((((((((W.setCell ⟨g, 0, none⟩ u0).setCell ⟨g, 1, none⟩ u1).setCell ⟨g, 2, none⟩ u2).setCell ⟨g, 3, none⟩ u3).setCell ⟨g, 4, none⟩ u4).setCell ⟨g, 5, none⟩ u5).setCell ⟨g, 6, none⟩ u6).setCell ⟨g, 7, none⟩ u7).setCell ⟨g, 8, none⟩ u8).setCell ⟨g, 9, none⟩ u9).setCell ⟨g, 10, none⟩ u10) g t #[u0, u1, u2, u3, u4, u5, u6, u7, u8, u9, u10, a11] := h9.put 10 u10
 have h11 : Has ((((((((((((W.setCell ⟨g, 0, none⟩ u0).setCell ⟨g, 1, none⟩ u1).setCell ⟨g, 2, none⟩ u2).setCell ⟨g, 3, none⟩ u3).setCell ⟨g, 4, none⟩ u4).setCell ⟨g, 5, none⟩ u5).setCell ⟨g, 6, none⟩ u6).setCell ⟨g, 7, none⟩ u7).setCell ⟨g, 8, none⟩ u8).setCell ⟨g, 9, none⟩ u9).setCell ⟨g, 10, none⟩ u10).setCell ⟨g, 11, none⟩ u11) g t #[u0, u1, u2, u3, u4, u5, u6, u7, u8, u9, u10, u11] := h10.put 11 u11
 exact h11
theorem put12_tur (W : World) (g : Nat) (u0 u1 u2 u3 u4 u5 u6 u7 u8 u9 u10 u11 : Value) : Tur [g] W (put12 W g u0 u1 u2 u3 u4 u5 u6 u7 u8 u9 u10 u11) := ((((((((((((Tur.refl [g] W).trans (Tur.setCell _ (p := ⟨g, 0, none⟩) (by simp) u0) (Fre.refl _ _)).trans (Tur.setCell _ (p := ⟨g, 1, none⟩) (by simp) u1) (Fre.refl _ _)).trans (Tur.setCell _ (p := ⟨g, 2, none⟩) (by simp) u2) (Fre.refl _ _)).trans (Tur.setCell _ (p := ⟨g, 3, none⟩) (by simp) u3) (Fre.refl _ _)).trans (Tur.setCell _ (p := ⟨g, 4, none⟩) (by simp) u4) (Fre.refl _ _)).trans (Tur.setCell _ (p := ⟨g, 5, none⟩) (by simp) u5) (Fre.refl _ _)).trans (Tur.setCell _ (p := ⟨g, 6, none⟩) (by simp) u6) (Fre.refl _ _)).trans (Tur.setCell _ (p := ⟨g, 7, none⟩) (by simp) u7) (Fre.refl _ _)).trans (Tur.setCell _ (p := ⟨g, 8, none⟩) (by simp) u8) (Fre.refl _ _)).trans (Tur.setCell _ (p := ⟨g, 9, none⟩) (by simp) u9) (Fre.refl _ _)).trans (Tur.setCell _ (p := ⟨g, 10, none⟩) (by simp) u10) (Fre.refl _ _)).trans (Tur.setCell _ (p := ⟨g, 11, none⟩) (by simp) u11) (Fre.refl _ _)
theorem VRow.tur {X : List Nat} {w w' : World} {A : Option Addr} {L : List Vl} (h : VRow w A L) (ht : Tur X w w') (ho : ∀ a, A = some a → a.block ∉ X) : VRow w' A L := fun hne => by
 obtain ⟨b, off, e, hc⟩ := h hne
 have hb := ho _ e
 have k : ∀ (i : Nat) (v : Value), w.cell? ⟨b, i, none⟩ = some v → w'.cell? ⟨b, i, none⟩ = some v := fun i v h => (World.cell?_of_block (ht.block b (World.block_lt_of_cell? w _ h) hb)).trans h
 exact ⟨b, off, e, fun i hi => ⟨k _ _ (hc i hi).1, k _ _ (hc i hi).2.1, k _ _ (hc i hi).2.2⟩⟩
theorem evEnd (w' : World) (g : Nat) (u0 u1 u2 u3 u4 u5 u6 u7 u8 u9 u10 u11 : Value) (tmps : Array Value) (hp : tmps.getD 4 undef = .pointer (some ⟨g, 0, none⟩)) (hh : Has w' g 61 #[u0, u1, u2, u3, u4, u5, u6, u7, u8, u9, u10, u11]) :
 (results Tryz.f23 tmps).run Tryz.prog w' = .ok (.agg #[u0, u1, u2, u3, u4, u5, u6, u7, u8, u9, u10, u11]) w' :=
 results_cell_row rfl _ _ g 61 #[u0, u1, u2, u3, u4, u5, u6, u7, u8, u9, u10, u11] (0, 0) _ hp hh Tryz.underlying61 rfl (by kernel_rfl)
theorem ownV_blk {B : Nat} {w : World} {v : Value} {L : List Vl} (h : OwnV B w v L) : ∃ A n c, v = .slice A n c ∧ Hid (L.length = n) ∧ n ≤ c ∧ c ≤ maxLen ∧ Hid (VRow w A L) ∧ Hid (∀ a, A = some a → B ≤ a.block ∧ a.block < w.heap.size) ∧ Hid (A = none ∨ ∃ b off, A = some ⟨b, off, none⟩) := by
 rcases h.2 with ⟨hv, hn⟩ | ⟨g, cap, cur, hv, hg, hh, hc, hcm, hsz, ht⟩
 ·obtain rfl := List.eq_nil_of_length_eq_zero hn
  exact ⟨none, 0, 0, hv, rfl, Nat.le_refl _, Nat.zero_le _, (fun h => absurd rfl h), (fun a e => by cases e), .inl rfl⟩
 ·obtain ⟨A, c, e, h1, h2, h3, h4⟩ := ownV_row h
  rw [hv] at e
  injection e with e1 e2 e3
  subst e1 e3
  exact ⟨_, _, _, hv, rfl, hc, hcm, h3, (fun a e => by injection e with e; subst e; exact ⟨hg, Has.lt (t := 115) (cs := cur) hh⟩), .inr ⟨g, 0, rfl⟩⟩
theorem keepW3 {w W : World} {a : Addr} {v : Value} (hb : Below w.heap.size w W) (h : w.cell? a = some v) : W.cell? a = some v := (hb.cell (World.block_lt_of_cell? _ _ h)).trans h
structure Sv (w W : World) (g q : Nat) (e : Array Value) (s0 s1 : Value) (o : Array Value) : Prop where
 he : Has W w.heap.size 61 e
 hr : Has W (w.heap.size + 1) 61 #[.int .i64 0, .int .i64 0, .string ⟨#[]⟩, .slice none 0 0, .slice none 0 0, .int .i64 0, .string ⟨#[]⟩, .slice none 0 0, .int .i64 0, .string ⟨#[]⟩, .int .i64 0, .bool false]
 hs : Has W g 39 #[s0, s1]
 ho : Has W q 61 o
 bel : Below w.heap.size w W
 lo : w.heap.size + 1 < g ∧ g < q
theorem Sv.below {w W W' : World} {g q : Nat} {e : Array Value} {s0 s1 : Value} {o : Array Value} (h : Sv w W g q e s0 s1 o) (hb : Below W.heap.size W W') : Sv w W' g q e s0 s1 o :=
 ⟨h.he.below hb h.he.lt, h.hr.below hb h.hr.lt, h.hs.below hb h.hs.lt, h.ho.below hb h.ho.lt, h.bel.trans (hb.mono h.bel.size), h.lo⟩
theorem Sv.put {w W : World} {g q : Nat} {e : Array Value} {s0 s1 : Value} {o : Array Value} (h : Sv w W g q e s0 s1 o) (j : Nat) (u : Value) : Sv w (W.setCell ⟨q, j, none⟩ u) g q e s0 s1 (o.setIfInBounds j u) :=
 ⟨h.he.far (p := ⟨q, j, none⟩) (by have := h.lo; show w.heap.size ≠ q; omega) u, h.hr.far (p := ⟨q, j, none⟩) (by have := h.lo; show w.heap.size + 1 ≠ q; omega) u, h.hs.far (p := ⟨q, j, none⟩) (by have := h.lo; show g ≠ q; omega) u, h.ho.put j u, h.bel.setCell (p := ⟨q, j, none⟩) (by have := h.lo; show w.heap.size ≤ q; omega) u, h.lo⟩
theorem Sv.put12 {w W : World} {g q : Nat} {e : Array Value} {s0 s1 : Value} {a0 a1 a2 a3 a4 a5 a6 a7 a8 a9 a10 a11 : Value} (h : Sv w W g q e s0 s1 #[a0, a1, a2, a3, a4, a5, a6, a7, a8, a9, a10, a11]) (u0 u1 u2 u3 u4 u5 u6 u7 u8 u9 u10 u11 : Value) : Sv w (put12 W q u0 u1 u2 u3 u4 u5 u6 u7 u8 u9 u10 u11) g q e s0 s1 #[u0, u1, u2, u3, u4, u5, u6, u7, u8, u9, u10, u11] := by
 have ht := put12_tur W q u0 u1 u2 u3 u4 u5 u6 u7 u8 u9 u10 u11
 have hl := h.lo
 exact ⟨h.he.tur ht (by simp; omega), h.hr.tur ht (by simp; omega), h.hs.tur ht (by simp; omega), put12_has h.ho _ _ _ _ _ _ _ _ _ _ _ _, (Tur.of_below (X := [q]) h.bel).trans ht (Fre.refl _ _) |>.below (B := w.heap.size) (fun k hk => by simp at hk; omega) (Nat.le_refl _), hl⟩
structure Su (w W : World) (g : Nat) (e : Array Value) (s0 s1 : Value) : Prop where
 he : Has W w.heap.size 61 e
 hr : Has W (w.heap.size + 1) 61 #[.int .i64 0, .int .i64 0, .string ⟨#[]⟩, .slice none 0 0, .slice none 0 0, .int .i64 0, .string ⟨#[]⟩, .slice none 0 0, .int .i64 0, .string ⟨#[]⟩, .int .i64 0, .bool false]
 hs : Has W g 39 #[s0, s1]
 bel : Below w.heap.size w W
 lo : w.heap.size + 1 < g
theorem Su.out {w W : World} {g : Nat} {e : Array Value} {s0 s1 : Value} (h : Su w W g e s0 s1) (o : Array Value) : Sv w (W.alloc (.cells o 61)) g W.heap.size e s0 s1 o :=
 ⟨h.he.alloc _, h.hr.alloc _, h.hs.alloc _, Has.new _ _ _, h.bel.alloc h.bel.size _, ⟨h.lo, h.hs.lt⟩⟩
theorem Su.pute {w W : World} {g : Nat} {e : Array Value} {s0 s1 : Value} (h : Su w W g e s0 s1) (j : Nat) (u : Value) : Su w (W.setCell ⟨w.heap.size, j, none⟩ u) g (e.setIfInBounds j u) s0 s1 :=
 ⟨h.he.put j u, h.hr.far (p := ⟨w.heap.size, j, none⟩) (by show w.heap.size + 1 ≠ w.heap.size; omega) u, h.hs.far (p := ⟨w.heap.size, j, none⟩) (by have := h.lo; show g ≠ w.heap.size; omega) u, h.bel.setCell (p := ⟨w.heap.size, j, none⟩) (Nat.le_refl _) u, h.lo⟩
theorem Su.puts {w W : World} {g : Nat} {e : Array Value} {s0 s1 : Value} (h : Su w W g e s0 s1) (u0 u1 : Value) : Su w ((W.setCell ⟨g, 0, none⟩ u0).setCell ⟨g, 1, none⟩ u1) g e u0 u1 :=
 ⟨(h.he.far (p := ⟨g, 0, none⟩) (by have := h.lo; show w.heap.size ≠ g; omega) u0).far (p := ⟨g, 1, none⟩) (by have := h.lo; show w.heap.size ≠ g; omega) u1, (h.hr.far (p := ⟨g, 0, none⟩) (by have := h.lo; show w.heap.size + 1 ≠ g; omega) u0).far (p := ⟨g, 1, none⟩) (by have := h.lo; show w.heap.size + 1 ≠ g; omega) u1, (h.hs.put 0 u0).put 1 u1, (h.bel.setCell (p := ⟨g, 0, none⟩) (by have := h.lo; show w.heap.size ≤ g; omega) u0).setCell (p := ⟨g, 1, none⟩) (by have := h.lo; show w.heap.size ≤ g; omega) u1, h.lo⟩
theorem evw_row {P : World} (k n : Int) (t : ByteArray) (Bl Al : List Vl) (Ab : Option Addr) (nb zb : Nat) (Aa : Option Addr) (na za : Nat) (hB : Bl.length = nb ∧ nb ≤ zb ∧ VRow P Ab Bl ∧ ∀ y ∈ Bl, y.fit) (hA : Al.length = na ∧ na ≤ za ∧ VRow P Aa Al ∧ ∀ y ∈ Al, y.fit) (h1 : (nb : Int) ≤ 9223372036854775807) (h2 : (na : Int) ≤ 9223372036854775807) :
 EvW P ⟨k, n, t, Bl, Al, 0, ⟨#[]⟩, [], 0, ⟨⟨#[]⟩, 0, false⟩⟩ Ab nb zb Aa na za none 0 0 :=
 ⟨⟨_, _, _, _, _, _, _, _, _, rfl, ⟨hB.1, h1, hB.2.2.1⟩, ⟨hA.1, h2, hA.2.2.1⟩, rfl, by omega, fun h => absurd rfl h⟩, hB, hA, h1, h2, ⟨rfl, by omega, (fun h => absurd rfl h), (fun y hy => by cases hy)⟩, by show (0 : Nat) ≤ _; omega, ⟨by show (0 : Nat) ≤ _; omega, by show _ ≤ (0 : Int); omega, by show (0 : Int) ≤ _; omega⟩⟩
theorem nilB (P : World) : ([] : List Vl).length = 0 ∧ 0 ≤ 0 ∧ VRow P none [] ∧ ∀ y ∈ ([] : List Vl), y.fit := ⟨rfl, Nat.le_refl _, (fun h => absurd rfl h), (fun y hy => by cases hy)⟩
theorem evw_chg {P : World} (ck : Int) (ct : ByteArray) (A : Option Addr) (n c : Nat) (L : List Cl) (K : Int) (cl : Cl) (hl : L.length = n ∧ n ≤ 4398046511104 ∧ CRow P A L ∧ ∀ y ∈ L, y.fit) (hct : ct.size ≤ 140737488355328) (hcl : cl.fit) :
 EvW P ⟨6, 0, ⟨#[]⟩, [], [], ck, ct, L, K, cl⟩ none 0 0 none 0 0 A n c :=
 ⟨⟨_, _, _, _, _, _, _, _, _, rfl, ⟨rfl, by omega, fun h => absurd rfl h⟩, ⟨rfl, by omega, fun h => absurd rfl h⟩, hl.1, hl.2.1, hl.2.2.1⟩, nilB P, nilB P, by omega, by omega, hl, hct, hcl⟩
end Go.Proofs.YtlnbhlgkehenpaaGreatDoor
namespace Go.Proofs.YtlnbhlgkehenpaaGreatDoor
open Go.RowKit Go.Maps Dg
set_option maxRecDepth 100000
structure Gr.full (w : World) (r : Gr) : Prop where
 a : r.x.R.length = r.nr ∧ r.nr ≤ r.zr ∧ r.nr ≤ 4398046511104 ∧ VRow w r.Ar r.x.R ∧ ∀ y ∈ r.x.R, y.fit
 c : r.x.L.length = r.n ∧ r.n ≤ 4398046511104 ∧ CRow w r.A r.x.L ∧ ∀ y ∈ r.x.L, y.fit
 ct : r.x.ct.size ≤ 140737488355328
 cl : r.x.cl.fit
 cc : r.n ≤ r.c ∧ r.c ≤ maxLen ∧ (r.A = none → r.c = 0)
theorem Gr.full.below {w w' : World} {r : Gr} (h : r.full w) (hb : Below w.heap.size w w') : r.full w' :=
 ⟨⟨h.a.1, h.a.2.1, h.a.2.2.1, h.a.2.2.2.1.below hb, h.a.2.2.2.2⟩, ⟨h.c.1, h.c.2.1, h.c.2.2.1.below hb, h.c.2.2.2⟩, h.ct, h.cl, h.cc⟩
theorem Gr.full.ok {w : World} {r : Gr} (h : r.full w) : r.ok w := ⟨⟨h.a.1, h.a.2.2.1, h.a.2.2.2.1⟩, ⟨h.c.1, h.c.2.1, h.c.2.2.1⟩⟩
def Gr.bS (r : Gr) : Option Addr × Nat × Nat := if r.x.k = 2 then (r.Ar, r.nr, r.zr) else (none, 0, 0)
def Gr.aS (r : Gr) : Option Addr × Nat × Nat := if r.x.k = 2 then (none, 0, 0) else (r.Ar, r.nr, r.zr)
def toldW (r : Gr) : Value := .agg #[.int .i64 r.x.told.k, .int .i64 r.x.told.n, .string r.x.told.t, .slice r.bS.1 r.bS.2.1 r.bS.2.2, .slice r.aS.1 r.aS.2.1 r.aS.2.2, .int .i64 r.x.told.ck, .string r.x.told.ct, .slice r.A r.n r.c, .int .i64 r.x.told.K, .string r.x.told.cl.nm, .int .i64 r.x.told.cl.k, .bool r.x.told.cl.no]
theorem toldV_eq (r : Gr) : toldV r = toldW r := by
 unfold toldV toldW Gr.bS Gr.aS Wd.told
 by_cases h : r.x.k = 2 <;> simp [h]
theorem toldW_ev {w : World} {r : Gr} (h : r.full w) : EvW w r.x.told r.bS.1 r.bS.2.1 r.bS.2.2 r.aS.1 r.aS.2.1 r.aS.2.2 r.A r.n r.c := by
 have hat := toldV_at h.ok
 rw [toldV_eq] at hat
 have hz : ([] : List Vl).length = 0 ∧ 0 ≤ 0 ∧ VRow w none [] ∧ ∀ y ∈ ([] : List Vl), y.fit := ⟨rfl, Nat.le_refl _, fun h => absurd rfl h, fun y hy => by cases hy⟩
 have hr : r.x.R.length = r.nr ∧ r.nr ≤ r.zr ∧ VRow w r.Ar r.x.R ∧ ∀ y ∈ r.x.R, y.fit := ⟨h.a.1, h.a.2.1, h.a.2.2.2⟩
 have hn := h.a.2.2.1
 by_cases h2 : r.x.k = 2
 ·refine ⟨hat, ?_, ?_, ?_, ?_, h.c, h.ct, h.cl⟩
  ·unfold Gr.bS Wd.told; simp only [h2, if_true]; exact hr
  ·unfold Gr.aS Wd.told; simp only [h2, if_true]; exact hz
  ·unfold Gr.bS; simp only [h2, if_true]; omega
  ·unfold Gr.aS; simp only [h2, if_true]; omega
 ·refine ⟨hat, ?_, ?_, ?_, ?_, h.c, h.ct, h.cl⟩
  ·unfold Gr.bS Wd.told; simp only [h2, if_false]; exact hz
  ·unfold Gr.aS Wd.told; simp only [h2, if_false]; exact hr
  ·unfold Gr.bS; simp only [h2, if_false]; omega
  ·unfold Gr.aS; simp only [h2, if_false]; omega
theorem evEndE {fn : Func} {p u : Tmp} (h : fn.results = #[.cell p 61, .tmp u]) (w' : World) (g : Nat) (u0 u1 u2 u3 u4 u5 u6 u7 u8 u9 u10 u11 : Value) (tmps : Array Value) (hp : tmps.getD p undef = .pointer (some ⟨g, 0, none⟩)) (hh : Has w' g 61 #[u0, u1, u2, u3, u4, u5, u6, u7, u8, u9, u10, u11]) :
 (results fn tmps).run Tryz.prog w' = .ok (.tuple #[.agg #[u0, u1, u2, u3, u4, u5, u6, u7, u8, u9, u10, u11], tmps.getD u undef]) w' := by
 rw [results_cell_tmp h, hp]
 simp only [asAddr, Sem.run_pure, Result.andThen_ok]
 rw [run_loadVar_row w' g 61 61 #[u0, u1, u2, u3, u4, u5, u6, u7, u8, u9, u10, u11] (0, 0) _ hh Tryz.underlying61 rfl (by kernel_rfl)]
 rfl
set_option maxHeartbeats 16000000 in
theorem given1_any (gb : Nat) (Aw : Option Addr) (nw cw : Nat) (X : List Gr) (i : Nat) (At : Option Addr) (nt ctt : Nat) (T : List Tb) (w : World) (hg : Has w gb 23 #[.slice Aw nw cw]) (hn : X.length = nw) (hr : GRow w Aw X) (hf : ∀ r ∈ X, r.full w) (hi : i < X.length) (hb63 : nw ≤ 4398046511104) (hT : TbW w At nt ctt T) (hTb : Tabs w) :
 Calls Tryz.prog 33 #[.int .i64 i, .slice At nt ctt, .pointer (some ⟨gb, 0, none⟩)] w fun e w' => e = .returned (.tuple #[toldW X[i], .int .i64 (mayP X[i].x.told T)]) ∧ Hid (Below w.heap.size w w') := by
 have hb1 : Below w.heap.size w (w.alloc (.cells #[.int .i64 0, .int .i64 0, .string ⟨#[]⟩, .slice none 0 0, .slice none 0 0, .int .i64 0, .string ⟨#[]⟩, .slice none 0 0, .int .i64 0, .string ⟨#[]⟩, .int .i64 0, .bool false] 61)) := (Below.refl _ w).alloc (Nat.le_refl _) _
 have HR1 := Lib.hid (Has.new w 61 #[.int .i64 0, .int .i64 0, .string ⟨#[]⟩, .slice none 0 0, .slice none 0 0, .int .i64 0, .string ⟨#[]⟩, .slice none 0 0, .int .i64 0, .string ⟨#[]⟩, .int .i64 0, .bool false])
 have HG1 := Lib.hid (hg.below hb1 hg.lt)
 have HB1 := Lib.hid hb1
 have hkl := hi
 obtain ⟨b, off, rfl, hcc⟩ := (hr.below hb1) (by intro e; rw [e] at hkl; simp at hkl)
 have hc := hcc i hkl
 have hfr := hf _ (List.getElem_mem hkl)
 have HM := Lib.hid (fun (W : World) (hb : Below w.heap.size w W) => emay_any X[i].x.told X[i].bS.1 X[i].bS.2.1 X[i].bS.2.2 X[i].aS.1 X[i].aS.2.1 X[i].aS.2.2 X[i].A X[i].n X[i].c At nt ctt T W (toldW_ev (hfr.below hb)) (hT.below hb) (hTb.below hb))
 have HTO := Lib.hid (fun W => toldG_any X[i] W)
 have hiz : (i : Int) < (nw : Int) := by omega
 clear hcc hfr hr hf hT hTb hg hb1
 generalize mayP X[i].x.told T = res at *
 simp only [toldV_eq] at HTO
 unfold toldW at HTO ⊢
 generalize X[i].bS = bS at *
 generalize X[i].aS = aS at *
 obtain ⟨Ab, nb, zb⟩ := bS
 obtain ⟨Aa, na, za⟩ := aS
 have e0 : X[i].x.told.n = 0 := rfl
 have e1 : X[i].x.told.t = X[i].x.t := rfl
 have e2 : X[i].x.told.ck = X[i].x.ck := rfl
 have e3 : X[i].x.told.ct = X[i].x.ct := rfl
 have e4 : X[i].x.told.K = X[i].x.K := rfl
 have e5 : X[i].x.told.cl = X[i].x.cl := rfl
 rw [e0, e1, e2, e3, e4, e5] at HTO HM ⊢
 clear e0 e1 e2 e3 e4 e5
 generalize X[i].x.told.k = ek at *
 generalize X[i] = r at *
 obtain ⟨⟨k, t, R, ck, ct, L, K, ⟨cn, cq, cb⟩⟩, Ar, nr, zr, A, n, c⟩ := r
 dsimp only at HTO HM ⊢
 have x0 : (w.alloc (.cells #[.int .i64 0, .int .i64 0, .string ⟨#[]⟩, .slice none 0 0, .slice none 0 0, .int .i64 0, .string ⟨#[]⟩, .slice none 0 0, .int .i64 0, .string ⟨#[]⟩, .int .i64 0, .bool false] 61)).cell? ⟨b, off + i * 10, none⟩ = some (.int .i64 k) := hc 0 (by omega)
 have x1 : (w.alloc (.cells #[.int .i64 0, .int .i64 0, .string ⟨#[]⟩, .slice none 0 0, .slice none 0 0, .int .i64 0, .string ⟨#[]⟩, .slice none 0 0, .int .i64 0, .string ⟨#[]⟩, .int .i64 0, .bool false] 61)).cell? ⟨b, off + i * 10 + 1, none⟩ = some (.string t) := hc 1 (by omega)
 have x2 : (w.alloc (.cells #[.int .i64 0, .int .i64 0, .string ⟨#[]⟩, .slice none 0 0, .slice none 0 0, .int .i64 0, .string ⟨#[]⟩, .slice none 0 0, .int .i64 0, .string ⟨#[]⟩, .int .i64 0, .bool false] 61)).cell? ⟨b, off + i * 10 + 2, none⟩ = some (.slice Ar nr zr) := hc 2 (by omega)
 have x3 : (w.alloc (.cells #[.int .i64 0, .int .i64 0, .string ⟨#[]⟩, .slice none 0 0, .slice none 0 0, .int .i64 0, .string ⟨#[]⟩, .slice none 0 0, .int .i64 0, .string ⟨#[]⟩, .int .i64 0, .bool false] 61)).cell? ⟨b, off + i * 10 + 3, none⟩ = some (.int .i64 ck) := hc 3 (by omega)
 have x4 : (w.alloc (.cells #[.int .i64 0, .int .i64 0, .string ⟨#[]⟩, .slice none 0 0, .slice none 0 0, .int .i64 0, .string ⟨#[]⟩, .slice none 0 0, .int .i64 0, .string ⟨#[]⟩, .int .i64 0, .bool false] 61)).cell? ⟨b, off + i * 10 + 4, none⟩ = some (.string ct) := hc 4 (by omega)
 have x5 : (w.alloc (.cells #[.int .i64 0, .int .i64 0, .string ⟨#[]⟩, .slice none 0 0, .slice none 0 0, .int .i64 0, .string ⟨#[]⟩, .slice none 0 0, .int .i64 0, .string ⟨#[]⟩, .int .i64 0, .bool false] 61)).cell? ⟨b, off + i * 10 + 5, none⟩ = some (.slice A n c) := hc 5 (by omega)
 have x6 : (w.alloc (.cells #[.int .i64 0, .int .i64 0, .string ⟨#[]⟩, .slice none 0 0, .slice none 0 0, .int .i64 0, .string ⟨#[]⟩, .slice none 0 0, .int .i64 0, .string ⟨#[]⟩, .int .i64 0, .bool false] 61)).cell? ⟨b, off + i * 10 + 6, none⟩ = some (.int .i64 K) := hc 6 (by omega)
 have x7 : (w.alloc (.cells #[.int .i64 0, .int .i64 0, .string ⟨#[]⟩, .slice none 0 0, .slice none 0 0, .int .i64 0, .string ⟨#[]⟩, .slice none 0 0, .int .i64 0, .string ⟨#[]⟩, .int .i64 0, .bool false] 61)).cell? ⟨b, off + i * 10 + 7, none⟩ = some (.string cn) := hc 7 (by omega)
 have x8 : (w.alloc (.cells #[.int .i64 0, .int .i64 0, .string ⟨#[]⟩, .slice none 0 0, .slice none 0 0, .int .i64 0, .string ⟨#[]⟩, .slice none 0 0, .int .i64 0, .string ⟨#[]⟩, .int .i64 0, .bool false] 61)).cell? ⟨b, off + i * 10 + 8, none⟩ = some (.int .i64 cq) := hc 8 (by omega)
 have x9 : (w.alloc (.cells #[.int .i64 0, .int .i64 0, .string ⟨#[]⟩, .slice none 0 0, .slice none 0 0, .int .i64 0, .string ⟨#[]⟩, .slice none 0 0, .int .i64 0, .string ⟨#[]⟩, .int .i64 0, .bool false] 61)).cell? ⟨b, off + i * 10 + 9, none⟩ = some (.bool cb) := hc 9 (by omega)
 clear hc hn
 go_enter Tryz.func33, Tryz.ntmps33
 have c0 := HG1.out.cell 0
 go_wp2_with fail
 obtain ⟨W1, hW1⟩ : ∃ W, W = w.alloc (.cells #[.int .i64 0, .int .i64 0, .string ⟨#[]⟩, .slice none 0 0, .slice none 0 0, .int .i64 0, .string ⟨#[]⟩, .slice none 0 0, .int .i64 0, .string ⟨#[]⟩, .int .i64 0, .bool false] 61) := ⟨_, rfl⟩
 rw [← hW1] at HR1 HB1 ⊢
 clear hW1
 refine (HTO.out W1).mono ?_
 rintro e w1 ⟨rfl, hb1⟩
 have HR1b := Lib.hid (HR1.out.below hb1.out HR1.out.lt)
 have HB1b := Lib.hid (HB1.out.trans (hb1.out.mono HB1.out.size))
 have hb2 : Below w1.heap.size w1 (w1.alloc (.cells #[.int .i64 ek, .int .i64 0, .string t, .slice Ab nb zb, .slice Aa na za, .int .i64 ck, .string ct, .slice A n c, .int .i64 K, .string cn, .int .i64 cq, .bool cb] 61)) := (Below.refl _ w1).alloc (Nat.le_refl _) _
 have HQ2 := Lib.hid (Has.new w1 61 #[.int .i64 ek, .int .i64 0, .string t, .slice Ab nb zb, .slice Aa na za, .int .i64 ck, .string ct, .slice A n c, .int .i64 K, .string cn, .int .i64 cq, .bool cb])
 have HR2 := Lib.hid (HR1b.out.below hb2 HR1b.out.lt)
 have HB2 := Lib.hid (HB1b.out.trans (hb2.mono HB1b.out.size))
 have hql : w.heap.size < w1.heap.size := HR1b.out.lt
 clear HTO HR1 HB1 HR1b HB1b hb1 hb2
 go_wp2_with fail
 obtain ⟨W2, hW2⟩ : ∃ W, W = w1.alloc (.cells #[.int .i64 ek, .int .i64 0, .string t, .slice Ab nb zb, .slice Aa na za, .int .i64 ck, .string ct, .slice A n c, .int .i64 K, .string cn, .int .i64 cq, .bool cb] 61) := ⟨_, rfl⟩
 rw [← hW2] at HQ2 HR2 HB2 ⊢
 clear hW2
 obtain ⟨q, hq⟩ : ∃ q, q = w1.heap.size := ⟨_, rfl⟩
 rw [← hq] at HQ2 hql ⊢
 clear hq
 obtain ⟨wd, hwd⟩ : ∃ W, W = W2.drew := ⟨_, rfl⟩
 have hbd : Below W2.heap.size W2 wd := by rw [hwd]; exact (Below.refl _ W2).drew
 have HQd := Lib.hid (HQ2.out.below hbd HQ2.out.lt)
 have HRd := Lib.hid (HR2.out.below hbd HR2.out.lt)
 have HBd := Lib.hid (HB2.out.trans (hbd.mono HB2.out.size))
 have hSd : (fun X : World => X.cell? ⟨q, 0, none⟩ = some (.int .i64 ek) ∧ X.cell? ⟨q, 1, none⟩ = some (.int .i64 0) ∧ X.cell? ⟨q, 2, none⟩ = some (.string t) ∧ X.cell? ⟨q, 3, none⟩ = some (.slice Ab nb zb) ∧ X.cell? ⟨q, 4, none⟩ = some (.slice Aa na za) ∧ X.cell? ⟨q, 5, none⟩ = some (.int .i64 ck) ∧ X.cell? ⟨q, 6, none⟩ = some (.string ct) ∧ X.cell? ⟨q, 7, none⟩ = some (.slice A n c) ∧ X.cell? ⟨q, 8, none⟩ = some (.int .i64 K) ∧ X.cell? ⟨q, 9, none⟩ = some (.string cn) ∧ X.cell? ⟨q, 10, none⟩ = some (.int .i64 cq) ∧ X.cell? ⟨q, 11, none⟩ = some (.bool cb)) wd := ⟨HQd.out.cell 0, HQd.out.cell 1, HQd.out.cell 2, HQd.out.cell 3, HQd.out.cell 4, HQd.out.cell 5, HQd.out.cell 6, HQd.out.cell 7, HQd.out.cell 8, HQd.out.cell 9, HQd.out.cell 10, HQd.out.cell 11⟩
 refine wp_region_held_drew (S := (fun X : World => X.cell? ⟨q, 0, none⟩ = some (.int .i64 ek) ∧ X.cell? ⟨q, 1, none⟩ = some (.int .i64 0) ∧ X.cell? ⟨q, 2, none⟩ = some (.string t) ∧ X.cell? ⟨q, 3, none⟩ = some (.slice Ab nb zb) ∧ X.cell? ⟨q, 4, none⟩ = some (.slice Aa na za) ∧ X.cell? ⟨q, 5, none⟩ = some (.int .i64 ck) ∧ X.cell? ⟨q, 6, none⟩ = some (.string ct) ∧ X.cell? ⟨q, 7, none⟩ = some (.slice A n c) ∧ X.cell? ⟨q, 8, none⟩ = some (.int .i64 K) ∧ X.cell? ⟨q, 9, none⟩ = some (.string cn) ∧ X.cell? ⟨q, 10, none⟩ = some (.int .i64 cq) ∧ X.cell? ⟨q, 11, none⟩ = some (.bool cb))) (by kernel_rfl) (hwd ▸ hSd) (fun _ => ?_)
 rw [← hwd]
 clear hwd hbd
 (refine wpAnyH_take (i := 0) (v := ?_) rfl (by kernel_rfl) (by kernel_rfl) (by kernel_rfl) (fun _ _ _ h => h) (Or.inl ⟨by rfl, ?_⟩) (by assumption) ?_; rotate_left; (intro w hSw; (try dsimp only at hSw); go_simp; try with_reducible rfl); ((try simp only [zA, zB, zC, Act.put, zD, zE, zF])))
 (refine wpAnyH_take (i := 1) (v := ?_) rfl (by kernel_rfl) (by kernel_rfl) (by kernel_rfl) (fun _ _ _ h => h) (Or.inl ⟨by rfl, ?_⟩) (by assumption) ?_; rotate_left; (intro w hSw; (try dsimp only at hSw); go_simp; try with_reducible rfl); ((try simp only [zA, zB, zC, Act.put, zD, zE, zF])))
 (refine wpAnyH_take (i := 2) (v := ?_) rfl (by kernel_rfl) (by kernel_rfl) (by kernel_rfl) (fun _ _ _ h => h) (Or.inl ⟨by rfl, ?_⟩) (by assumption) ?_; rotate_left; (intro w hSw; (try dsimp only at hSw); go_simp; try with_reducible rfl); ((try simp only [zA, zB, zC, Act.put, zD, zE, zF])))
 refine wpAnyH_ready (rs := [3]) (by kernel_rfl) (by simp) ?_
 refine AllReadyH.cons rfl (fun K2 hK2 => ?_) AllReadyH.nil
 go_simp
 refine (HM.out wd HBd.out).mono ?_
 rintro e w4 ⟨rfl, hb4⟩
 have HQ4 := Lib.hid (HQd.out.below hb4.out HQd.out.lt)
 have HR4 := Lib.hid (HRd.out.below hb4.out HRd.out.lt)
 have HB4 := Lib.hid (HBd.out.trans (hb4.out.mono HBd.out.size))
 have hS4 : (fun X : World => X.cell? ⟨q, 0, none⟩ = some (.int .i64 ek) ∧ X.cell? ⟨q, 1, none⟩ = some (.int .i64 0) ∧ X.cell? ⟨q, 2, none⟩ = some (.string t) ∧ X.cell? ⟨q, 3, none⟩ = some (.slice Ab nb zb) ∧ X.cell? ⟨q, 4, none⟩ = some (.slice Aa na za) ∧ X.cell? ⟨q, 5, none⟩ = some (.int .i64 ck) ∧ X.cell? ⟨q, 6, none⟩ = some (.string ct) ∧ X.cell? ⟨q, 7, none⟩ = some (.slice A n c) ∧ X.cell? ⟨q, 8, none⟩ = some (.int .i64 K) ∧ X.cell? ⟨q, 9, none⟩ = some (.string cn) ∧ X.cell? ⟨q, 10, none⟩ = some (.int .i64 cq) ∧ X.cell? ⟨q, 11, none⟩ = some (.bool cb)) w4 := ⟨HQ4.out.cell 0, HQ4.out.cell 1, HQ4.out.cell 2, HQ4.out.cell 3, HQ4.out.cell 4, HQ4.out.cell 5, HQ4.out.cell 6, HQ4.out.cell 7, HQ4.out.cell 8, HQ4.out.cell 9, HQ4.out.cell 10, HQ4.out.cell 11⟩
 go_wp2_with fail
 refine hK2.out _ _ (by (try dsimp only); exact hS4) (fun _ => ?_)
 clear hK2 K2
 (try simp only [zA, zB, zC, Act.put, zD, zE, zF])
 have f0 := HR4.out.free 0
 have g0 := HR4.out.cell 0
 have p0 := Lib.hid (HR4.out.put 0 (.int .i64 ek))
 have f1 := p0.out.free 1
 have g1 := p0.out.cell 1
 have p1 := Lib.hid (p0.out.put 1 (.int .i64 0))
 have f2 := p1.out.free 2
 have g2 := p1.out.cell 2
 have p2 := Lib.hid (p1.out.put 2 (.string t))
 have f3 := p2.out.free 3
 have g3 := p2.out.cell 3
 have p3 := Lib.hid (p2.out.put 3 (.slice Ab nb zb))
 have f4 := p3.out.free 4
 have g4 := p3.out.cell 4
 have p4 := Lib.hid (p3.out.put 4 (.slice Aa na za))
 have f5 := p4.out.free 5
 have g5 := p4.out.cell 5
 have p5 := Lib.hid (p4.out.put 5 (.int .i64 ck))
 have f6 := p5.out.free 6
 have g6 := p5.out.cell 6
 have p6 := Lib.hid (p5.out.put 6 (.string ct))
 have f7 := p6.out.free 7
 have g7 := p6.out.cell 7
 have p7 := Lib.hid (p6.out.put 7 (.slice A n c))
 have f8 := p7.out.free 8
 have g8 := p7.out.cell 8
 have p8 := Lib.hid (p7.out.put 8 (.int .i64 K))
 have f9 := p8.out.free 9
 have g9 := p8.out.cell 9
 have p9 := Lib.hid (p8.out.put 9 (.string cn))
 have f10 := p9.out.free 10
 have g10 := p9.out.cell 10
 have p10 := Lib.hid (p9.out.put 10 (.int .i64 cq))
 have f11 := p10.out.free 11
 have g11 := p10.out.cell 11
 have p11 := Lib.hid (p10.out.put 11 (.bool cb))
 refine wpAnyH_ready (rs := [4]) (by kernel_rfl) (by simp) ?_
 refine AllReadyH.cons rfl (fun K2 hK2 => ?_) AllReadyH.nil
 go_simp
 have HP : Hid (Has (put12 w4 w.heap.size (.int .i64 ek) (.int .i64 0) (.string t) (.slice Ab nb zb) (.slice Aa na za) (.int .i64 ck) (.string ct) (.slice A n c) (.int .i64 K) (.string cn) (.int .i64 cq) (.bool cb)) w.heap.size 61 #[.int .i64 ek, .int .i64 0, .string t, .slice Ab nb zb, .slice Aa na za, .int .i64 ck, .string ct, .slice A n c, .int .i64 K, .string cn, .int .i64 cq, .bool cb]) := put12_has HR4.out (.int .i64 ek) (.int .i64 0) (.string t) (.slice Ab nb zb) (.slice Aa na za) (.int .i64 ck) (.string ct) (.slice A n c) (.int .i64 K) (.string cn) (.int .i64 cq) (.bool cb)
 clear f0 g0 p0 f1 g1 p1 f2 g2 p2 f3 g3 p3 f4 g4 p4 f5 g5 p5 f6 g6 p6 f7 g7 p7 f8 g8 p8 f9 g9 p9 f10 g10 p10 f11 g11 p11
 have ht := put12_tur w4 w.heap.size (.int .i64 ek) (.int .i64 0) (.string t) (.slice Ab nb zb) (.slice Aa na za) (.int .i64 ck) (.string ct) (.slice A n c) (.int .i64 K) (.string cn) (.int .i64 cq) (.bool cb)
 have hput : put12 w4 w.heap.size (.int .i64 ek) (.int .i64 0) (.string t) (.slice Ab nb zb) (.slice Aa na za) (.int .i64 ck) (.string ct) (.slice A n c) (.int .i64 K) (.string cn) (.int .i64 cq) (.bool cb) = ((((((((((((w4.setCell ⟨w.heap.size, 0, none⟩ (.int .i64 ek)).setCell ⟨w.heap.size, 1, none⟩ (.int .i64 0)).setCell ⟨w.heap.size, 2, none⟩ (.string t)).setCell ⟨w.heap.size, 3, none⟩ (.slice Ab nb zb)).setCell ⟨w.heap.size, 4, none⟩ (.slice Aa na za)).setCell ⟨w.heap.size, 5, none⟩ (.int .i64 ck)).setCell ⟨w.heap.size, 6, none⟩ (.string ct)).setCell ⟨w.heap.size, 7, none⟩ (.slice A n c)).setCell ⟨w.heap.size, 8, none⟩ (.int .i64 K)).setCell ⟨w.heap.size, 9, none⟩ (.string cn)).setCell ⟨w.heap.size, 10, none⟩ (.int .i64 cq)).setCell ⟨w.heap.size, 11, none⟩ (.bool cb)) := rfl
 rw [← hput]
 clear hput
 generalize put12 w4 w.heap.size (.int .i64 ek) (.int .i64 0) (.string t) (.slice Ab nb zb) (.slice Aa na za) (.int .i64 ck) (.string ct) (.slice A n c) (.int .i64 K) (.string cn) (.int .i64 cq) (.bool cb) = w5 at HP ht ⊢
 have HQ5 := HQ4.out.tur ht (by simp; omega)
 refine hK2.out _ _ (by (try dsimp only); exact ⟨HQ5.cell 0, HQ5.cell 1, HQ5.cell 2, HQ5.cell 3, HQ5.cell 4, HQ5.cell 5, HQ5.cell 6, HQ5.cell 7, HQ5.cell 8, HQ5.cell 9, HQ5.cell 10, HQ5.cell 11⟩) (fun _ => ?_)
 clear hK2 K2
 (try simp only [zA, zB, zC, Act.put, zD, zE, zF])
 (refine wpAnyH_take (i := 5) (v := ?_) rfl (by kernel_rfl) (by kernel_rfl) (by kernel_rfl) (fun _ _ _ h => h) (Or.inl ⟨by rfl, ?_⟩) (by assumption) ?_; rotate_left; (intro w hSw; (try dsimp only at hSw); go_simp; try with_reducible rfl); ((try simp only [zA, zB, zC, Act.put, zD, zE, zF])))
 refine wpAnyH_done (by kernel_rfl) ?_ _
 go_wp2_with fail
 exact bodyPost_ret (evEndE rfl _ w.heap.size _ _ _ _ _ _ _ _ _ _ _ _ _ rfl HP.out) rfl ⟨rfl, HB4.out.trans (ht.below (by simp) HB4.out.size)⟩
end Go.Proofs.YtlnbhlgkehenpaaGreatDoor
namespace Go.Proofs.YtlnbhlgkehenpaaGreatDoor
open Go.RowKit Go.Shelf Dg
set_option maxRecDepth 100000
def stE (D : List Tb) (x : Wd) : Int := if mayP x.told D = 0 then (if x.told.k = 6 then foE D x.ck x.ct x.L x.K x.cl.nm x.cl.k x.cl.no else 0) else mayP x.told D
def stD (D : List Tb) (x : Wd) : List Td := if x.told.k = 6 then foD D x.ck x.ct x.L x.K x.cl.nm x.cl.k x.cl.no else tds D
def mkT (d : Td) : Tb := ⟨d.nm, none, 0, 0, d.L, d.K⟩
theorem tds_mk (D : List Td) : tds (D.map mkT) = D := by
 unfold tds
 rw [List.map_map]
 conv => rhs; rw [← List.map_id D]
 rfl
theorem stE_d {T T' : List Tb} (h : tds T = tds T') (x : Wd) : stE T x = stE T' x := by
 unfold stE
 rw [mayP_d h, foE_d h]
theorem stD_d {T T' : List Tb} (h : tds T = tds T') (x : Wd) : stD T x = stD T' x := by
 unfold stD
 rw [foD_d h, h]
inductive Steps (D : List Td) : List Wd → List Td → Prop
 | nil : Steps D [] D
 | snoc {xs : List Wd} {D' : List Td} (x : Wd) : Steps D xs D' → stE (D'.map mkT) x = 0 → Steps D (xs ++ [x]) (stD (D'.map mkT) x)
theorem stD_rt {D : List Td} {x : Wd} (h : RtD D) (hl : D.length ≤ 64) (he : stE (D.map mkT) x = 0) : RtD (stD (D.map mkT) x) ∧ (stD (D.map mkT) x).length ≤ 64 := by
 unfold stE at he
 unfold stD
 by_cases h6 : x.told.k = 6
 ·rw [if_pos h6] at he ⊢
  have hm : mayP x.told (D.map mkT) = 0 := by
   apply Decidable.byContradiction
   intro hn
   rw [if_neg hn] at he
   exact hn he
  rw [if_pos hm] at he
  have hq := follow_rt (G := D.map mkT) (T' := (foD (D.map mkT) x.ck x.ct x.L x.K x.cl.nm x.cl.k x.cl.no).map mkT) (by rw [tds_mk]; exact h) (by simpa using hl) he (by rw [tds_mk])
  rw [tds_mk] at hq
  exact ⟨hq.1, by simpa using hq.2⟩
 ·rw [if_neg h6, tds_mk]
  exact ⟨h, hl⟩
structure TbI (w : World) (V : Nat → Prop) (At : Option Addr) (nt ct : Nat) (D : List Td) : Prop where
 ex : ∃ T, tds T = D ∧ T.length = nt ∧ TRow w At T ∧ TOks w T ∧ (∀ a, At = some a → V a.block) ∧ ∀ x ∈ T, ∀ a, x.A = some a → V a.block
 few : nt ≤ 64
 cap : nt ≤ ct
 max : ct ≤ maxLen
 nil : At = none → ct = 0
 rt : RtD D
theorem TRow.tur14 {X : List Nat} {w w' : World} {A : Option Addr} {T : List Tb} (h : TRow w A T) (ht : Tur X w w') (ho : ∀ a, A = some a → a.block ∉ X) : TRow w' A T := fun hne => by
 obtain ⟨b, off, e, hc⟩ := h hne
 have hb := ho _ e
 have k : ∀ (i : Nat) (v : Value), w.cell? ⟨b, i, none⟩ = some v → w'.cell? ⟨b, i, none⟩ = some v := fun i v h => (World.cell?_of_block (ht.block b (World.block_lt_of_cell? w _ h) hb)).trans h
 exact ⟨b, off, e, fun i hi => ⟨k _ _ (hc i hi).1, k _ _ (hc i hi).2.1, k _ _ (hc i hi).2.2⟩⟩
theorem crow_turZ {X : List Nat} {w w' : World} {A : Option Addr} {L : List Cl} (h : CRow w A L) (ht : Tur X w w') (ho : ∀ a, A = some a → a.block ∉ X) : CRow w' A L := fun hne => by
 obtain ⟨b, off, e, hc⟩ := h hne
 have hb := ho _ e
 have k : ∀ (i : Nat) (v : Value), w.cell? ⟨b, i, none⟩ = some v → w'.cell? ⟨b, i, none⟩ = some v := fun i v h => (World.cell?_of_block (ht.block b (World.block_lt_of_cell? w _ h) hb)).trans h
 exact ⟨b, off, e, fun i hi => ⟨k _ _ (hc i hi).1, k _ _ (hc i hi).2.1, k _ _ (hc i hi).2.2⟩⟩
theorem TbI.tur {w w' : World} {X : List Nat} {V : Nat → Prop} {At : Option Addr} {nt ct : Nat} {D : List Td} (h : TbI w V At nt ct D) (ht : Tur X w w') (hV : ∀ b, V b → b ∉ X) : TbI w' V At nt ct D := by
 obtain ⟨T, h1, h2, h3, h4, h5, h6⟩ := h.ex
 exact ⟨⟨T, h1, h2, h3.tur14 ht fun a e => hV _ (h5 a e), fun x hx => ⟨(h4 x hx).len, (h4 x hx).cap, (h4 x hx).max, crow_turZ (h4 x hx).row ht fun a e => hV _ (h6 x hx a e), (h4 x hx).nil, (h4 x hx).few⟩, h5, h6⟩, h.few, h.cap, h.max, h.nil, h.rt⟩
theorem rt_good {T : List Tb} (h : RtD (tds T)) : ∀ y ∈ T, (∃ k : Nat, y.K = (k : Int) ∧ k ≤ y.L.length ∧ k ≤ 4) ∧ 0 < y.L.length ∧ y.L.length ≤ 800 := fun y hy => by
 obtain ⟨k, hk, hs⟩ := sc_of_may (h.2 y.td (List.mem_map_of_mem hy)).2
 have h1 := hs.len
 have h2 := hs.keys
 exact ⟨⟨k, hk, h2.2.1, h2.2.2⟩, by show 0 < y.td.L.length; omega, by show y.td.L.length ≤ 800; omega⟩
theorem TbI.tbW {w : World} {V : Nat → Prop} {At : Option Addr} {nt ct : Nat} {D : List Td} (h : TbI w V At nt ct D) : ∃ T, tds T = D ∧ T.length = nt ∧ TRow w At T ∧ TOks w T ∧ SortT T ∧ TbW w At nt ct T ∧ ∀ x ∈ T, 0 < x.L.length ∧ x.L.length ≤ 800 := by
 obtain ⟨T, h1, h2, h3, h4, h5, h6⟩ := h.ex
 have hr : RtD (tds T) := by rw [h1]; exact h.rt
 have hs := (sort_d T).2 hr.1
 exact ⟨T, h1, h2, h3, h4, hs, ⟨h2, by have := h.few; omega, h3, h4, hs, fun y hy => (rt_good hr y hy).1⟩, fun x hx => (rt_good hr x hx).2⟩
theorem ownTs_I {B : Nat} {w : World} {v : Value} {T : List Tb} (h : OwnTs B w v T) (hr : RtD (tds T)) (hl : T.length ≤ 64) : ∃ At ct, v = .slice At T.length ct ∧ TbI w (fun b => B ≤ b ∧ b < w.heap.size) At T.length ct (tds T) := by
 obtain ⟨A, c, e, h1, h2, h3, h4⟩ := ownT_row h.own
 refine ⟨A, c, e, ⟨T, rfl, rfl, h3, fun x hx => ?_, fun a ea => ?_, fun x hx a ea => ?_⟩, hl, h1, h2, h4, hr⟩
 ·obtain ⟨A', c', e', k1, k2, k3, k4⟩ := ownC_row (h.col x hx)
  injection e' with e1 e2 e3
  have := (rt_good hr x hx).2.2
  exact ⟨e2.symm, by omega, by omega, by rw [e1]; exact k3, by rw [e1, e3]; exact k4, by omega⟩
 ·exact World.ownsRow.lt h.own a.block (by rw [e, ea]; rfl)
 ·exact World.ownsRow.lt (h.col x hx) a.block (by rw [ea]; rfl)
attribute [local go_sem] Oper.semAt_some
structure Mo where
 k : Int
 m : Int
 t : ByteArray
 Ab : Option Addr
 nb : Nat
 zb : Nat
 Aa : Option Addr
 na : Nat
 za : Nat
 ck : Int
 ct : ByteArray
 A : Option Addr
 n : Nat
 c : Nat
 K : Int
 cn : ByteArray
 cq : Int
 cb : Bool
 Al : Option Addr
 nl : Nat
 cl : Nat
 Bl : Option Addr
 ml : Nat
 dl : Nat
 E : Int
def Mo.enc (x : Mo) : Array Value := #[.agg #[.int .i64 x.k, .int .i64 x.m, .string x.t, .slice x.Ab x.nb x.zb, .slice x.Aa x.na x.za, .int .i64 x.ck, .string x.ct, .slice x.A x.n x.c, .int .i64 x.K, .string x.cn, .int .i64 x.cq, .bool x.cb, .slice x.Al x.nl x.cl, .slice x.Bl x.ml x.dl], .int .i64 x.E]
def moOf (r : Gr) (Al : Option Addr) (nl cl : Nat) (Bl : Option Addr) (ml dl : Nat) : Mo := ⟨r.x.told.k, r.x.told.n, r.x.told.t, r.bS.1, r.bS.2.1, r.bS.2.2, r.aS.1, r.aS.2.1, r.aS.2.2, r.x.told.ck, r.x.told.ct, r.A, r.n, r.c, r.x.told.K, r.x.told.cl.nm, r.x.told.cl.k, r.x.told.cl.no, Al, nl, cl, Bl, ml, dl, 0⟩
def moBad (E : Int) : Mo := ⟨0, 0, ⟨#[]⟩, none, 0, 0, none, 0, 0, 0, ⟨#[]⟩, none, 0, 0, 0, ⟨#[]⟩, 0, false, none, 0, 0, none, 0, 0, E⟩
def Cz (D0 : List Td) (X : List Gr) (pre : List Mo) (W : World) : Prop :=
 ∃ p x, pre = p ++ [x] ∧ (∃ h : p.length < X.length, ∃ D, Steps D0 ((X.take p.length).map (·.x)) D ∧
  ((stE (D.map mkT) X[p.length].x ≠ 0 ∧ x = moBad (stE (D.map mkT) X[p.length].x)) ∨
   (stE (D.map mkT) X[p.length].x = 0 ∧ ∃ Al nl cl Bl ml dl V V', x = moOf X[p.length] Al nl cl Bl ml dl ∧ X[p.length].full W ∧ TbI W V Al nl cl D ∧ TbI W V' Bl ml dl (stD (D.map mkT) X[p.length].x))))
def Fz (D0 : List Td) (X : List Gr) (xs : List Mo) (W : World) : Prop :=
 (∃ p x, xs = p ++ [x] ∧ x.E ≠ 0) ∨
 (∃ D, Steps D0 (X.map (·.x)) D ∧ xs.length = X.length ∧ (xs = [] ∨ ∃ p x V, xs = p ++ [x] ∧ TbI W V x.Bl x.ml x.dl D))
def GoI (D0 : List Td) (X : List Gr) (J : List Mo → List Nat → World → Prop) (K : Nat → Prop) (wo w W : World) (k : Nat) (v : Value) (wx : World) : Prop :=
 ∃ pre Z D A n c V, v = .slice A n c ∧ Steps D0 ((X.take k).map (·.x)) D ∧ pre.length = k ∧ J pre Z wx ∧ Below wo.heap.size wo wx ∧ W.heap.size ≤ wx.heap.size ∧ (∀ b ∈ Z, ¬ K b) ∧ (∀ b, K b → wx.heap[b]? = w.heap[b]?) ∧ TbI wx V A n c D ∧ (∀ b, V b → b < wx.heap.size ∧ b ∉ Z) ∧ (pre = [] ∨ ∃ p x, pre = p ++ [x] ∧ x.Bl = A ∧ x.ml = n ∧ x.dl = c)
theorem GoI.done {D0 : List Td} {X : List Gr} {J : List Mo → List Nat → World → Prop} {K : Nat → Prop} {wo w W wx : World} {v : Value} (h : GoI D0 X J K wo w W X.length v wx) : ∃ Z xs, Fz D0 X xs wx ∧ J xs Z wx := by
 obtain ⟨pre, Z, D, A, n, c, V, rfl, h1, h2, h3, h4, h5, h6, hk, h7, h8, h9⟩ := h
 rw [List.take_length] at h1
 refine ⟨Z, pre, .inr ⟨D, h1, h2, ?_⟩, h3⟩
 rcases h9 with h9 | ⟨p, x, e, e1, e2, e3⟩
 ·exact .inl h9
 ·exact .inr ⟨p, x, V, e, by rw [e1, e2, e3]; exact h7⟩
theorem GoI.next {D0 : List Td} {X : List Gr} {J : List Mo → List Nat → World → Prop} {K : Nat → Prop} {wo w W WB V3 : World} {k : Nat} {pre : List Mo} {x : Mo} {Z Z' : List Nat} {D' : List Td} {A : Option Addr} {n c : Nat} {V : Nat → Prop}
 (hp : pre.length = k) (hs : Steps D0 ((X.take (k + 1)).map (·.x)) D') (hb : Below wo.heap.size wo WB) (hW : W.heap.size ≤ WB.heap.size) (hZ : ∀ b ∈ Z, ¬ K b) (hko : ∀ b, b < wo.heap.size → K b) (hks : ∀ b, K b → b < WB.heap.size) (hkb : ∀ b, K b → WB.heap[b]? = w.heap[b]?) (ht : Tur Z WB V3) (hf : Fre Z Z' WB) (hj : J (pre ++ [x]) Z' V3)
 (hT : TbI WB V A n c D') (hV : ∀ b, V b → b < WB.heap.size ∧ b ∉ Z) (e1 : x.Bl = A) (e2 : x.ml = n) (e3 : x.dl = c) : GoI D0 X J K wo w W (k + 1) (.slice A n c) V3 :=
 ⟨pre ++ [x], Z', D', A, n, c, V, rfl, hs, by simp [hp], hj, hb.trans (ht.below (fun b hb' => Nat.le_of_not_lt fun h => hZ b hb' (hko b h)) hb.size), Nat.le_trans hW ht.size, fun b hb' => (hf b hb').elim (hZ b) (fun h hk => by have := hks b hk; omega), fun b hb' => (ht.block b (hks b hb') fun h => hZ b h hb').trans (hkb b hb'), hT.tur ht fun b hb' => (hV b hb').2,
   fun b hb' => ⟨Nat.lt_of_lt_of_le (hV b hb').1 ht.size, fun h => (hf b h).elim (hV b hb').2 (fun hh => by have := (hV b hb').1; omega)⟩, .inr ⟨pre, x, rfl, e1, e2, e3⟩⟩
set_option maxHeartbeats 8000000 in
theorem it_tells (wo : World) (D0 : List Td) (X : List Gr) (gb lb mb tb : Nat) (Aw : Option Addr) (nw cw : Nat) (A0 : Option Addr) (n c : Nat) (w : World) (hwo : Below wo.heap.size wo w)
 (hl : Has w lb 22 #[.slice A0 n c]) (hm : Has w mb 3 #[.int .i64 X.length]) (ht : Has w tb 58 #[.func (.func 33) #[] #[.pointer (some ⟨gb, 0, none⟩)]]) (hg : Has w gb 23 #[.slice Aw nw cw])
 (hX : X.length = nw) (hX12 : X.length ≤ 1000) (hr : GRow wo Aw X) (hf : ∀ r ∈ X, r.full wo) (h0 : TbI wo (fun b => b < wo.heap.size) A0 n c D0) (hTb : Tabs wo) :
 TellsG Fence.wide Tryz.prog 31 #[.pointer (some ⟨lb, 0, none⟩), .pointer (some ⟨mb, 0, none⟩), .pointer (some ⟨tb, 0, none⟩)] Mo.enc (Cz D0 X) (Fz D0 X) (fun b => b < wo.heap.size ∨ b = lb ∨ b = mb ∨ b = tb ∨ b = gb) (fun _ => False) w := by
 intro m l J Jx W Y hs hO hK hY hJ hJx hJl hR hj0
 have hbW : Below wo.heap.size wo W := ⟨hO.1.trans hwo.os, hO.2.1.trans hwo.tape, hO.2.2.trans hwo.output, Nat.le_trans hwo.size hs, fun b hb => (hK b (.inl hb)).trans (hwo.block b hb)⟩
 have hlW : Has W lb 22 #[.slice A0 n c] := (hK lb (.inr (.inl rfl))).trans hl
 have hmW : Has W mb 3 #[.int .i64 X.length] := (hK mb (.inr (.inr (.inl rfl)))).trans hm
 have hko : ∀ b, b < wo.heap.size → (b < wo.heap.size ∨ b = lb ∨ b = mb ∨ b = tb ∨ b = gb) := fun b hb => .inl hb
 have hksW : ∀ b, (b < wo.heap.size ∨ b = lb ∨ b = mb ∨ b = tb ∨ b = gb) → b < W.heap.size := fun b hb => by
  have h1 := hwo.size
  have h2 := hl.lt
  have h3 := hm.lt
  have h4 := ht.lt
  have h5 := hg.lt
  omega
 generalize hKK : (fun b => b < wo.heap.size ∨ b = lb ∨ b = mb ∨ b = tb ∨ b = gb) = KK at *
 have hko : ∀ b, b < wo.heap.size → KK b := fun b hb => by rw [← hKK]; exact hko b hb
 have hksW : ∀ b, KK b → b < W.heap.size := fun b hb => hksW b (by rw [← hKK] at hb; exact hb)
 have hKt : KK tb := by rw [← hKK]; exact .inr (.inr (.inr (.inl rfl)))
 have hKg : KK gb := by rw [← hKK]; exact .inr (.inr (.inr (.inr rfl)))
 have hg0 : GoI D0 X J KK wo w W 0 (.slice A0 n c) W := ⟨[], Y, D0, A0, n, c, _, rfl, Steps.nil, rfl, hj0, hbW, Nat.le_refl _, hY, hK, h0.tur (Tur.of_below (X := Y) hbW) (fun b hb hy => hY b hy (hko b hb)), fun b hb => ⟨Nat.lt_of_lt_of_le hb hbW.size, fun hy => hY b hy (hko b hb)⟩, .inl rfl⟩
 clear hKK
 have cl := hlW.cell 0
 have cm := hmW.cell 0
 have hro : Fence.wide.round = none := rfl
 refine callsIn_of_wp_marks Tryz.func31 rfl trivial ?_ rfl
 simp only [Tryz.ntmps31, List.size_toArray, List.length_cons, List.length_nil, Nat.reduceAdd, Nat.reduceSub, Array.replicate_succ, Array.replicate_zero, List.push_toArray, List.append_toArray, List.nil_append, List.cons_append]
 have HX := Lib.hid hX
 clear hX
 gi_wp2
 clear cl cm
 gi_loopw [5, 12] (fun v5 i wx => ∃ k : Nat, i = .int .i64 k ∧ k ≤ X.length ∧ Hid (GoI D0 X J KK wo w W k v5 wx)) (fun v5 i _ => match i with | .int _ k => X.length - k.toNat | _ => 0)
 case atStart => exact ⟨0, rfl, Nat.zero_le _, hg0⟩
 case round =>
  obtain ⟨k, rfl, hk, hG⟩ := hrel
  rcases Nat.lt_or_ge k X.length with hlt | hge
  ·have hlz : (k : Int) < (X.length : Int) := by omega
   obtain ⟨pre, Z, D, A, n', c', V, rfl, h1, h2, h3, h4, h5, h6, hk6, h7, h8, h9⟩ := hG.out
   have htk : Has wr tb 58 #[.func (.func 33) #[] #[.pointer (some ⟨gb, 0, none⟩)]] := (hk6 tb hKt).trans ht
   have hgk : Has wr gb 23 #[.slice Aw nw cw] := (hk6 gb hKg).trans hg
   obtain ⟨T, d1, d2, d3, d4, d5, d6, d7⟩ := h7.tbW
   have ct := htk.cell 0
   gi_wp2
   refine And.intro trivial (And.intro (fun h => by cases h) ?_)
   refine (callsIn_wide.2 (given1_any gb Aw nw cw X k A n' c' T wr hgk HX.out (hr.below h4) (fun r hr' => (hf r hr').below h4) hlt (by have := HX.out; omega) d6 (hTb.below h4))).mono ?_
   rintro e w1 ⟨rfl, hb1⟩
   clear ct
   have hC : ∀ x W', ((stE (D.map mkT) X[k].x ≠ 0 ∧ x = moBad (stE (D.map mkT) X[k].x)) ∨
    (stE (D.map mkT) X[k].x = 0 ∧ ∃ Al nl cl Bl ml dl V V', x = moOf X[k] Al nl cl Bl ml dl ∧ X[k].full W' ∧ TbI W' V Al nl cl D ∧ TbI W' V' Bl ml dl (stD (D.map mkT) X[k].x))) → Cz D0 X (pre ++ [x]) W' := by
    intro x W' hx
    subst h2
    exact ⟨pre, x, rfl, hlt, D, h1, hx⟩
   have hfr : X[k].full wr := (hf _ (List.getElem_mem hlt)).below h4
   have hE : stE (D.map mkT) X[k].x = stE T X[k].x := stE_d (by rw [tds_mk, d1]) _
   have hD' : stD (D.map mkT) X[k].x = stD T X[k].x := stD_d (by rw [tds_mk, d1]) _
   have hSt : stE T X[k].x = 0 → Steps D0 ((X.take (k + 1)).map (·.x)) (stD T X[k].x) := by
    intro he
    rw [List.take_succ_eq_append_getElem hlt, List.map_append, ← hD']
    exact Steps.snoc _ h1 (hE.trans he)
   rw [hE, hD'] at hC
   unfold toldW
   generalize hrk : X[k] = r at *
   have hdd : ∀ k : Nat, (Fence.wide.depth.isSome = true → 1 ≤ k) := fun k h => by cases h
   have HE := Lib.hid (show stE T r.x = if mayP r.x.told T = 0 then (if r.x.told.k = 6 then foE T r.x.ck r.x.ct r.x.L r.x.K r.x.cl.nm r.x.cl.k r.x.cl.no else 0) else mayP r.x.told T from rfl)
   generalize mayP r.x.told T = res at *
   obtain ⟨WB, hWB⟩ : ∃ WB, Hid (WB = w1.alloc (.cells #[.int .i64 r.x.told.k, .int .i64 r.x.told.n, .string r.x.told.t, .slice r.bS.1 r.bS.2.1 r.bS.2.2, .slice r.aS.1 r.aS.2.1 r.aS.2.2, .int .i64 r.x.told.ck, .string r.x.told.ct, .slice r.A r.n r.c, .int .i64 r.x.told.K, .string r.x.told.cl.nm, .int .i64 r.x.told.cl.k, .bool r.x.told.cl.no] 61)) := ⟨_, rfl⟩
   have tW : Tur [] wr WB := by
    rw [hWB.out]
    exact (Tur.of_below hb1).trans (Tur.alloc [] _ _) (Fre.refl _ _)
   have hjB : J pre Z WB := hJ _ _ _ _ [] h3 tW (by simp)
   have bB : Below wo.heap.size wo WB := h4.trans (tW.below (by simp) h4.size)
   have hZl := hJl _ _ _ h3
   have hks1 : ∀ b, KK b → b < wr.heap.size := fun b hb => Nat.lt_of_lt_of_le (hksW b hb) h5
   have hksB : ∀ b, KK b → b < WB.heap.size := fun b hb => Nat.lt_of_lt_of_le (hks1 b hb) tW.size
   have hkB : ∀ b, KK b → WB.heap[b]? = w.heap[b]? := fun b hb => (tW.block b (hks1 b hb) (by simp)).trans (hk6 b hb)
   have bX := Has.new w1 61 #[.int .i64 r.x.told.k, .int .i64 r.x.told.n, .string r.x.told.t, .slice r.bS.1 r.bS.2.1 r.bS.2.2, .slice r.aS.1 r.aS.2.1 r.aS.2.2, .int .i64 r.x.told.ck, .string r.x.told.ct, .slice r.A r.n r.c, .int .i64 r.x.told.K, .string r.x.told.cl.nm, .int .i64 r.x.told.cl.k, .bool r.x.told.cl.no]
   rw [← hWB.out] at bX
   by_cases hm : res = 0
   ·subst hm
    have e1 : ((0 : Int) == 0) = true := rfl
    have h6' := h6
    clear h6
    by_cases h6 : r.x.told.k = 6
    ·have e6 : (r.x.told.k == 6) = true := by simpa using h6
     have bW : Below wr.heap.size wr WB := tW.below (by simp) (Nat.le_refl _)
     have hEf : stE T r.x = foE T r.x.told.ck r.x.told.ct r.x.L r.x.told.K r.x.told.cl.nm r.x.told.cl.k r.x.told.cl.no := HE.out.trans ((if_pos rfl).trans (if_pos h6))
     have hDf : stD T r.x = foD T r.x.told.ck r.x.told.ct r.x.L r.x.told.K r.x.told.cl.nm r.x.told.cl.k r.x.told.cl.no := if_pos h6
     have HPF := Lib.hid (pfollow_any A T n' c' r.x.told.ck r.x.told.ct r.A r.n r.c r.x.L r.x.told.K r.x.told.cl.nm r.x.told.cl.k r.x.told.cl.no WB d2 h7.cap h7.max (by have := h7.few; omega) (d3.below bW) h7.nil (d4.below bW) d5 d7
      hfr.c.1 hfr.cc.1 hfr.cc.2.1 (hfr.c.2.2.1.below bW) hfr.cc.2.2 hfr.ct hfr.cl.1 hfr.c.2.2.2)
     rw [← hEf, ← hDf] at HPF
     have HRT : Hid (stE T r.x = 0 → RtD (stD T r.x) ∧ (stD T r.x).length ≤ 64) := fun he => by
      rw [← hD']
      exact stD_rt h7.rt (by rw [← d1]; have := h7.few; simp [tds]; omega) (hE.trans he)
     clear hEf hDf HE
     generalize stE T r.x = err at *
     generalize stD T r.x = DD at *
     have HWS := Lib.hid (show WB.heap.size = w1.heap.size + 1 by rw [hWB.out]; simp)
     clear h6
     gi_wp2
     refine And.intro trivial (And.intro (hdd _) ?_)
     rw [← hWB.out]
     refine (callsIn_wide.2 HPF.out).mono ?_
     rintro e w2 ⟨v, T', rfl, ho, htd, hb2⟩
     have tC : Tur [] WB w2 := Tur.of_below hb2.out
     have hjC : J pre Z w2 := hJ _ _ _ _ [] hjB tC (by simp)
     have bC : Below wo.heap.size wo w2 := bB.trans (tC.below (by simp) bB.size)
     have bX2 := bX.below hb2.out bX.lt
     have hC2 := hC
     by_cases hz : err = 0
     ·subst hz
      have e3 : ((0 : Int) != 0) = false := rfl
      have y0 := bX2.cell 0
      have y1 := bX2.cell 1
      have y2 := bX2.cell 2
      have y3 := bX2.cell 3
      have y4 := bX2.cell 4
      have y5 := bX2.cell 5
      have y6 := bX2.cell 6
      have y7 := bX2.cell 7
      have y8 := bX2.cell 8
      have y9 := bX2.cell 9
      have y10 := bX2.cell 10
      have y11 := bX2.cell 11
      have hln := congrArg List.length htd.out
      have hrt := HRT.out rfl
      obtain ⟨At, ct', rfl, hTI⟩ := ownTs_I ho.out (by rw [htd.out]; exact hrt.1) (by simp [tds] at hln; omega)
      rw [htd.out] at hTI
      generalize T'.length = nt' at *
      clear hln hrt
      have hHY := Lib.hid (hR (m - 1) pre (moOf r A n' c' At nt' ct') Z w2 hjC (hC _ _ (.inr ⟨rfl, A, n', c', At, nt', ct', V, _, rfl, hfr.below (bW.trans (tC.below (by simp) bW.size)), (h7.tur tW (by simp)).tur tC (by simp), hTI⟩)))
      obtain ⟨fn, tmps, assign, body, hy0, hRR⟩ := hHY.out
      clear hHY
      have hy : Sem.run Tryz.prog (Instr.yield l (moOf r A n' c' At nt' ct').enc) w2 = .ok (.round l fn tmps assign body) w2 := hy0
      simp only [Mo.enc, moOf] at hy
      gi_wp2
      refine And.intro (hdd _) ?_
      refine hRR.mono ?_
      rintro e V3 ⟨Y', (⟨rfl, hj3⟩ | ⟨rfl, hj3⟩), ht, hf⟩
      ·have hG' := Lib.hid (GoI.next h2 (hSt trivial) bC (Nat.le_trans h5 (Nat.le_trans tW.size tC.size)) h6' hko (fun b hb => Nat.lt_of_lt_of_le (hksB b hb) tC.size) (fun b hb => (tC.block b (hksB b hb) (by simp)).trans (hkB b hb)) ht hf hj3 hTI (fun b hb => ⟨hb.2, fun hz => by have := hZl _ hz; have := tW.size; have := hb.1; omega⟩) rfl rfl rfl)
       gi_wp2
       exact ⟨⟨k + 1, by simp, hlt, hG'⟩, (by show X.length - ((k : Int) + 1).toNat < X.length - ((k : Int)).toNat; omega)⟩
      ·gi_wp2
       refine ⟨_, results_none rfl _ _ _, ⟨_, rfl⟩, Y', .inr ⟨_, hj3⟩⟩
     ·have e3 : (err != 0) = true := by simpa using hz
      obtain ⟨fn, tmps, assign, body, hy0, hRR⟩ := hR (m - 1) pre (moBad err) Z w2 hjC (hC _ _ (.inl ⟨hz, rfl⟩))
      have hy : Sem.run Tryz.prog (Instr.yield l (moBad err).enc) w2 = .ok (.round l fn tmps assign body) w2 := hy0
      simp only [Mo.enc, moBad] at hy
      gi_wp2
      refine And.intro (hdd _) ?_
      refine hRR.mono ?_
      rintro e V3 ⟨Y', (⟨rfl, hj3⟩ | ⟨rfl, hj3⟩), ht, hf⟩
      ·gi_wp2
       refine ⟨_, results_none rfl _ _ _, ⟨_, rfl⟩, Y', .inl ⟨_, .inl ⟨pre, _, rfl, hz⟩, hj3⟩⟩
      ·gi_wp2
       refine ⟨_, results_none rfl _ _ _, ⟨_, rfl⟩, Y', .inr ⟨_, hj3⟩⟩
    ·have e6 : (r.x.told.k == 6) = false := by simpa using h6
     have hEz : stE T r.x = 0 := HE.out.trans ((if_pos rfl).trans (if_neg h6))
     have hDz : stD T r.x = D := (if_neg h6).trans d1
     have hTB : TbI WB V A n' c' (stD T r.x) := by
      rw [hDz]
      exact h7.tur tW (by simp)
     obtain ⟨fn, tmps, assign, body, hy0, hRR⟩ := hR (m - 1) pre (moOf r A n' c' A n' c') Z WB hjB (hC _ _ (.inr ⟨hEz, A, n', c', A, n', c', V, V, rfl, hfr.below (tW.below (by simp) (Nat.le_refl _)), h7.tur tW (by simp), hTB⟩))
     have hy : Sem.run Tryz.prog (Instr.yield l (moOf r A n' c' A n' c').enc) WB = .ok (.round l fn tmps assign body) WB := hy0
     simp only [Mo.enc, moOf] at hy
     have cX0 := bX.cell 0
     have cX1 := bX.cell 1
     rw [hWB.out] at hy
     gi_wp2
     refine And.intro (hdd _) ?_
     rw [← hWB.out]
     refine hRR.mono ?_
     rintro e V3 ⟨Y', (⟨rfl, hj3⟩ | ⟨rfl, hj3⟩), ht, hf⟩
     ·have hG' := Lib.hid (GoI.next h2 (hSt hEz) bB (Nat.le_trans h5 tW.size) h6' hko hksB hkB ht hf hj3 hTB (fun b hb => ⟨Nat.lt_of_lt_of_le (h8 b hb).1 tW.size, (h8 b hb).2⟩) rfl rfl rfl)
      gi_wp2
      exact ⟨⟨k + 1, by simp, hlt, hG'⟩, (by show X.length - ((k : Int) + 1).toNat < X.length - ((k : Int)).toNat; omega)⟩
     ·gi_wp2
      refine ⟨_, results_none rfl _ _ _, ⟨_, rfl⟩, Y', .inr ⟨_, hj3⟩⟩
   ·have e1 : (res == 0) = false := by simpa using hm
    have e2 : (res != 0) = true := by simpa using hm
    have hEz : stE T r.x = res := HE.out.trans (if_neg hm)
    obtain ⟨fn, tmps, assign, body, hy0, hRR⟩ := hR (m - 1) pre (moBad res) Z WB hjB (hC _ _ (.inl ⟨by rw [hEz]; exact hm, by rw [hEz]⟩))
    have hy : Sem.run Tryz.prog (Instr.yield l (moBad res).enc) WB = .ok (.round l fn tmps assign body) WB := hy0
    simp only [Mo.enc, moBad] at hy
    rw [hWB.out] at hy
    gi_wp2
    refine And.intro (hdd _) ?_
    rw [← hWB.out]
    refine hRR.mono ?_
    rintro e V3 ⟨Y', (⟨rfl, hj3⟩ | ⟨rfl, hj3⟩), ht, hf⟩
    ·gi_wp2
     refine ⟨_, results_none rfl _ _ _, ⟨_, rfl⟩, Y', .inl ⟨_, .inl ⟨pre, _, rfl, hm⟩, hj3⟩⟩
    ·gi_wp2
     refine ⟨_, results_none rfl _ _ _, ⟨_, rfl⟩, Y', .inr ⟨_, hj3⟩⟩
  ·obtain rfl : k = X.length := Nat.le_antisymm hk hge
   have hlz : ¬ ((X.length : Int) < (X.length : Int)) := by omega
   obtain ⟨Z, xs, q1, q2⟩ := hG.out.done
   gi_wp2
   refine ⟨_, results_none rfl _ _ _, ⟨_, rfl⟩, Z, .inl ⟨xs, q1, q2⟩⟩
end Go.Proofs.YtlnbhlgkehenpaaGreatDoor
namespace Go.Proofs.YtlnbhlgkehenpaaGreatDoor
open Go.RowKit Go.Shelf Dg
set_option maxRecDepth 100000
theorem cell_rec {W W' : World} {b : Nat} (ht : Tur [b] W W') (hr : Rec2 W b) (c i : Nat) (v : Value) (h : W.cell? ⟨c, i, none⟩ = some v) : W'.cell? ⟨c, i, none⟩ = some v := by
 have hlt := World.block_lt_of_cell? W _ h
 have hb : c ∉ [b] := fun e => by
  obtain rfl := List.mem_singleton.1 e
  unfold World.cell? at h
  cases ho : W.heap[c]? with
  | none => simp [ho] at h
  | some o =>
    cases o with
    | cells c e f => exact hr _ ho c e f rfl
    | _ => simp [ho] at h
 exact (World.cell?_of_block (ht.block c hlt hb)).trans h
theorem TbI.calm {W W' : World} {b : Nat} {V : Nat → Prop} {A : Option Addr} {n c : Nat} {D : List Td} (h : TbI W V A n c D) (ht : Tur [b] W W') (hr : Rec2 W b) : TbI W' V A n c D := by
 obtain ⟨T, h1, h2, h3, h4, h5, h6⟩ := h.ex
 have k := cell_rec ht hr
 refine ⟨⟨T, h1, h2, fun hne => ?_, fun x hx => ?_, h5, h6⟩, h.few, h.cap, h.max, h.nil, h.rt⟩
 ·obtain ⟨g, off, e, hc⟩ := h3 hne
  exact ⟨g, off, e, fun i hi => ⟨k _ _ _ (hc i hi).1, k _ _ _ (hc i hi).2.1, k _ _ _ (hc i hi).2.2⟩⟩
 ·have hx' := h4 x hx
  refine ⟨hx'.len, hx'.cap, hx'.max, fun hne => ?_, hx'.nil, hx'.few⟩
  obtain ⟨g, off, e, hc⟩ := hx'.row hne
  exact ⟨g, off, e, fun i hi => ⟨k _ _ _ (hc i hi).1, k _ _ _ (hc i hi).2.1, k _ _ _ (hc i hi).2.2⟩⟩
theorem Gr.full.calm {W W' : World} {b : Nat} {r : Gr} (h : r.full W) (ht : Tur [b] W W') (hr : Rec2 W b) : r.full W' := by
 have k := cell_rec ht hr
 refine ⟨⟨h.a.1, h.a.2.1, h.a.2.2.1, fun hne => ?_, h.a.2.2.2.2⟩, ⟨h.c.1, h.c.2.1, fun hne => ?_, h.c.2.2.2⟩, h.ct, h.cl, h.cc⟩
 ·obtain ⟨g, off, e, hc⟩ := h.a.2.2.2.1 hne
  exact ⟨g, off, e, fun i hi => ⟨k _ _ _ (hc i hi).1, k _ _ _ (hc i hi).2.1, k _ _ _ (hc i hi).2.2⟩⟩
 ·obtain ⟨g, off, e, hc⟩ := h.c.2.2.1 hne
  exact ⟨g, off, e, fun i hi => ⟨k _ _ _ (hc i hi).1, k _ _ _ (hc i hi).2.1, k _ _ _ (hc i hi).2.2⟩⟩
theorem calm_Cz (B : Nat) (D0 : List Td) (X : List Gr) : Calm B (Cz D0 X) := by
 rintro pre W W' b ⟨p, x, e, hl, D, hs, hx⟩ ht _ hr
 refine ⟨p, x, e, hl, D, hs, hx.imp id ?_⟩
 rintro ⟨h0, Al, nl, cl, Bl, ml, dl, V, V', h1, h2, h3, h4⟩
 exact ⟨h0, Al, nl, cl, Bl, ml, dl, V, V', h1, h2.calm ht hr, h3.calm ht hr, h4.calm ht hr⟩
theorem calm_Fz (B : Nat) (D0 : List Td) (X : List Gr) : Calm B (Fz D0 X) := by
 rintro pre W W' b h ht _ hr
 rcases h with h | ⟨D, h1, h2, h3⟩
 ·exact .inl h
 ·refine .inr ⟨D, h1, h2, h3.imp id ?_⟩
  rintro ⟨p, x, V, e, h⟩
  exact ⟨p, x, V, e, h.calm ht hr⟩
end Go.Proofs.YtlnbhlgkehenpaaGreatDoor
namespace Go.Proofs.YtlnbhlgkehenpaaGreatDoor
open Go.RowKit Go.Shelf
set_option maxRecDepth 100000
theorem PSt.step1 {w : World} {D g n9 c9 : Nat} {T0 : List Tb} {k : Nat} {wr : World} {T1 : List Tb} (h : PSt w D (some ⟨g, 0, none⟩) n9 c9 T0 k wr T1) (hk : k < T0.length) {w2 : World} {A8 : Option Addr} {n8 c8 : Nat} (ho : OwnC wr.heap.size w2 (.slice A8 n8 c8) T0[k].L) (hb : Below wr.heap.size wr w2) :
 w2.frozen? ⟨g, k * 3 + 1, none⟩ = false ∧
 PSt w D (some ⟨g, 0, none⟩) n9 c9 T0 (k + 1) (w2.setCell ⟨g, k * 3 + 1, none⟩ (.slice A8 n8 c8)) (T1.set k ⟨T0[k].nm, A8, n8, c8, T0[k].L, T0[k].K⟩) := by
 have hg : g < D := h.dom g rfl
 have hk1 : k < T1.length := by rw [h.len]; exact hk
 have hT := h.hi k hk hk1 (Nat.le_refl _)
 obtain ⟨hgB, hf1, ho1⟩ := ownT_put2 (h.own.below hb) k hk1 1 (by omega) (.slice A8 n8 c8) ⟨T0[k].nm, A8, n8, c8, T0[k].L, T0[k].K⟩ (by rw [hT]; rfl)
 refine ⟨hf1, ho1, h.dom, by rw [List.length_set]; exact h.len, fun i h1 h2 hik => ?_, fun i h1 h2 hik => ?_, ?_, ?_⟩
 ·rw [List.length_set] at h2
  by_cases e : k = i
  ·subst e
   rw [List.getElem_set_self]
   exact ⟨rfl, (ownC_down ho h.big).far (p := ⟨g, k * 3 + 1, none⟩) hg _⟩
  ·rw [List.getElem_set_ne e]
   have hc := h.lo i h1 h2 (by omega)
   exact ⟨hc.td, (hc.own.below hb).far (p := ⟨g, k * 3 + 1, none⟩) hg _⟩
 ·rw [List.length_set] at h2
  rw [List.getElem_set_ne (by omega)]
  exact h.hi i h1 h2 (by omega)
 ·exact (h.bel.trans (hb.mono h.bel.size)).setCell hgB _
 ·have h1 := h.big
  have h2 := hb.size
  simp
  omega
theorem PSt.far {w w' : World} {D g n9 c9 : Nat} {A9 : Option Addr} {T0 : List Tb} {k : Nat} {wr : World} {T1 : List Tb} (h : PSt w D A9 n9 c9 T0 k wr T1) (hb : Below wr.heap.size wr w') : PSt w D A9 n9 c9 T0 k w' T1 :=
 ⟨h.own.below hb, h.dom, h.len, fun i h1 h2 h3 => ⟨(h.lo i h1 h2 h3).td, (h.lo i h1 h2 h3).own.below hb⟩, h.hi, h.bel.trans (hb.mono h.bel.size), Nat.le_trans h.big hb.size⟩
theorem crow_setRow {w : World} {A : Option Addr} {L : List Cl} (h : CRow w A L) {b : Nat} {t : TypeId} {B : Option Addr} {n c : Nat} (hb : Has w b t #[.slice B n c]) (v : Value) : CRow (w.setCell ⟨b, 0, none⟩ v) A L := fun hne => by
 obtain ⟨g, off, e, hc⟩ := h hne
 have hl : ∀ (i : Nat) (u : Value), w.cell? ⟨b, i, none⟩ = some u → u = .slice B n c := fun i u hu => by
  have hh : w.heap[b]? = some (.cells #[.slice B n c] t) := hb
  simp only [World.cell?, hh] at hu
  rcases i with _ | i
  ·simpa using hu.symm
  ·simp at hu
 have hbw : Below b w (w.setCell ⟨b, 0, none⟩ v) := (Below.refl _ w).setCell (p := ⟨b, 0, none⟩) (Nat.le_refl _) v
 have k : ∀ (i : Nat) (u : Value), u ≠ .slice B n c → w.cell? ⟨g, i, none⟩ = some u → (w.setCell ⟨b, 0, none⟩ v).cell? ⟨g, i, none⟩ = some u := fun i u hu h => by
  have hgb : g ≠ b := fun e => hu (hl i u (e ▸ h))
  exact (World.cell?_of_block (Below.heap_setCell _ _ _ _ (by exact hgb))).trans h
 exact ⟨g, off, e, fun i hi => ⟨k _ _ (by simp) (hc i hi).1, k _ _ (by simp) (hc i hi).2.1, k _ _ (by simp) (hc i hi).2.2⟩⟩
theorem OwnT.turLo {X : List Nat} {B : Nat} {w w' : World} {v : Value} {L : List Tb} (h : OwnT B w v L) (ht : Tur X w w') (hx : ∀ b ∈ X, b < B) : OwnT B w' v L := by
 rcases h.2 with ⟨hv, hn⟩ | ⟨g, cap, cur, hv, hg, hh, hc, hcm, hsz, htk⟩
 ·exact ⟨h.1, .inl ⟨hv, hn⟩⟩
 ·exact ⟨h.1, .inr ⟨g, cap, cur, hv, hg, Has.tur (t := 41) (cs := cur) hh ht (fun hh => by have := hx g hh; omega), hc, hcm, hsz, htk⟩⟩
theorem OwnC.turLo {X : List Nat} {B : Nat} {w w' : World} {v : Value} {L : List Cl} (h : OwnC B w v L) (ht : Tur X w w') (hx : ∀ b ∈ X, b < B) : OwnC B w' v L := by
 rcases h.2 with ⟨hv, hn⟩ | ⟨g, cap, cur, hv, hg, hh, hc, hcm, hsz, htk⟩
 ·exact ⟨h.1, .inl ⟨hv, hn⟩⟩
 ·exact ⟨h.1, .inr ⟨g, cap, cur, hv, hg, Has.tur (t := 46) (cs := cur) hh ht (fun hh => by have := hx g hh; omega), hc, hcm, hsz, htk⟩⟩
end Go.Proofs.YtlnbhlgkehenpaaGreatDoor
