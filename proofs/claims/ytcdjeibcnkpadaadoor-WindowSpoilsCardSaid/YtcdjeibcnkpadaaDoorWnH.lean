/-
  A window is shut; cleared, as one that is told by what it has.
-/
import Derived.Test.YtcdjeibcnkpadaaDoorWxL
namespace Go.Proofs.YtcdjeibcnkpadaaDoor
open Go.RowKit Go.Maps Dg
set_option maxRecDepth 100000
set_option linter.unusedVariables false
theorem results_s4 {fn : Func} {p0 p1 p2 p3 : Tmp} {ty : TypeId} (h : fn.results = #[.tmp p0, .cell p1 ty, .tmp p2, .tmp p3]) (tmps : Array Value) (P : Program) (w : World) :
    (results fn tmps).run P w = ((asAddr (tmps.getD p1 undef)).run P w).andThen fun a w₁ => ((loadVar ty a).run P w₁).andThen fun v w₂ => .ok (.tuple #[tmps.getD p0 undef, v, tmps.getD p2 undef, tmps.getD p3 undef]) w₂ := by
  simp only [results, h]
  simp [Sem.run_bind, Result.andThen]
theorem wEnd4 {fn : Func} {p0 p1 p2 p3 : Tmp} (h : fn.results = #[.tmp p0, .cell p1 59, .tmp p2, .tmp p3]) (w' : World) (g : Nat) (c0 c1 c2 : Value) (tmps : Array Value) (hp : tmps.getD p1 undef = .pointer (some ⟨g, 0, none⟩)) (hh : Has w' g 59 #[c0, c1, c2]) :
    (results fn tmps).run Tryd.prog w' = .ok (.tuple #[tmps.getD p0 undef, .agg #[c0, c1, c2], tmps.getD p2 undef, tmps.getD p3 undef]) w' := by
  rw [results_s4 h, hp]
  simp only [asAddr, Sem.run_pure, Result.andThen_ok]
  rw [run_loadVar_row w' g 59 59 #[c0, c1, c2] (0, 0) _ hh Tryd.underlying59 rfl (by kernel_rfl)]
  rfl
theorem wclearA_any {lo b tb : Nat} {w : World} {a : Wa} (h : WinA lo b tb w a) (h0 : 1 ≤ a.sz) (h1 : a.sz ≤ 9223372036854775807) :
    Calls Tryd.prog 49 #[.pointer (some ⟨b, 0, none⟩)] w fun e w' => e = .returned (.tuple #[]) ∧ (∃ tb', Hid (∀ lo, WinA lo b tb' w' (shutA a)) ∧ Hid (w.heap.size ≤ tb')) ∧ Hid (Tur [b] w w') := by
  obtain ⟨A, n, c, T, h⟩ := h
  refine (wclear_any h h0 h1).mono ?_
  rintro e w' ⟨rfl, ⟨tb', h2, h3⟩, h4⟩
  exact ⟨rfl, ⟨tb', fun lo => ⟨_, _, _, _, h2.out lo⟩, h3⟩, h4⟩
theorem wopenA_any {lo b tb : Nat} {w : World} {a : Wa} (h : WinA lo b tb w a) : Calls Tryd.prog 33 #[.pointer (some ⟨b, 0, none⟩)] w fun e w' => e = .returned (.bool (a.num != -1)) ∧ w' = w := by
  obtain ⟨A, n, c, T, h⟩ := h
  exact wopen_any h
set_option maxHeartbeats 4000000 in
/-- One that is spoiled is shut. -/
theorem wshutS_any {lo b tb : Nat} {w : World} {a : Wa} (h : WinA lo b tb w a) (h0 : 1 ≤ a.sz) (h1 : a.sz ≤ 9223372036854775807) (num : Int) (hn : a.num = num) (hn0 : num ≠ -1) (hsp : a.sp = true) (hz : a.R.length ≤ 89000) (hrl : ∀ r ∈ a.R, r.2.length ≤ 900) (hf : ∀ r ∈ a.R, ∀ x ∈ r.2, x.fit) :
    Calls Tryd.prog 22 #[.pointer (some ⟨b, 0, none⟩), .int .i64 num] w fun e w' => e = .returned (.tuple #[.slice none 0 0, .agg #[.string ⟨#[]⟩, .bool false, .string ⟨#[]⟩], .bool false, .int .i64 0]) ∧ (∃ tb', Hid (∀ lo, WinA lo b tb' w' (shutA a)) ∧ Hid (w.heap.size ≤ tb')) ∧ Hid (Tur [b] w w') := by
  obtain ⟨w1, hw1⟩ : ∃ W, w.alloc (.cells #[.string ⟨#[]⟩, .bool false, .string ⟨#[]⟩] 59) = W := ⟨_, rfl⟩
  have HB1 : Hid (Below w.heap.size w w1) := by rw [← hw1]; exact (Below.refl _ w).alloc (Nat.le_refl _) _
  have HE1 : Hid (Has w1 w.heap.size 59 #[.string ⟨#[]⟩, .bool false, .string ⟨#[]⟩]) := by rw [← hw1]; exact Has.new _ _ _
  have hbl : b < w.heap.size := h.lt.1
  have HWA := Lib.hid (h.below HB1.out)
  have HRL := Lib.hid (And.intro hz (And.intro hrl hf))
  obtain ⟨A, n, c, T, hW⟩ := id HWA.out
  have HH := Lib.hid hW.top
  obtain ⟨sz, num', M, K, af, tbl, dn, en, sp, R⟩ := a
  dsimp only at h0 h1 hn hsp hz hrl hf HRL HH
  have hn := hn.symm
  subst hn hsp
  dsimp only [Wn.cells] at HH
  have m1 : w1.cell? ⟨b, 1, none⟩ = some (.int .i64 num) := HH.out.cell 1
  have m5 : w1.cell? ⟨b, 5, none⟩ = some (.string tbl) := HH.out.cell 5
  have m6 : w1.cell? ⟨b, 6, none⟩ = some (.bool dn) := HH.out.cell 6
  have m7 : w1.cell? ⟨b, 7, none⟩ = some (.string en) := HH.out.cell 7
  have m9 : w1.cell? ⟨b, 9, none⟩ = some (.bool true) := HH.out.cell 9
  have hno : (num != -1) = true := by simpa using hn0
  have hnn : (num != num) = false := by simp
  have HO := Lib.hid (wopenA_any HWA.out)
  dsimp only at HO
  rw [hno] at HO
  have HR := Lib.hid (fun (W : World) (hb : Below w1.heap.size w1 W) => wrowsA_any (HWA.out.below hb) HRL.out.1 HRL.out.2.1 HRL.out.2.2)
  dsimp only at HR
  clear hW h hz hrl hf
  go_enter Tryd.func22, Tryd.ntmps22
  go_wp2_with fail
  clear hw1
  refine HO.out.mono ?_
  rintro e wz ⟨rfl, hwz⟩
  obtain rfl : w1 = wz := hwz.symm
  go_wp2_with fail
  refine wp_region_held_drew (S := fun X => X.cell? ⟨b, 5, none⟩ = some (.string tbl) ∧ X.cell? ⟨b, 6, none⟩ = some (.bool dn) ∧ X.cell? ⟨b, 7, none⟩ = some (.string en) ∧ X.cell? ⟨b, 9, none⟩ = some (.bool true)) (by kernel_rfl) (by exact ⟨m5, m6, m7, m9⟩) (fun _ => ?_)
  (refine wpAnyH_take (i := 0) (v := ?_) rfl (by kernel_rfl) (by kernel_rfl) (by kernel_rfl) (fun _ _ _ h => h) (Or.inl ⟨by rfl, ?_⟩) (by assumption) ?_; rotate_left; (intro w hSw; (try dsimp only at hSw); go_simp; try with_reducible rfl); ((try simp only [List.getElem_toArray]); (try simp only [List.getElem_cons_succ]); (try simp only [List.getElem_cons_zero]); (try simp only [Act.put]); (try simp only [List.setIfInBounds_toArray]); (try simp only [List.set_cons_succ]); (try simp only [List.set_cons_zero])))
  (refine wpAnyH_take (i := 2) (v := ?_) rfl (by kernel_rfl) (by kernel_rfl) (by kernel_rfl) (fun _ _ _ h => h) (Or.inl ⟨by rfl, ?_⟩) (by assumption) ?_; rotate_left; (intro w hSw; (try dsimp only at hSw); go_simp; try with_reducible rfl); ((try simp only [List.getElem_toArray]); (try simp only [List.getElem_cons_succ]); (try simp only [List.getElem_cons_zero]); (try simp only [Act.put]); (try simp only [List.setIfInBounds_toArray]); (try simp only [List.set_cons_succ]); (try simp only [List.set_cons_zero])))
  (refine wpAnyH_take (i := 3) (v := ?_) rfl (by kernel_rfl) (by kernel_rfl) (by kernel_rfl) (fun _ _ _ h => h) (Or.inl ⟨by rfl, ?_⟩) (by assumption) ?_; rotate_left; (intro w hSw; (try dsimp only at hSw); go_simp; try with_reducible rfl); ((try simp only [List.getElem_toArray]); (try simp only [List.getElem_cons_succ]); (try simp only [List.getElem_cons_zero]); (try simp only [Act.put]); (try simp only [List.setIfInBounds_toArray]); (try simp only [List.set_cons_succ]); (try simp only [List.set_cons_zero])))
  (refine wpAnyH_take (i := 4) (v := ?_) rfl (by kernel_rfl) (by kernel_rfl) (by kernel_rfl) (fun _ _ _ h => h) (Or.inl ⟨by rfl, ?_⟩) (by assumption) ?_; rotate_left; (intro w hSw; (try dsimp only at hSw); go_simp; try with_reducible rfl); ((try simp only [List.getElem_toArray]); (try simp only [List.getElem_cons_succ]); (try simp only [List.getElem_cons_zero]); (try simp only [Act.put]); (try simp only [List.setIfInBounds_toArray]); (try simp only [List.set_cons_succ]); (try simp only [List.set_cons_zero])))
  (refine wpAnyH_take (i := 5) (v := ?_) rfl (by kernel_rfl) (by kernel_rfl) (by kernel_rfl) (fun _ _ _ h => h) (Or.inl ⟨by rfl, ?_⟩) (by assumption) ?_; rotate_left; (intro w hSw; (try dsimp only at hSw); go_simp; try with_reducible rfl); ((try simp only [List.getElem_toArray]); (try simp only [List.getElem_cons_succ]); (try simp only [List.getElem_cons_zero]); (try simp only [Act.put]); (try simp only [List.setIfInBounds_toArray]); (try simp only [List.set_cons_succ]); (try simp only [List.set_cons_zero])))
  (refine wpAnyH_take (i := 6) (v := ?_) rfl (by kernel_rfl) (by kernel_rfl) (by kernel_rfl) (fun _ _ _ h => h) (Or.inl ⟨by rfl, ?_⟩) (by assumption) ?_; rotate_left; (intro w hSw; (try dsimp only at hSw); go_simp; try with_reducible rfl); ((try simp only [List.getElem_toArray]); (try simp only [List.getElem_cons_succ]); (try simp only [List.getElem_cons_zero]); (try simp only [Act.put]); (try simp only [List.setIfInBounds_toArray]); (try simp only [List.set_cons_succ]); (try simp only [List.set_cons_zero])))
  (refine wpAnyH_take (i := 7) (v := ?_) rfl (by kernel_rfl) (by kernel_rfl) (by kernel_rfl) (fun _ _ _ h => h) (Or.inl ⟨by rfl, ?_⟩) (by assumption) ?_; rotate_left; (intro w hSw; (try dsimp only at hSw); go_simp; try with_reducible rfl); ((try simp only [List.getElem_toArray]); (try simp only [List.getElem_cons_succ]); (try simp only [List.getElem_cons_zero]); (try simp only [Act.put]); (try simp only [List.setIfInBounds_toArray]); (try simp only [List.set_cons_succ]); (try simp only [List.set_cons_zero])))
  (refine wpAnyH_take (i := 8) (v := ?_) rfl (by kernel_rfl) (by kernel_rfl) (by kernel_rfl) (fun _ _ _ h => h) (Or.inl ⟨by rfl, ?_⟩) (by assumption) ?_; rotate_left; (intro w hSw; (try dsimp only at hSw); go_simp; try with_reducible rfl); ((try simp only [List.getElem_toArray]); (try simp only [List.getElem_cons_succ]); (try simp only [List.getElem_cons_zero]); (try simp only [Act.put]); (try simp only [List.setIfInBounds_toArray]); (try simp only [List.set_cons_succ]); (try simp only [List.set_cons_zero])))
  (refine wpAnyH_take (i := 9) (v := ?_) rfl (by kernel_rfl) (by kernel_rfl) (by kernel_rfl) (fun _ _ _ h => h) (Or.inl ⟨by rfl, ?_⟩) (by assumption) ?_; rotate_left; (intro w hSw; (try dsimp only at hSw); go_simp; try with_reducible rfl); ((try simp only [List.getElem_toArray]); (try simp only [List.getElem_cons_succ]); (try simp only [List.getElem_cons_zero]); (try simp only [Act.put]); (try simp only [List.setIfInBounds_toArray]); (try simp only [List.set_cons_succ]); (try simp only [List.set_cons_zero])))
  (refine wpAnyH_take (i := 10) (v := ?_) rfl (by kernel_rfl) (by kernel_rfl) (by kernel_rfl) (fun _ _ _ h => h) (Or.inl ⟨by rfl, ?_⟩) (by assumption) ?_; rotate_left; (intro w hSw; (try dsimp only at hSw); go_simp; try with_reducible rfl); ((try simp only [List.getElem_toArray]); (try simp only [List.getElem_cons_succ]); (try simp only [List.getElem_cons_zero]); (try simp only [Act.put]); (try simp only [List.setIfInBounds_toArray]); (try simp only [List.set_cons_succ]); (try simp only [List.set_cons_zero])))
  refine wpAnyH_ready (rs := [1, 11]) (by kernel_rfl) (by simp) ?_
  refine AllReadyH.cons rfl (fun K2 hK2 => ?_) (AllReadyH.cons rfl (fun K2 hK2 => ?_) AllReadyH.nil)
  · go_simp
    refine ((HR.out _ (Below.refl _ _).drew)).mono ?_
    rintro e w2 ⟨A2, n2, c2, S2, rfl, ho, hr, hb⟩
    have HB2 : Hid (Below w1.heap.size w1 w2) := (Below.refl w1.heap.size w1).drew.trans hb.out
    have HH2 := Lib.hid (HH.out.below HB2.out HH.out.lt)
    have k5 : w2.cell? ⟨b, 5, none⟩ = some (.string tbl) := HH2.out.cell 5
    have k6 : w2.cell? ⟨b, 6, none⟩ = some (.bool dn) := HH2.out.cell 6
    have k7 : w2.cell? ⟨b, 7, none⟩ = some (.string en) := HH2.out.cell 7
    have k9 : w2.cell? ⟨b, 9, none⟩ = some (.bool true) := HH2.out.cell 9
    clear ho hb
    go_wp2_with fail
    refine hK2.out _ _ (by (try dsimp only); exact ⟨k5, k6, k7, k9⟩) (fun _ => ?_)
    clear hK2 K2
    (try simp only [List.getElem_toArray]); (try simp only [List.getElem_cons_succ]); (try simp only [List.getElem_cons_zero]); (try simp only [Act.put]); (try simp only [List.setIfInBounds_toArray]); (try simp only [List.set_cons_succ]); (try simp only [List.set_cons_zero])
    refine wpAnyH_ready (rs := [11]) (by kernel_rfl) (by simp) ?_
    refine AllReadyH.cons rfl (fun K2 hK2 => ?_) AllReadyH.nil
    go_simp
    have HA3a := Lib.hid ((Below.refl w2.heap.size w2).alloc (Nat.le_refl _) (.cells #[.string ⟨#[]⟩, .bool false, .string ⟨#[]⟩] 59))
    have HE3a := Lib.hid (Has.new w2 59 #[.string ⟨#[]⟩, .bool false, .string ⟨#[]⟩])
    obtain ⟨w3, hw3⟩ : ∃ W, w2.alloc (.cells #[.string ⟨#[]⟩, .bool false, .string ⟨#[]⟩] 59) = W := ⟨_, rfl⟩
    rw [hw3] at HA3a HE3a
    rw [hw3]
    clear hw3
    have HB3 : Hid (Below w1.heap.size w1 w3) := HB2.out.trans (HA3a.out.mono HB2.out.size)
    have HE3 := Lib.hid HE3a.out
    have HH3 := Lib.hid (HH2.out.below HA3a.out HH2.out.lt)
    have hR3 := Lib.hid (hr.out.below HA3a.out)
    clear HA3a HE3a hr k5 k6 k7 k9
    have j5 : w3.cell? ⟨b, 5, none⟩ = some (.string tbl) := HH3.out.cell 5
    have j6 : w3.cell? ⟨b, 6, none⟩ = some (.bool dn) := HH3.out.cell 6
    have j7 : w3.cell? ⟨b, 7, none⟩ = some (.string en) := HH3.out.cell 7
    have j9 : w3.cell? ⟨b, 9, none⟩ = some (.bool true) := HH3.out.cell 9
    refine hK2.out _ _ (by (try dsimp only); exact ⟨j5, j6, j7, j9⟩) (fun _ => ?_)
    clear hK2 K2
    (try simp only [List.getElem_toArray]); (try simp only [List.getElem_cons_succ]); (try simp only [List.getElem_cons_zero]); (try simp only [Act.put]); (try simp only [List.setIfInBounds_toArray]); (try simp only [List.set_cons_succ]); (try simp only [List.set_cons_zero])
    (refine wpAnyH_take (i := 12) (v := ?_) rfl (by kernel_rfl) (by kernel_rfl) (by kernel_rfl) (fun _ _ _ h => h) (Or.inl ⟨by rfl, ?_⟩) (by assumption) ?_; rotate_left; (intro w hSw; (try dsimp only at hSw); go_simp; try with_reducible rfl); ((try simp only [List.getElem_toArray]); (try simp only [List.getElem_cons_succ]); (try simp only [List.getElem_cons_zero]); (try simp only [Act.put]); (try simp only [List.setIfInBounds_toArray]); (try simp only [List.set_cons_succ]); (try simp only [List.set_cons_zero])))
    have fg0 := HE3.out.free 0
    have fg1 := HE3.out.free 1
    have fg2 := HE3.out.free 2
    have cg0 : w3.cell? ⟨w2.heap.size, 0, none⟩ = some (.string ⟨#[]⟩) := HE3.out.cell 0
    have cg1 : w3.cell? ⟨w2.heap.size, 1, none⟩ = some (.bool false) := HE3.out.cell 1
    have cg2 : w3.cell? ⟨w2.heap.size, 2, none⟩ = some (.string ⟨#[]⟩) := HE3.out.cell 2
    refine wpAnyH_ready (rs := [13]) (by kernel_rfl) (by simp) ?_
    refine AllReadyH.cons rfl (fun K2 hK2 => ?_) AllReadyH.nil
    go_simp
    have HT4a : Hid (Tur [w2.heap.size] w3 (((w3.setCell ⟨w2.heap.size, 0, none⟩ (.string tbl)).setCell ⟨w2.heap.size, 1, none⟩ (.bool dn)).setCell ⟨w2.heap.size, 2, none⟩ (.string en))) := (((Tur.setCell w3 (p := ⟨w2.heap.size, 0, none⟩) (by simp) _).trans (Tur.setCell _ (p := ⟨w2.heap.size, 1, none⟩) (by simp) _) (Fre.refl _ _)).trans (Tur.setCell _ (p := ⟨w2.heap.size, 2, none⟩) (by simp) _) (Fre.refl _ _))
    have HE4a : Hid (Has (((w3.setCell ⟨w2.heap.size, 0, none⟩ (.string tbl)).setCell ⟨w2.heap.size, 1, none⟩ (.bool dn)).setCell ⟨w2.heap.size, 2, none⟩ (.string en)) w2.heap.size 59 #[.string tbl, .bool dn, .string en]) := (((HE3.out.put 0 _).put 1 _).put 2 _)
    obtain ⟨w4, hw4⟩ : ∃ W, (((w3.setCell ⟨w2.heap.size, 0, none⟩ (.string tbl)).setCell ⟨w2.heap.size, 1, none⟩ (.bool dn)).setCell ⟨w2.heap.size, 2, none⟩ (.string en)) = W := ⟨_, rfl⟩
    rw [hw4] at HT4a HE4a
    rw [hw4]
    clear hw4
    have HT4 := Lib.hid HT4a.out
    have HE4 := Lib.hid HE4a.out
    clear HT4a HE4a fg0 fg1 fg2 cg0 cg1 cg2 j5 j6 j7 j9
    have hgl : w1.heap.size ≤ w2.heap.size := by first | exact Nat.le_refl _ | exact HB2.out.size
    have HB4 : Hid (Below w1.heap.size w1 w4) := HB3.out.trans (HT4.out.below (fun z hz => by rw [List.mem_singleton.1 hz]; exact hgl) HB3.out.size)
    have HH4 := Lib.hid (HH.out.below HB4.out HH.out.lt)
    have l5 : w4.cell? ⟨b, 5, none⟩ = some (.string tbl) := HH4.out.cell 5
    have l6 : w4.cell? ⟨b, 6, none⟩ = some (.bool dn) := HH4.out.cell 6
    have l7 : w4.cell? ⟨b, 7, none⟩ = some (.string en) := HH4.out.cell 7
    have l9 : w4.cell? ⟨b, 9, none⟩ = some (.bool true) := HH4.out.cell 9
    refine hK2.out _ _ (by (try dsimp only); exact ⟨l5, l6, l7, l9⟩) (fun _ => ?_)
    clear hK2 K2
    (try simp only [List.getElem_toArray]); (try simp only [List.getElem_cons_succ]); (try simp only [List.getElem_cons_zero]); (try simp only [Act.put]); (try simp only [List.setIfInBounds_toArray]); (try simp only [List.set_cons_succ]); (try simp only [List.set_cons_zero])
    (refine wpAnyH_take (i := 14) (v := ?_) rfl (by kernel_rfl) (by kernel_rfl) (by kernel_rfl) (fun _ _ _ h => h) (Or.inl ⟨by rfl, ?_⟩) (by assumption) ?_; rotate_left; (intro w hSw; (try dsimp only at hSw); go_simp; try with_reducible rfl); ((try simp only [List.getElem_toArray]); (try simp only [List.getElem_cons_succ]); (try simp only [List.getElem_cons_zero]); (try simp only [Act.put]); (try simp only [List.setIfInBounds_toArray]); (try simp only [List.set_cons_succ]); (try simp only [List.set_cons_zero])))
    refine wpAnyH_done (by kernel_rfl) ?_ _
    clear l5 l6 l7 l9
    go_wp2_with fail
    refine (wclearA_any (HWA.out.below HB4.out) h0 h1).mono ?_
    rintro e w5 ⟨rfl, ⟨tb', hw5, htb⟩, ht5⟩
    have HBw4 := Lib.hid (HB1.out.trans (HB4.out.mono HB1.out.size))
    have HE15 := Lib.hid ((HE1.out.below HB4.out HE1.out.lt).tur ht5.out (fun hx => by have := List.mem_singleton.1 hx; omega))
    have HE45 := Lib.hid (HE4.out.tur ht5.out (fun hx => by have := List.mem_singleton.1 hx; have := HB1.out.size; omega))
    have HTA := Lib.hid ((Tur.of_below (X := [b]) HBw4.out).trans ht5.out (Fre.refl _ _))
    have q0 : w5.cell? ⟨w.heap.size, 0, none⟩ = some (.string ⟨#[]⟩) := HE15.out.cell 0
    have q1 : w5.cell? ⟨w.heap.size, 1, none⟩ = some (.bool false) := HE15.out.cell 1
    have q2 : w5.cell? ⟨w.heap.size, 2, none⟩ = some (.string ⟨#[]⟩) := HE15.out.cell 2
    have r0 : w5.cell? ⟨w2.heap.size, 0, none⟩ = some (.string tbl) := HE45.out.cell 0
    have r1 : w5.cell? ⟨w2.heap.size, 1, none⟩ = some (.bool dn) := HE45.out.cell 1
    have r2 : w5.cell? ⟨w2.heap.size, 2, none⟩ = some (.string en) := HE45.out.cell 2
    have fq0 := HE15.out.free 0
    have fq1 := HE15.out.free 1
    have fq2 := HE15.out.free 2
    go_wp2_with fail
    have HTs : Tur [w.heap.size] w5 (((w5.setCell ⟨w.heap.size, 0, none⟩ (.string ⟨#[]⟩)).setCell ⟨w.heap.size, 1, none⟩ (.bool false)).setCell ⟨w.heap.size, 2, none⟩ (.string ⟨#[]⟩)) := (((Tur.setCell w5 (p := ⟨w.heap.size, 0, none⟩) (by simp) _).trans (Tur.setCell _ (p := ⟨w.heap.size, 1, none⟩) (by simp) _) (Fre.refl _ _)).trans (Tur.setCell _ (p := ⟨w.heap.size, 2, none⟩) (by simp) _) (Fre.refl _ _))
    have htl : w.heap.size < tb' := by have := htb.out; have := HE1.out.lt; have := HB4.out.size; omega
    have hOff : Off w5 b tb' [w.heap.size] := fun z hz => by rw [List.mem_singleton.1 hz]; exact ⟨by omega, by omega, _, _, HE15.out, by decide, by decide, by decide⟩
    have HES : Hid (Has (((w5.setCell ⟨w.heap.size, 0, none⟩ (.string ⟨#[]⟩)).setCell ⟨w.heap.size, 1, none⟩ (.bool false)).setCell ⟨w.heap.size, 2, none⟩ (.string ⟨#[]⟩)) w.heap.size 59 #[.string ⟨#[]⟩, .bool false, .string ⟨#[]⟩]) := (((HE15.out.put 0 _).put 1 _).put 2 _)
    exact bodyPost_ret (wEnd4 rfl _ w.heap.size _ _ _ _ rfl HES.out) rfl ⟨rfl, ⟨tb', fun lo => (hw5.out lo).turX HTs hOff, Nat.le_of_lt htl⟩, HTA.out.trans HTs (fun z hz => .inr (by rw [List.mem_singleton.1 hz]; exact Nat.le_refl _))⟩
  · go_simp
    have HA2a := Lib.hid (((Below.refl w1.heap.size w1).alloc (Nat.le_refl _) (.cells #[.string ⟨#[]⟩, .bool false, .string ⟨#[]⟩] 59)).drew)
    have HE2a := Lib.hid ((Has.new w1 59 #[.string ⟨#[]⟩, .bool false, .string ⟨#[]⟩]).below ((Below.refl _ _).drew) (Has.new w1 59 #[.string ⟨#[]⟩, .bool false, .string ⟨#[]⟩]).lt)
    obtain ⟨wa, hwa⟩ : ∃ W, (w1.alloc (.cells #[.string ⟨#[]⟩, .bool false, .string ⟨#[]⟩] 59)).drew = W := ⟨_, rfl⟩
    rw [hwa] at HA2a HE2a
    rw [hwa]
    clear hwa
    have HB2 : Hid (Below w1.heap.size w1 wa) := HA2a.out
    have HE2 : Hid (Has wa w1.heap.size 59 #[.string ⟨#[]⟩, .bool false, .string ⟨#[]⟩]) := HE2a.out
    clear HA2a HE2a
    have HHa := Lib.hid (HH.out.below HB2.out HH.out.lt)
    have k5 : wa.cell? ⟨b, 5, none⟩ = some (.string tbl) := HHa.out.cell 5
    have k6 : wa.cell? ⟨b, 6, none⟩ = some (.bool dn) := HHa.out.cell 6
    have k7 : wa.cell? ⟨b, 7, none⟩ = some (.string en) := HHa.out.cell 7
    have k9 : wa.cell? ⟨b, 9, none⟩ = some (.bool true) := HHa.out.cell 9
    refine hK2.out _ _ (by (try dsimp only); exact ⟨k5, k6, k7, k9⟩) (fun _ => ?_)
    clear hK2 K2
    (try simp only [List.getElem_toArray]); (try simp only [List.getElem_cons_succ]); (try simp only [List.getElem_cons_zero]); (try simp only [Act.put]); (try simp only [List.setIfInBounds_toArray]); (try simp only [List.set_cons_succ]); (try simp only [List.set_cons_zero])
    refine wpAnyH_ready (rs := [1]) (by kernel_rfl) (by simp) ?_
    refine AllReadyH.cons rfl (fun K2 hK2 => ?_) AllReadyH.nil
    go_simp
    refine (HR.out _ HB2.out).mono ?_
    rintro e w3 ⟨A2, n2, c2, S2, rfl, ho, hr, hb⟩
    have HB3 : Hid (Below w1.heap.size w1 w3) := HB2.out.trans (hb.out.mono HB2.out.size)
    have HE3 := Lib.hid (HE2.out.below hb.out HE2.out.lt)
    have HH3 := Lib.hid (HHa.out.below hb.out HHa.out.lt)
    have hR3 := Lib.hid hr.out
    clear ho hb hr k5 k6 k7 k9
    go_wp2_with fail
    have j5 : w3.cell? ⟨b, 5, none⟩ = some (.string tbl) := HH3.out.cell 5
    have j6 : w3.cell? ⟨b, 6, none⟩ = some (.bool dn) := HH3.out.cell 6
    have j7 : w3.cell? ⟨b, 7, none⟩ = some (.string en) := HH3.out.cell 7
    have j9 : w3.cell? ⟨b, 9, none⟩ = some (.bool true) := HH3.out.cell 9
    refine hK2.out _ _ (by (try dsimp only); exact ⟨j5, j6, j7, j9⟩) (fun _ => ?_)
    clear hK2 K2
    (try simp only [List.getElem_toArray]); (try simp only [List.getElem_cons_succ]); (try simp only [List.getElem_cons_zero]); (try simp only [Act.put]); (try simp only [List.setIfInBounds_toArray]); (try simp only [List.set_cons_succ]); (try simp only [List.set_cons_zero])
    (refine wpAnyH_take (i := 12) (v := ?_) rfl (by kernel_rfl) (by kernel_rfl) (by kernel_rfl) (fun _ _ _ h => h) (Or.inl ⟨by rfl, ?_⟩) (by assumption) ?_; rotate_left; (intro w hSw; (try dsimp only at hSw); go_simp; try with_reducible rfl); ((try simp only [List.getElem_toArray]); (try simp only [List.getElem_cons_succ]); (try simp only [List.getElem_cons_zero]); (try simp only [Act.put]); (try simp only [List.setIfInBounds_toArray]); (try simp only [List.set_cons_succ]); (try simp only [List.set_cons_zero])))
    have fg0 := HE3.out.free 0
    have fg1 := HE3.out.free 1
    have fg2 := HE3.out.free 2
    have cg0 : w3.cell? ⟨w1.heap.size, 0, none⟩ = some (.string ⟨#[]⟩) := HE3.out.cell 0
    have cg1 : w3.cell? ⟨w1.heap.size, 1, none⟩ = some (.bool false) := HE3.out.cell 1
    have cg2 : w3.cell? ⟨w1.heap.size, 2, none⟩ = some (.string ⟨#[]⟩) := HE3.out.cell 2
    refine wpAnyH_ready (rs := [13]) (by kernel_rfl) (by simp) ?_
    refine AllReadyH.cons rfl (fun K2 hK2 => ?_) AllReadyH.nil
    go_simp
    have HT4a : Hid (Tur [w1.heap.size] w3 (((w3.setCell ⟨w1.heap.size, 0, none⟩ (.string tbl)).setCell ⟨w1.heap.size, 1, none⟩ (.bool dn)).setCell ⟨w1.heap.size, 2, none⟩ (.string en))) := (((Tur.setCell w3 (p := ⟨w1.heap.size, 0, none⟩) (by simp) _).trans (Tur.setCell _ (p := ⟨w1.heap.size, 1, none⟩) (by simp) _) (Fre.refl _ _)).trans (Tur.setCell _ (p := ⟨w1.heap.size, 2, none⟩) (by simp) _) (Fre.refl _ _))
    have HE4a : Hid (Has (((w3.setCell ⟨w1.heap.size, 0, none⟩ (.string tbl)).setCell ⟨w1.heap.size, 1, none⟩ (.bool dn)).setCell ⟨w1.heap.size, 2, none⟩ (.string en)) w1.heap.size 59 #[.string tbl, .bool dn, .string en]) := (((HE3.out.put 0 _).put 1 _).put 2 _)
    obtain ⟨w4, hw4⟩ : ∃ W, (((w3.setCell ⟨w1.heap.size, 0, none⟩ (.string tbl)).setCell ⟨w1.heap.size, 1, none⟩ (.bool dn)).setCell ⟨w1.heap.size, 2, none⟩ (.string en)) = W := ⟨_, rfl⟩
    rw [hw4] at HT4a HE4a
    rw [hw4]
    clear hw4
    have HT4 := Lib.hid HT4a.out
    have HE4 := Lib.hid HE4a.out
    clear HT4a HE4a fg0 fg1 fg2 cg0 cg1 cg2 j5 j6 j7 j9
    have hgl : w1.heap.size ≤ w1.heap.size := by first | exact Nat.le_refl _ | exact HB2.out.size
    have HB4 : Hid (Below w1.heap.size w1 w4) := HB3.out.trans (HT4.out.below (fun z hz => by rw [List.mem_singleton.1 hz]; exact hgl) HB3.out.size)
    have HH4 := Lib.hid (HH.out.below HB4.out HH.out.lt)
    have l5 : w4.cell? ⟨b, 5, none⟩ = some (.string tbl) := HH4.out.cell 5
    have l6 : w4.cell? ⟨b, 6, none⟩ = some (.bool dn) := HH4.out.cell 6
    have l7 : w4.cell? ⟨b, 7, none⟩ = some (.string en) := HH4.out.cell 7
    have l9 : w4.cell? ⟨b, 9, none⟩ = some (.bool true) := HH4.out.cell 9
    refine hK2.out _ _ (by (try dsimp only); exact ⟨l5, l6, l7, l9⟩) (fun _ => ?_)
    clear hK2 K2
    (try simp only [List.getElem_toArray]); (try simp only [List.getElem_cons_succ]); (try simp only [List.getElem_cons_zero]); (try simp only [Act.put]); (try simp only [List.setIfInBounds_toArray]); (try simp only [List.set_cons_succ]); (try simp only [List.set_cons_zero])
    (refine wpAnyH_take (i := 14) (v := ?_) rfl (by kernel_rfl) (by kernel_rfl) (by kernel_rfl) (fun _ _ _ h => h) (Or.inl ⟨by rfl, ?_⟩) (by assumption) ?_; rotate_left; (intro w hSw; (try dsimp only at hSw); go_simp; try with_reducible rfl); ((try simp only [List.getElem_toArray]); (try simp only [List.getElem_cons_succ]); (try simp only [List.getElem_cons_zero]); (try simp only [Act.put]); (try simp only [List.setIfInBounds_toArray]); (try simp only [List.set_cons_succ]); (try simp only [List.set_cons_zero])))
    refine wpAnyH_done (by kernel_rfl) ?_ _
    clear l5 l6 l7 l9
    go_wp2_with fail
    refine (wclearA_any (HWA.out.below HB4.out) h0 h1).mono ?_
    rintro e w5 ⟨rfl, ⟨tb', hw5, htb⟩, ht5⟩
    have HBw4 := Lib.hid (HB1.out.trans (HB4.out.mono HB1.out.size))
    have HE15 := Lib.hid ((HE1.out.below HB4.out HE1.out.lt).tur ht5.out (fun hx => by have := List.mem_singleton.1 hx; omega))
    have HE45 := Lib.hid (HE4.out.tur ht5.out (fun hx => by have := List.mem_singleton.1 hx; have := HB1.out.size; omega))
    have HTA := Lib.hid ((Tur.of_below (X := [b]) HBw4.out).trans ht5.out (Fre.refl _ _))
    have q0 : w5.cell? ⟨w.heap.size, 0, none⟩ = some (.string ⟨#[]⟩) := HE15.out.cell 0
    have q1 : w5.cell? ⟨w.heap.size, 1, none⟩ = some (.bool false) := HE15.out.cell 1
    have q2 : w5.cell? ⟨w.heap.size, 2, none⟩ = some (.string ⟨#[]⟩) := HE15.out.cell 2
    have r0 : w5.cell? ⟨w1.heap.size, 0, none⟩ = some (.string tbl) := HE45.out.cell 0
    have r1 : w5.cell? ⟨w1.heap.size, 1, none⟩ = some (.bool dn) := HE45.out.cell 1
    have r2 : w5.cell? ⟨w1.heap.size, 2, none⟩ = some (.string en) := HE45.out.cell 2
    have fq0 := HE15.out.free 0
    have fq1 := HE15.out.free 1
    have fq2 := HE15.out.free 2
    go_wp2_with fail
    have HTs : Tur [w.heap.size] w5 (((w5.setCell ⟨w.heap.size, 0, none⟩ (.string ⟨#[]⟩)).setCell ⟨w.heap.size, 1, none⟩ (.bool false)).setCell ⟨w.heap.size, 2, none⟩ (.string ⟨#[]⟩)) := (((Tur.setCell w5 (p := ⟨w.heap.size, 0, none⟩) (by simp) _).trans (Tur.setCell _ (p := ⟨w.heap.size, 1, none⟩) (by simp) _) (Fre.refl _ _)).trans (Tur.setCell _ (p := ⟨w.heap.size, 2, none⟩) (by simp) _) (Fre.refl _ _))
    have htl : w.heap.size < tb' := by have := htb.out; have := HE1.out.lt; have := HB4.out.size; omega
    have hOff : Off w5 b tb' [w.heap.size] := fun z hz => by rw [List.mem_singleton.1 hz]; exact ⟨by omega, by omega, _, _, HE15.out, by decide, by decide, by decide⟩
    have HES : Hid (Has (((w5.setCell ⟨w.heap.size, 0, none⟩ (.string ⟨#[]⟩)).setCell ⟨w.heap.size, 1, none⟩ (.bool false)).setCell ⟨w.heap.size, 2, none⟩ (.string ⟨#[]⟩)) w.heap.size 59 #[.string ⟨#[]⟩, .bool false, .string ⟨#[]⟩]) := (((HE15.out.put 0 _).put 1 _).put 2 _)
    exact bodyPost_ret (wEnd4 rfl _ w.heap.size _ _ _ _ rfl HES.out) rfl ⟨rfl, ⟨tb', fun lo => (hw5.out lo).turX HTs hOff, Nat.le_of_lt htl⟩, HTA.out.trans HTs (fun z hz => .inr (by rw [List.mem_singleton.1 hz]; exact Nat.le_refl _))⟩
end Go.Proofs.YtcdjeibcnkpadaaDoor
