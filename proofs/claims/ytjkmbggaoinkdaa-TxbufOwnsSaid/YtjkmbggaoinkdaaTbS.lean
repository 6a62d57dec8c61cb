/-
  The document's Same of rows of events that are the same.
-/
import Derived.Test.YtjkmbggaoinkdaaTbW
import Derived.Deep.RegionHeld3
namespace Go.Proofs.Ytjkmbggaoinkdaa
open Go.RowKit Go.Maps Dg
set_option maxRecDepth 100000
set_option linter.unusedVariables false
theorem keepE {W W' : World} {a : Addr} {v : Value} (hb : Below W.heap.size W W') (h : W.cell? a = some v) : W'.cell? a = some v := (hb.cell (World.block_lt_of_cell? _ _ h)).trans h
theorem ERow.at {w : World} {A : Option Addr} {T : List Er} (h : ERow w A T) (k : Nat) (hk : k < T.length) : ∃ b o, A = some ⟨b, o, none⟩ ∧ ∀ j, j < 12 → w.cell? ⟨b, o + k * 12 + j, none⟩ = T[k].row[j]? := by
  obtain ⟨b, o, e, hc⟩ := h (by intro e; rw [e] at hk; simp at hk)
  exact ⟨b, o, e, fun j hj => hc k hk j hj⟩
set_option maxHeartbeats 4000000 in
theorem rsame7_any (A : Option Addr) (T : List Er) (n c : Nat) (A' : Option Addr) (T' : List Er) (n' c' : Nat) (w : World) (hn : T.length = n) (hn' : T'.length = n') (hl : n ≤ 1000000) (hA : ERow w A T) (hA' : ERow w A' T') (hok : ∀ r ∈ T, r.ok w) (hok' : ∀ r ∈ T', r.ok w) (hm : T.map Er.x = T'.map Er.x) :
    Calls Try.prog 14 #[.slice A n c, .slice A' n' c'] w fun e w' => e = .returned (.bool true) ∧ Hid (Below w.heap.size w w') := by
  obtain rfl : n = n' := by
    have := congrArg List.length hm
    simp at this
    omega
  have HN := Lib.hid hn
  have HN' := Lib.hid hn'
  have HA := Lib.hid hA
  have HA' := Lib.hid hA'
  have HO : Hid ((∀ r ∈ T, r.ok w) ∧ (∀ r ∈ T', r.ok w)) := ⟨hok, hok'⟩
  have HM := Lib.hid hm
  clear hn hn' hA hA' hok hok' hm
  go_enter Try.func14, Try.ntmps14
  go_wp2_with fail
  go_loopw [5] (fun i wr => ∃ k : Nat, k ≤ n ∧ i = .int .i64 k ∧ Hid (Below w.heap.size w wr)) (fun i _ => n - (intOf i).toNat)
  case atStart => exact ⟨0, by omega, rfl, Below.refl _ _⟩
  case round =>
    obtain ⟨k, hk, rfl, HB⟩ := hrel
    by_cases hlt : k < n
    · have hkl : k < T.length := by rw [HN.out]; exact hlt
      have hkm : k < T'.length := by rw [HN'.out]; exact hlt
      have hkz : (k : Int) < (n : Int) := by omega
      obtain ⟨b1, o1, rfl, hc⟩ := (HA.out.below HB.out).at k hkl
      obtain ⟨b2, o2, rfl, hc'⟩ := (HA'.out.below HB.out).at k hkm
      obtain ⟨r, hr⟩ : ∃ r, T[k] = r := ⟨_, rfl⟩
      obtain ⟨s, hs⟩ : ∃ s, T'[k] = s := ⟨_, rfl⟩
      have hrs : r.x = s.x := by
        have h1 : (T.map Er.x)[k]'(by simpa using hkl) = r.x := by simp [hr]
        have h2 : (T'.map Er.x)[k]'(by simpa using hkm) = s.x := by simp [hs]
        rw [← h1, ← h2]
        simp only [HM.out]
      have HRO := Lib.hid ((HO.out.1 r (hr ▸ List.getElem_mem hkl)).below HB.out)
      have HSO := Lib.hid ((HO.out.2 s (hs ▸ List.getElem_mem hkm)).below HB.out)
      have HSM : Hid (∀ W, Below wr.heap.size wr W → Calls Try.prog 20 #[r.val, s.val] W fun e w' => e = .returned (.bool true) ∧ Hid (Below W.heap.size W w')) := fun W hb => by
        have q := resame_any r.val s.val r.x s.x W (HRO.out.below hb).at (HSO.out.below hb).at
        rw [hrs, evF_refl] at q
        exact q
      rw [hr] at hc
      rw [hs] at hc'
      have d0 : wr.cell? ⟨b1, o1 + k * 12, none⟩ = some (.int .i64 r.x.k) := hc 0 (by omega)
      have d1 : wr.cell? ⟨b1, o1 + k * 12 + 1, none⟩ = some (.int .i64 r.x.n) := hc 1 (by omega)
      have d2 : wr.cell? ⟨b1, o1 + k * 12 + 2, none⟩ = some (.string r.x.t) := hc 2 (by omega)
      have d3 : wr.cell? ⟨b1, o1 + k * 12 + 3, none⟩ = some (.slice r.Ab r.nb r.zb) := hc 3 (by omega)
      have d4 : wr.cell? ⟨b1, o1 + k * 12 + 4, none⟩ = some (.slice r.Aa r.na r.za) := hc 4 (by omega)
      have d5 : wr.cell? ⟨b1, o1 + k * 12 + 5, none⟩ = some (.int .i64 r.x.ck) := hc 5 (by omega)
      have d6 : wr.cell? ⟨b1, o1 + k * 12 + 6, none⟩ = some (.string r.x.ct) := hc 6 (by omega)
      have d7 : wr.cell? ⟨b1, o1 + k * 12 + 7, none⟩ = some (.slice r.A r.n r.c) := hc 7 (by omega)
      have d8 : wr.cell? ⟨b1, o1 + k * 12 + 8, none⟩ = some (.int .i64 r.x.K) := hc 8 (by omega)
      have d9 : wr.cell? ⟨b1, o1 + k * 12 + 9, none⟩ = some (.string r.x.cl.nm) := hc 9 (by omega)
      have d10 : wr.cell? ⟨b1, o1 + k * 12 + 10, none⟩ = some (.int .i64 r.x.cl.k) := hc 10 (by omega)
      have d11 : wr.cell? ⟨b1, o1 + k * 12 + 11, none⟩ = some (.bool r.x.cl.no) := hc 11 (by omega)
      have e0 : wr.cell? ⟨b2, o2 + k * 12, none⟩ = some (.int .i64 s.x.k) := hc' 0 (by omega)
      have e1 : wr.cell? ⟨b2, o2 + k * 12 + 1, none⟩ = some (.int .i64 s.x.n) := hc' 1 (by omega)
      have e2 : wr.cell? ⟨b2, o2 + k * 12 + 2, none⟩ = some (.string s.x.t) := hc' 2 (by omega)
      have e3 : wr.cell? ⟨b2, o2 + k * 12 + 3, none⟩ = some (.slice s.Ab s.nb s.zb) := hc' 3 (by omega)
      have e4 : wr.cell? ⟨b2, o2 + k * 12 + 4, none⟩ = some (.slice s.Aa s.na s.za) := hc' 4 (by omega)
      have e5 : wr.cell? ⟨b2, o2 + k * 12 + 5, none⟩ = some (.int .i64 s.x.ck) := hc' 5 (by omega)
      have e6 : wr.cell? ⟨b2, o2 + k * 12 + 6, none⟩ = some (.string s.x.ct) := hc' 6 (by omega)
      have e7 : wr.cell? ⟨b2, o2 + k * 12 + 7, none⟩ = some (.slice s.A s.n s.c) := hc' 7 (by omega)
      have e8 : wr.cell? ⟨b2, o2 + k * 12 + 8, none⟩ = some (.int .i64 s.x.K) := hc' 8 (by omega)
      have e9 : wr.cell? ⟨b2, o2 + k * 12 + 9, none⟩ = some (.string s.x.cl.nm) := hc' 9 (by omega)
      have e10 : wr.cell? ⟨b2, o2 + k * 12 + 10, none⟩ = some (.int .i64 s.x.cl.k) := hc' 10 (by omega)
      have e11 : wr.cell? ⟨b2, o2 + k * 12 + 11, none⟩ = some (.bool s.x.cl.no) := hc' 11 (by omega)
      clear hc hc' hr hs hrs HRO HSO hkl hkm
      go_wp2_with fail
      refine wp_region_held_drew (S := (fun X => X.cell? ⟨b1, o1 + k * 12, none⟩ = some (.int .i64 r.x.k) ∧ X.cell? ⟨b1, o1 + k * 12 + 1, none⟩ = some (.int .i64 r.x.n) ∧ X.cell? ⟨b1, o1 + k * 12 + 2, none⟩ = some (.string r.x.t) ∧ X.cell? ⟨b1, o1 + k * 12 + 3, none⟩ = some (.slice r.Ab r.nb r.zb) ∧ X.cell? ⟨b1, o1 + k * 12 + 4, none⟩ = some (.slice r.Aa r.na r.za) ∧ X.cell? ⟨b1, o1 + k * 12 + 5, none⟩ = some (.int .i64 r.x.ck) ∧ X.cell? ⟨b1, o1 + k * 12 + 6, none⟩ = some (.string r.x.ct) ∧ X.cell? ⟨b1, o1 + k * 12 + 7, none⟩ = some (.slice r.A r.n r.c) ∧ X.cell? ⟨b1, o1 + k * 12 + 8, none⟩ = some (.int .i64 r.x.K) ∧ X.cell? ⟨b1, o1 + k * 12 + 9, none⟩ = some (.string r.x.cl.nm) ∧ X.cell? ⟨b1, o1 + k * 12 + 10, none⟩ = some (.int .i64 r.x.cl.k) ∧ X.cell? ⟨b1, o1 + k * 12 + 11, none⟩ = some (.bool r.x.cl.no) ∧ X.cell? ⟨b2, o2 + k * 12, none⟩ = some (.int .i64 s.x.k) ∧ X.cell? ⟨b2, o2 + k * 12 + 1, none⟩ = some (.int .i64 s.x.n) ∧ X.cell? ⟨b2, o2 + k * 12 + 2, none⟩ = some (.string s.x.t) ∧ X.cell? ⟨b2, o2 + k * 12 + 3, none⟩ = some (.slice s.Ab s.nb s.zb) ∧ X.cell? ⟨b2, o2 + k * 12 + 4, none⟩ = some (.slice s.Aa s.na s.za) ∧ X.cell? ⟨b2, o2 + k * 12 + 5, none⟩ = some (.int .i64 s.x.ck) ∧ X.cell? ⟨b2, o2 + k * 12 + 6, none⟩ = some (.string s.x.ct) ∧ X.cell? ⟨b2, o2 + k * 12 + 7, none⟩ = some (.slice s.A s.n s.c) ∧ X.cell? ⟨b2, o2 + k * 12 + 8, none⟩ = some (.int .i64 s.x.K) ∧ X.cell? ⟨b2, o2 + k * 12 + 9, none⟩ = some (.string s.x.cl.nm) ∧ X.cell? ⟨b2, o2 + k * 12 + 10, none⟩ = some (.int .i64 s.x.cl.k) ∧ X.cell? ⟨b2, o2 + k * 12 + 11, none⟩ = some (.bool s.x.cl.no))) (by kernel_rfl) ⟨d0, d1, d2, d3, d4, d5, d6, d7, d8, d9, d10, d11, e0, e1, e2, e3, e4, e5, e6, e7, e8, e9, e10, e11⟩ (fun _ => ?_)
      (refine wpAnyH_take (i := 0) (v := ?_) rfl (by kernel_rfl) (by kernel_rfl) (by kernel_rfl) (fun _ _ _ h => h) (Or.inl ⟨by rfl, ?_⟩) (by assumption) ?_; rotate_left; (intro w hSw; (try dsimp only at hSw); go_simp; try with_reducible rfl); ((try simp only [List.getElem_toArray]); (try simp only [List.getElem_cons_succ]); (try simp only [List.getElem_cons_zero]); (try simp only [Act.put]); (try simp only [List.setIfInBounds_toArray]); (try simp only [List.set_cons_succ]); (try simp only [List.set_cons_zero])))
      (refine wpAnyH_take (i := 1) (v := ?_) rfl (by kernel_rfl) (by kernel_rfl) (by kernel_rfl) (fun _ _ _ h => h) (Or.inl ⟨by rfl, ?_⟩) (by assumption) ?_; rotate_left; (intro w hSw; (try dsimp only at hSw); go_simp; try with_reducible rfl); ((try simp only [List.getElem_toArray]); (try simp only [List.getElem_cons_succ]); (try simp only [List.getElem_cons_zero]); (try simp only [Act.put]); (try simp only [List.setIfInBounds_toArray]); (try simp only [List.set_cons_succ]); (try simp only [List.set_cons_zero])))
      (refine wpAnyH_take (i := 2) (v := ?_) rfl (by kernel_rfl) (by kernel_rfl) (by kernel_rfl) (fun _ _ _ h => h) (Or.inl ⟨by rfl, ?_⟩) (by assumption) ?_; rotate_left; (intro w hSw; (try dsimp only at hSw); go_simp; try with_reducible rfl); ((try simp only [List.getElem_toArray]); (try simp only [List.getElem_cons_succ]); (try simp only [List.getElem_cons_zero]); (try simp only [Act.put]); (try simp only [List.setIfInBounds_toArray]); (try simp only [List.set_cons_succ]); (try simp only [List.set_cons_zero])))
      (refine wpAnyH_take (i := 3) (v := ?_) rfl (by kernel_rfl) (by kernel_rfl) (by kernel_rfl) (fun _ _ _ h => h) (Or.inl ⟨by rfl, ?_⟩) (by assumption) ?_; rotate_left; (intro w hSw; (try dsimp only at hSw); go_simp; try with_reducible rfl); ((try simp only [List.getElem_toArray]); (try simp only [List.getElem_cons_succ]); (try simp only [List.getElem_cons_zero]); (try simp only [Act.put]); (try simp only [List.setIfInBounds_toArray]); (try simp only [List.set_cons_succ]); (try simp only [List.set_cons_zero])))
      (refine wpAnyH_take (i := 4) (v := ?_) rfl (by kernel_rfl) (by kernel_rfl) (by kernel_rfl) (fun _ _ _ h => h) (Or.inl ⟨by rfl, ?_⟩) (by assumption) ?_; rotate_left; (intro w hSw; (try dsimp only at hSw); go_simp; try with_reducible rfl); ((try simp only [List.getElem_toArray]); (try simp only [List.getElem_cons_succ]); (try simp only [List.getElem_cons_zero]); (try simp only [Act.put]); (try simp only [List.setIfInBounds_toArray]); (try simp only [List.set_cons_succ]); (try simp only [List.set_cons_zero])))
      (refine wpAnyH_take (i := 5) (v := ?_) rfl (by kernel_rfl) (by kernel_rfl) (by kernel_rfl) (fun _ _ _ h => h) (Or.inl ⟨by rfl, ?_⟩) (by assumption) ?_; rotate_left; (intro w hSw; (try dsimp only at hSw); go_simp; try with_reducible rfl); ((try simp only [List.getElem_toArray]); (try simp only [List.getElem_cons_succ]); (try simp only [List.getElem_cons_zero]); (try simp only [Act.put]); (try simp only [List.setIfInBounds_toArray]); (try simp only [List.set_cons_succ]); (try simp only [List.set_cons_zero])))
      (refine wpAnyH_take (i := 6) (v := ?_) rfl (by kernel_rfl) (by kernel_rfl) (by kernel_rfl) (fun _ _ _ h => h) (Or.inl ⟨by rfl, ?_⟩) (by assumption) ?_; rotate_left; (intro w hSw; (try dsimp only at hSw); go_simp; try with_reducible rfl); ((try simp only [List.getElem_toArray]); (try simp only [List.getElem_cons_succ]); (try simp only [List.getElem_cons_zero]); (try simp only [Act.put]); (try simp only [List.setIfInBounds_toArray]); (try simp only [List.set_cons_succ]); (try simp only [List.set_cons_zero])))
      (refine wpAnyH_take (i := 7) (v := ?_) rfl (by kernel_rfl) (by kernel_rfl) (by kernel_rfl) (fun _ _ _ h => h) (Or.inl ⟨by rfl, ?_⟩) (by assumption) ?_; rotate_left; (intro w hSw; (try dsimp only at hSw); go_simp; try with_reducible rfl); ((try simp only [List.getElem_toArray]); (try simp only [List.getElem_cons_succ]); (try simp only [List.getElem_cons_zero]); (try simp only [Act.put]); (try simp only [List.setIfInBounds_toArray]); (try simp only [List.set_cons_succ]); (try simp only [List.set_cons_zero])))
      refine wpAnyH_ready (rs := [8]) (by kernel_rfl) (by simp) ?_
      refine AllReadyH.cons rfl (fun K2 hK2 => ?_) AllReadyH.nil
      go_simp
      refine (HSM.out wr.drew (below_drewN (Below.refl _ _) 1)).mono ?_
      rintro e w4 ⟨rfl, hb4⟩
      go_wp2_with fail
      refine hK2.out _ _ (by (try dsimp only); exact ⟨keepE hb4.out d0, keepE hb4.out d1, keepE hb4.out d2, keepE hb4.out d3, keepE hb4.out d4, keepE hb4.out d5, keepE hb4.out d6, keepE hb4.out d7, keepE hb4.out d8, keepE hb4.out d9, keepE hb4.out d10, keepE hb4.out d11, keepE hb4.out e0, keepE hb4.out e1, keepE hb4.out e2, keepE hb4.out e3, keepE hb4.out e4, keepE hb4.out e5, keepE hb4.out e6, keepE hb4.out e7, keepE hb4.out e8, keepE hb4.out e9, keepE hb4.out e10, keepE hb4.out e11⟩) (fun _ => ?_)
      clear hK2 K2
      (try simp only [List.getElem_toArray]); (try simp only [List.getElem_cons_succ]); (try simp only [List.getElem_cons_zero]); (try simp only [Act.put]); (try simp only [List.setIfInBounds_toArray]); (try simp only [List.set_cons_succ]); (try simp only [List.set_cons_zero])
      (refine wpAnyH_take (i := 9) (v := ?_) rfl (by kernel_rfl) (by kernel_rfl) (by kernel_rfl) (fun _ _ _ h => h) (Or.inl ⟨by rfl, ?_⟩) (by assumption) ?_; rotate_left; (intro w hSw; (try dsimp only at hSw); go_simp; try with_reducible rfl); ((try simp only [List.getElem_toArray]); (try simp only [List.getElem_cons_succ]); (try simp only [List.getElem_cons_zero]); (try simp only [Act.put]); (try simp only [List.setIfInBounds_toArray]); (try simp only [List.set_cons_succ]); (try simp only [List.set_cons_zero])))
      refine wpAnyH_done (by kernel_rfl) ?_ _
      have HB4 := Lib.hid ((show Below w.heap.size w wr.drew from HB.out.drew).trans (hb4.out.mono (show w.heap.size ≤ wr.drew.heap.size from HB.out.size)))
      clear hb4 HSM HB d0 e0 d1 e1 d2 e2 d3 e3 d4 e4 d5 e5 d6 e6 d7 e7 d8 e8 d9 e9 d10 e10 d11 e11
      go_wp2_with fail
      go_roundw
      case rel => exact ⟨k + 1, by omega, by go_num, HB4⟩
      case measure => simp [intOf]; omega
    · obtain rfl : k = n := by omega
      have hkz : ¬ (k : Int) < (k : Int) := by omega
      go_wp2_with fail
      go_ret
      exact ⟨by rfl, HB⟩
end Go.Proofs.Ytjkmbggaoinkdaa
