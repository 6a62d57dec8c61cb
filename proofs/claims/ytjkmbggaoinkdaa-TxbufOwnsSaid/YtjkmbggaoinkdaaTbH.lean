/-
  The program's hold, and Put.
-/
import Derived.Test.YtjkmbggaoinkdaaTbP
namespace Go.Proofs.Ytjkmbggaoinkdaa
open Go.RowKit Go.Maps Dg
set_option maxRecDepth 100000
set_option linter.unusedVariables false
theorem wstep_app {P : Program} {ops : Array Oper} {o : Oper} {a : Act} {w : World} {K : Act → World → Prop} {Q : Exit → Act → World → Prop} {E : Prop} (hgd : o.guard = none) (s x : Operand) (t tx : TypeId)
    (ho : o.op = .call { callee := .builtin .append, args := #[s, x], argTypes := #[t, tx] }) (v xv : Value) (hs : a.eval s = v) (hx : a.eval x = xv)
    (hrun : ∃ R W', (Builtin.append_ #[t, tx] o.type #[v, xv]).run P w = .ok R W' ∧ K (a.put o.dst R) W') :
    if Region.wanted o (yielded ops a.tmps) = true then Oper.wp P o a w K Q else E := by
  have hw : Region.wanted o (yielded ops a.tmps) = true := by simp [Region.wanted, hgd]
  rw [if_pos hw]
  obtain ⟨R, W', hrun, h⟩ := hrun
  unfold Oper.wp execOp
  simp only [ho, resolve, invoke, builtin, Sem.run_bind, Sem.run_pure, Result.andThen_ok, List.map_toArray, List.map_cons, List.map_nil, hs, hx, hrun]
  exact h
/-- Where an event's rows are. -/
def rblk (r : Er) : List Nat := (r.Ab.toList ++ (r.Aa.toList ++ r.A.toList)).map Addr.block
theorem hold_end {b : Nat} {w w2 W' : World} {lim num : Int} {F : List Nat} {hv R : Value} {T : List Er} {r' : Er}
    (h1 : Has w b 55 #[.int .i64 lim, .int .i64 num, hv]) (h2 : OwnE (b + 1) w hv T) (h4 : ∀ r ∈ T, r.ok w ∧ r.off w (bfoot b hv) F) (h5 : ∀ k ∈ bfoot b hv, k ∈ F) (h6 : ∀ k ∈ F, k < w.heap.size) (h7 : ∀ k ∈ F, b ≤ k)
    (hb : Below w.heap.size w w2) (hok : r'.ok w2) (hoff : ∀ a, (r'.Ab = some a ∨ r'.Aa = some a ∨ r'.A = some a) → w.heap.size ≤ a.block ∧ a.block < w2.heap.size)
    (hown : OwnE (b + 1) W' R (T ++ [r'])) (ht : Tur hv.ownBlock.toList w2 W') (hR : ∀ k, R.ownBlock = some k → hv.ownBlock = some k ∨ w2.heap.size ≤ k) :
    BufAt b (W'.setCell ⟨b, 2, none⟩ R) lim num (T.map Er.x ++ [r'.x]) (F ++ (R.ownBlock.toList ++ rblk r')) ∧ Tur F w (W'.setCell ⟨b, 2, none⟩ R) ∧ Fre F (F ++ (R.ownBlock.toList ++ rblk r')) w := by
  have hbl : ∀ g, hv.ownBlock = some g → b + 1 ≤ g ∧ g < w.heap.size := fun g hg => World.ownsRow.lt h2 g hg
  have hbw : b < w.heap.size := h1.lt
  have ht2 : Tur [b] W' (W'.setCell ⟨b, 2, none⟩ R) := Tur.setCell W' (p := ⟨b, 2, none⟩) (by simp) R
  have htb : Tur (bfoot b hv) w2 (W'.setCell ⟨b, 2, none⟩ R) := (ht.sub (Y := bfoot b hv) fun x hx => List.mem_cons_of_mem _ hx).trans (ht2.sub (Y := bfoot b hv) fun x hx => by simp at hx; simp [bfoot, hx]) (Fre.refl _ _)
  have hta : Tur (bfoot b hv) w (W'.setCell ⟨b, 2, none⟩ R) := (Tur.of_below hb).trans htb (Fre.refl _ _)
  have hRb : ∀ k, R.ownBlock = some k → b + 1 ≤ k ∧ k < W'.heap.size := fun k hk => World.ownsRow.lt hown k hk
  have hsz := hb.size
  have hsz2 := ht.size
  have hsz3 := ht2.size
  have hF1 : Fre (bfoot b hv) (bfoot b R) w2 := fun k hk => by
    rcases List.mem_cons.1 hk with rfl | hk
    · exact .inl List.mem_cons_self
    · rcases hR k (by simpa using hk) with h | h
      · exact .inl (List.mem_cons_of_mem _ (by simpa using h))
      · exact .inr h
  have hF0 : Fre (bfoot b hv) (bfoot b R) w := fun k hk => (hF1 k hk).imp id fun h => by omega
  have hin : ∀ k ∈ bfoot b hv, k < w.heap.size := fun k hk => h6 k (h5 k hk)
  have hro : r'.off w2 (bfoot b hv) (rblk r') := by
    refine ⟨fun a e => ?_, fun a e => ?_, fun a e => ?_⟩
    · have q := hoff a (.inl e)
      exact ⟨q.2, fun hh => (by have := hin _ hh; omega), by simp [rblk, e]⟩
    · have q := hoff a (.inr (.inl e))
      exact ⟨q.2, fun hh => (by have := hin _ hh; omega), by simp [rblk, e]⟩
    · have q := hoff a (.inr (.inr e))
      exact ⟨q.2, fun hh => (by have := hin _ hh; omega), by simp [rblk, e]⟩
  have hblk : ∀ k ∈ rblk r', w.heap.size ≤ k ∧ k < w2.heap.size := fun k hk => by
    unfold rblk at hk
    obtain ⟨a, ha, rfl⟩ := List.mem_map.1 hk
    refine hoff a ?_
    rcases List.mem_append.1 ha with h | h
    · exact .inl (by simpa using h)
    · rcases List.mem_append.1 h with h | h
      · exact .inr (.inl (by simpa using h))
      · exact .inr (.inr (by simpa using h))
  have hfree : Fre F (F ++ (R.ownBlock.toList ++ rblk r')) w := fun k hk => by
    rcases List.mem_append.1 hk with h | h
    · exact .inl h
    · rcases List.mem_append.1 h with h | h
      · rcases hR k (by simpa using h) with h | h
        · exact .inl (h5 k (List.mem_cons_of_mem _ (by simpa using h)))
        · exact .inr (by omega)
      · exact .inr (hblk k h).1
  have hw1 : Has W' b 55 #[.int .i64 lim, .int .i64 num, hv] := (h1.below hb hbw).tur ht fun hh => by have := hbl b (by simpa using hh); omega
  refine ⟨⟨⟨R, T ++ [r'], hw1.put 2 R, hown.tur ht2 (fun g hg hh => ?_), by simp, fun r hr => ?_, fun k hk => ?_⟩, fun k hk => ?_, fun k hk => ?_⟩, hta.sub h5, hfree⟩
  · have := (hRb g hg).1
    simp at hh
    omega
  · rcases List.mem_append.1 hr with hr | hr
    · exact ⟨(h4 r hr).1.tur (h4 r hr).2 hta (fun k hk => .inl hk), (h4 r hr).2.next hta.size hF0 (fun k hk => List.mem_append_left _ hk)⟩
    · obtain rfl := List.mem_singleton.1 hr
      exact ⟨hok.tur hro htb (fun k hk => .inl hk), hro.next htb.size hF1 (fun k hk => List.mem_append_right _ (List.mem_append_right _ hk))⟩
  · rcases List.mem_cons.1 hk with rfl | hk
    · exact List.mem_append_left _ (h5 _ List.mem_cons_self)
    · exact List.mem_append_right _ (List.mem_append_left _ hk)
  · rcases List.mem_append.1 hk with h | h
    · have := h6 k h; omega
    · rcases List.mem_append.1 h with h | h
      · have := hRb k (by simpa using h); omega
      · have := hblk k h; omega
  · rcases List.mem_append.1 hk with h | h
    · exact h7 k h
    · rcases List.mem_append.1 h with h | h
      · have := hRb k (by simpa using h); omega
      · have := hblk k h; omega
set_option maxHeartbeats 8000000 in
theorem hold_any {b : Nat} {w : World} {lim num : Int} {E : List Ev} {F : List Nat} (h : BufAt b w lim num E F) (hl : 1 ≤ lim) (r : Er) (hr : r.ok w) (hfew : E.length ≤ 1000000) :
    Calls Try.prog 22 #[.pointer (some ⟨b, 0, none⟩), r.val] w fun e w' => POut b w lim F (if num = -1 then (num, E, [], false, 14) else if lim ≤ (E.length : Int) then (num, E, [], false, 13) else (num, E ++ [r.x], [], false, 0)) e w' := by
  obtain ⟨⟨hv, T, h1, h2, h3, h4, h5⟩, h6, h7⟩ := id h
  obtain ⟨A0, n0, c0, rfl, hn0, _, hcm0, hr0, hz0, hg0⟩ := ownE_open h2
  have HF := Lib.hid h
  have HH := Lib.hid h1
  have HTE := Lib.hid h3
  have HT : Hid (OwnE (b + 1) w (.slice A0 n0 c0) T ∧ (∀ r ∈ T, r.ok w ∧ r.off w (bfoot b (.slice A0 n0 c0)) F) ∧ (∀ k ∈ bfoot b (.slice A0 n0 c0), k ∈ F) ∧ (∀ k ∈ F, k < w.heap.size) ∧ (∀ k ∈ F, b ≤ k)) := ⟨h2, h4, h5, h6, h7⟩
  have hEn : E.length = n0 := by rw [← h3, List.length_map]; exact hn0.out
  have HN0 : Hid (T.length = n0) := hn0
  have HC := Lib.hid (fun (W : World) (hb : Below w.heap.size w W) => clone_any r W (hr.below hb))
  clear h h1 h2 h3 h4 h5 h6 h7 hn0 hr0 hz0 hg0 hr hcm0
  rw [hEn] at hfew ⊢
  clear hEn
  obtain ⟨⟨k, m, t, B, AA, ck, ct, L, K, ⟨cn, cq, cb⟩⟩, Ab, nb, zb, Aa, na, za, A, n, c⟩ := r
  unfold Er.val at HC ⊢
  dsimp only at HC ⊢
  obtain ⟨w1, hw1⟩ : ∃ W, w.alloc (.cells #[.int .i64 k, .int .i64 m, .string t, .slice Ab nb zb, .slice Aa na za, .int .i64 ck, .string ct, .slice A n c, .int .i64 K, .string cn, .int .i64 cq, .bool cb] 38) = W := ⟨_, rfl⟩
  have HB : Hid (Below w.heap.size w w1) := by rw [← hw1]; exact ((Below.refl w.heap.size w).alloc (Nat.le_refl _) (.cells #[.int .i64 k, .int .i64 m, .string t, .slice Ab nb zb, .slice Aa na za, .int .i64 ck, .string ct, .slice A n c, .int .i64 K, .string cn, .int .i64 cq, .bool cb] 38))
  have HE : Hid (Has w1 w.heap.size 38 #[.int .i64 k, .int .i64 m, .string t, .slice Ab nb zb, .slice Aa na za, .int .i64 ck, .string ct, .slice A n c, .int .i64 K, .string cn, .int .i64 cq, .bool cb]) := by rw [← hw1]; exact Has.new _ _ _
  have HO := Lib.hid (open_any (HF.out.below HB.out))
  have HH1 := Lib.hid (HH.out.below HB.out HH.out.lt)
  by_cases hn : num = -1
  · rw [if_pos hn]
    subst hn
    go_enter Try.func22, Try.ntmps22
    go_wp2_with fail
    refine HO.out.mono ?_
    rintro e w2 ⟨rfl, rfl⟩
    go_wp2_with fail
    go_ret3
    exact pout_same HF.out HB.out 14
  · rw [if_neg hn]
    have hq : (num != -1) = true := by simp; exact hn
    rw [hq] at HO
    clear hn hq
    have x0 : w1.cell? ⟨b, 0, none⟩ = some (.int .i64 lim) := HH1.out.cell 0
    have x2 : w1.cell? ⟨b, 2, none⟩ = some (.slice A0 n0 c0) := HH1.out.cell 2
    by_cases hlm : lim ≤ (n0 : Int)
    · rw [if_pos hlm]
      go_enter Try.func22, Try.ntmps22
      go_wp2_with fail
      refine HO.out.mono ?_
      rintro e w2 ⟨rfl, rfl⟩
      go_wp2_with fail
      go_region
      all_goals
        go_wp2_with fail
        go_ret3
        exact pout_same HF.out HB.out.drew 13
    · rw [if_neg hlm]
      go_enter Try.func22, Try.ntmps22
      go_wp2_with fail
      refine HO.out.mono ?_
      rintro e w2 ⟨rfl, rfl⟩
      go_wp2_with fail
      refine wp_region_held_drew (S := (fun X => X.cell? ⟨b, 0, none⟩ = some (.int .i64 lim) ∧ X.cell? ⟨b, 2, none⟩ = some (.slice A0 n0 c0))) (by kernel_rfl) ⟨x0, x2⟩ (fun _ => ?_)
      (refine wpAnyH_take (i := 0) (v := ?_) rfl (by kernel_rfl) (by kernel_rfl) (by kernel_rfl) (fun _ _ _ h => h) (Or.inl ⟨by rfl, ?_⟩) (by assumption) ?_; rotate_left; (intro w hSw; (try dsimp only at hSw); go_simp; try with_reducible rfl); ((try simp only [List.getElem_toArray]); (try simp only [List.getElem_cons_succ]); (try simp only [List.getElem_cons_zero]); (try simp only [Act.put]); (try simp only [List.setIfInBounds_toArray]); (try simp only [List.set_cons_succ]); (try simp only [List.set_cons_zero])))
      (refine wpAnyH_take (i := 1) (v := ?_) rfl (by kernel_rfl) (by kernel_rfl) (by kernel_rfl) (fun _ _ _ h => h) (Or.inl ⟨by rfl, ?_⟩) (by assumption) ?_; rotate_left; (intro w hSw; (try dsimp only at hSw); go_simp; try with_reducible rfl); ((try simp only [List.getElem_toArray]); (try simp only [List.getElem_cons_succ]); (try simp only [List.getElem_cons_zero]); (try simp only [Act.put]); (try simp only [List.setIfInBounds_toArray]); (try simp only [List.set_cons_succ]); (try simp only [List.set_cons_zero])))
      (refine wpAnyH_take (i := 2) (v := ?_) rfl (by kernel_rfl) (by kernel_rfl) (by kernel_rfl) (fun _ _ _ h => h) (Or.inl ⟨by rfl, ?_⟩) (by assumption) ?_; rotate_left; (intro w hSw; (try dsimp only at hSw); go_simp; try with_reducible rfl); ((try simp only [List.getElem_toArray]); (try simp only [List.getElem_cons_succ]); (try simp only [List.getElem_cons_zero]); (try simp only [Act.put]); (try simp only [List.setIfInBounds_toArray]); (try simp only [List.set_cons_succ]); (try simp only [List.set_cons_zero])))
      (refine wpAnyH_take (i := 3) (v := ?_) rfl (by kernel_rfl) (by kernel_rfl) (by kernel_rfl) (fun _ _ _ h => h) (Or.inl ⟨by rfl, ?_⟩) (by assumption) ?_; rotate_left; (intro w hSw; (try dsimp only at hSw); go_simp; try with_reducible rfl); ((try simp only [List.getElem_toArray]); (try simp only [List.getElem_cons_succ]); (try simp only [List.getElem_cons_zero]); (try simp only [Act.put]); (try simp only [List.setIfInBounds_toArray]); (try simp only [List.set_cons_succ]); (try simp only [List.set_cons_zero])))
      (refine wpAnyH_take (i := 4) (v := ?_) rfl (by kernel_rfl) (by kernel_rfl) (by kernel_rfl) (fun _ _ _ h => h) (Or.inl ⟨by rfl, ?_⟩) (by assumption) ?_; rotate_left; (intro w hSw; (try dsimp only at hSw); go_simp; try with_reducible rfl); ((try simp only [List.getElem_toArray]); (try simp only [List.getElem_cons_succ]); (try simp only [List.getElem_cons_zero]); (try simp only [Act.put]); (try simp only [List.setIfInBounds_toArray]); (try simp only [List.set_cons_succ]); (try simp only [List.set_cons_zero])))
      (refine wpAnyH_take (i := 5) (v := ?_) rfl (by kernel_rfl) (by kernel_rfl) (by kernel_rfl) (fun _ _ _ h => h) (Or.inl ⟨by rfl, ?_⟩) (by assumption) ?_; rotate_left; (intro w hSw; (try dsimp only at hSw); go_simp; try with_reducible rfl); ((try simp only [List.getElem_toArray]); (try simp only [List.getElem_cons_succ]); (try simp only [List.getElem_cons_zero]); (try simp only [Act.put]); (try simp only [List.setIfInBounds_toArray]); (try simp only [List.set_cons_succ]); (try simp only [List.set_cons_zero])))
      (refine wpAnyH_take (i := 6) (v := ?_) rfl (by kernel_rfl) (by kernel_rfl) (by kernel_rfl) (fun _ _ _ h => h) (Or.inl ⟨by rfl, ?_⟩) (by assumption) ?_; rotate_left; (intro w hSw; (try dsimp only at hSw); go_simp; try with_reducible rfl); ((try simp only [List.getElem_toArray]); (try simp only [List.getElem_cons_succ]); (try simp only [List.getElem_cons_zero]); (try simp only [Act.put]); (try simp only [List.setIfInBounds_toArray]); (try simp only [List.set_cons_succ]); (try simp only [List.set_cons_zero])))
      (refine wpAnyH_take (i := 7) (v := ?_) rfl (by kernel_rfl) (by kernel_rfl) (by kernel_rfl) (fun _ _ _ h => h) (Or.inl ⟨by rfl, ?_⟩) (by assumption) ?_; rotate_left; (intro w hSw; (try dsimp only at hSw); go_simp; try with_reducible rfl); ((try simp only [List.getElem_toArray]); (try simp only [List.getElem_cons_succ]); (try simp only [List.getElem_cons_zero]); (try simp only [Act.put]); (try simp only [List.setIfInBounds_toArray]); (try simp only [List.set_cons_succ]); (try simp only [List.set_cons_zero])))
      (refine wpAnyH_take (i := 8) (v := ?_) rfl (by kernel_rfl) (by kernel_rfl) (by kernel_rfl) (fun _ _ _ h => h) (Or.inl ⟨by rfl, ?_⟩) (by assumption) ?_; rotate_left; (intro w hSw; (try dsimp only at hSw); go_simp; try with_reducible rfl); ((try simp only [List.getElem_toArray]); (try simp only [List.getElem_cons_succ]); (try simp only [List.getElem_cons_zero]); (try simp only [Act.put]); (try simp only [List.setIfInBounds_toArray]); (try simp only [List.set_cons_succ]); (try simp only [List.set_cons_zero])))
      (refine wpAnyH_take (i := 9) (v := ?_) rfl (by kernel_rfl) (by kernel_rfl) (by kernel_rfl) (fun _ _ _ h => h) (Or.inl ⟨by rfl, ?_⟩) (by assumption) ?_; rotate_left; (intro w hSw; (try dsimp only at hSw); go_simp; try with_reducible rfl); ((try simp only [List.getElem_toArray]); (try simp only [List.getElem_cons_succ]); (try simp only [List.getElem_cons_zero]); (try simp only [Act.put]); (try simp only [List.setIfInBounds_toArray]); (try simp only [List.set_cons_succ]); (try simp only [List.set_cons_zero])))
      (refine wpAnyH_take (i := 10) (v := ?_) rfl (by kernel_rfl) (by kernel_rfl) (by kernel_rfl) (fun _ _ _ h => h) (Or.inl ⟨by rfl, ?_⟩) (by assumption) ?_; rotate_left; (intro w hSw; (try dsimp only at hSw); go_simp; try with_reducible rfl); ((try simp only [List.getElem_toArray]); (try simp only [List.getElem_cons_succ]); (try simp only [List.getElem_cons_zero]); (try simp only [Act.put]); (try simp only [List.setIfInBounds_toArray]); (try simp only [List.set_cons_succ]); (try simp only [List.set_cons_zero])))
      refine wpAnyH_done (by kernel_rfl) ?_ _
      obtain ⟨wd, hwd⟩ : ∃ W, W = w2.drew := ⟨_, rfl⟩
      have HBd : Hid (Below w.heap.size w wd) := by rw [hwd]; exact HB.out.drew
      have HEd : Hid (Has wd w.heap.size 38 #[.int .i64 k, .int .i64 m, .string t, .slice Ab nb zb, .slice Aa na za, .int .i64 ck, .string ct, .slice A n c, .int .i64 K, .string cn, .int .i64 cq, .bool cb]) := by rw [hwd]; exact HE.out
      have HHd : Hid (Has wd b 55 #[.int .i64 lim, .int .i64 num, .slice A0 n0 c0]) := by rw [hwd]; exact HH1.out
      rw [← hwd]
      clear hwd x0 x2 HO HB HE HH1 HF
      go_wp2_with fail
      have x2 : wd.drew.cell? ⟨b, 2, none⟩ = some (.slice A0 n0 c0) := HHd.out.cell 2
      refine wp_region_held_drew (S := (fun X => X.cell? ⟨w.heap.size, 0, none⟩ = some (.int .i64 k) ∧ X.cell? ⟨w.heap.size, 1, none⟩ = some (.int .i64 m) ∧ X.cell? ⟨w.heap.size, 2, none⟩ = some (.string t) ∧ X.cell? ⟨w.heap.size, 3, none⟩ = some (.slice Ab nb zb) ∧ X.cell? ⟨w.heap.size, 4, none⟩ = some (.slice Aa na za) ∧ X.cell? ⟨w.heap.size, 5, none⟩ = some (.int .i64 ck) ∧ X.cell? ⟨w.heap.size, 6, none⟩ = some (.string ct) ∧ X.cell? ⟨w.heap.size, 7, none⟩ = some (.slice A n c) ∧ X.cell? ⟨w.heap.size, 8, none⟩ = some (.int .i64 K) ∧ X.cell? ⟨w.heap.size, 9, none⟩ = some (.string cn) ∧ X.cell? ⟨w.heap.size, 10, none⟩ = some (.int .i64 cq) ∧ X.cell? ⟨w.heap.size, 11, none⟩ = some (.bool cb))) (by kernel_rfl) ⟨HEd.out.cell 0, HEd.out.cell 1, HEd.out.cell 2, HEd.out.cell 3, HEd.out.cell 4, HEd.out.cell 5, HEd.out.cell 6, HEd.out.cell 7, HEd.out.cell 8, HEd.out.cell 9, HEd.out.cell 10, HEd.out.cell 11⟩ (fun _ => ?_)
      (refine wpAnyH_take (i := 0) (v := ?_) rfl (by kernel_rfl) (by kernel_rfl) (by kernel_rfl) (fun _ _ _ h => h) (Or.inl ⟨by rfl, ?_⟩) (by assumption) ?_; rotate_left; (intro w hSw; (try dsimp only at hSw); go_simp; try with_reducible rfl); ((try simp only [List.getElem_toArray]); (try simp only [List.getElem_cons_succ]); (try simp only [List.getElem_cons_zero]); (try simp only [Act.put]); (try simp only [List.setIfInBounds_toArray]); (try simp only [List.set_cons_succ]); (try simp only [List.set_cons_zero])))
      (refine wpAnyH_take (i := 1) (v := ?_) rfl (by kernel_rfl) (by kernel_rfl) (by kernel_rfl) (fun _ _ _ h => h) (Or.inl ⟨by rfl, ?_⟩) (by assumption) ?_; rotate_left; (intro w hSw; (try dsimp only at hSw); go_simp; try with_reducible rfl); ((try simp only [List.getElem_toArray]); (try simp only [List.getElem_cons_succ]); (try simp only [List.getElem_cons_zero]); (try simp only [Act.put]); (try simp only [List.setIfInBounds_toArray]); (try simp only [List.set_cons_succ]); (try simp only [List.set_cons_zero])))
      (refine wpAnyH_take (i := 2) (v := ?_) rfl (by kernel_rfl) (by kernel_rfl) (by kernel_rfl) (fun _ _ _ h => h) (Or.inl ⟨by rfl, ?_⟩) (by assumption) ?_; rotate_left; (intro w hSw; (try dsimp only at hSw); go_simp; try with_reducible rfl); ((try simp only [List.getElem_toArray]); (try simp only [List.getElem_cons_succ]); (try simp only [List.getElem_cons_zero]); (try simp only [Act.put]); (try simp only [List.setIfInBounds_toArray]); (try simp only [List.set_cons_succ]); (try simp only [List.set_cons_zero])))
      (refine wpAnyH_take (i := 3) (v := ?_) rfl (by kernel_rfl) (by kernel_rfl) (by kernel_rfl) (fun _ _ _ h => h) (Or.inl ⟨by rfl, ?_⟩) (by assumption) ?_; rotate_left; (intro w hSw; (try dsimp only at hSw); go_simp; try with_reducible rfl); ((try simp only [List.getElem_toArray]); (try simp only [List.getElem_cons_succ]); (try simp only [List.getElem_cons_zero]); (try simp only [Act.put]); (try simp only [List.setIfInBounds_toArray]); (try simp only [List.set_cons_succ]); (try simp only [List.set_cons_zero])))
      (refine wpAnyH_take (i := 5) (v := ?_) rfl (by kernel_rfl) (by kernel_rfl) (by kernel_rfl) (fun _ _ _ h => h) (Or.inl ⟨by rfl, ?_⟩) (by assumption) ?_; rotate_left; (intro w hSw; (try dsimp only at hSw); go_simp; try with_reducible rfl); ((try simp only [List.getElem_toArray]); (try simp only [List.getElem_cons_succ]); (try simp only [List.getElem_cons_zero]); (try simp only [Act.put]); (try simp only [List.setIfInBounds_toArray]); (try simp only [List.set_cons_succ]); (try simp only [List.set_cons_zero])))
      refine wpAnyH_ready (rs := [4, 6]) (by kernel_rfl) (by simp) ?_
      refine AllReadyH.cons rfl (fun K2 hK2 => ?_) (AllReadyH.cons rfl (fun K2 hK2 => ?_) (AllReadyH.nil))
      · go_simp
        refine hK2.out _ _ (by (try dsimp only); exact ⟨HEd.out.cell 0, HEd.out.cell 1, HEd.out.cell 2, HEd.out.cell 3, HEd.out.cell 4, HEd.out.cell 5, HEd.out.cell 6, HEd.out.cell 7, HEd.out.cell 8, HEd.out.cell 9, HEd.out.cell 10, HEd.out.cell 11⟩) (fun _ => ?_)
        clear hK2 K2
        (try simp only [List.getElem_toArray]); (try simp only [List.getElem_cons_succ]); (try simp only [List.getElem_cons_zero]); (try simp only [Act.put]); (try simp only [List.setIfInBounds_toArray]); (try simp only [List.set_cons_succ]); (try simp only [List.set_cons_zero])
        refine wpAnyH_ready (rs := [6]) (by kernel_rfl) (by simp) ?_
        refine AllReadyH.cons rfl (fun K2 hK2 => ?_) (AllReadyH.nil)
        go_simp
        refine (HC.out _ (HBd.out.drew)).mono ?_
        rintro e w2 ⟨r', rfl, hr2, hb2⟩
        have HB2 := Lib.hid (HBd.out.drew.trans (hb2.out.mono HBd.out.size))
        have HE2 := Lib.hid ((show Has wd.drew w.heap.size 38 #[.int .i64 k, .int .i64 m, .string t, .slice Ab nb zb, .slice Aa na za, .int .i64 ck, .string ct, .slice A n c, .int .i64 K, .string cn, .int .i64 cq, .bool cb] from HEd.out).below hb2.out (by have := HEd.out.lt; exact this))
        have HH2 := Lib.hid ((show Has wd.drew b 55 #[.int .i64 lim, .int .i64 num, .slice A0 n0 c0] from HHd.out).below hb2.out (by have := HHd.out.lt; exact this))
        go_wp2_with fail
        refine hK2.out _ _ (by (try dsimp only); exact ⟨HE2.out.cell 0, HE2.out.cell 1, HE2.out.cell 2, HE2.out.cell 3, HE2.out.cell 4, HE2.out.cell 5, HE2.out.cell 6, HE2.out.cell 7, HE2.out.cell 8, HE2.out.cell 9, HE2.out.cell 10, HE2.out.cell 11⟩) (fun _ => ?_)
        clear hK2 K2
        (try simp only [List.getElem_toArray]); (try simp only [List.getElem_cons_succ]); (try simp only [List.getElem_cons_zero]); (try simp only [Act.put]); (try simp only [List.setIfInBounds_toArray]); (try simp only [List.set_cons_succ]); (try simp only [List.set_cons_zero])
        have HA := Lib.hid (appE w2 w2.heap.size rfl (b + 1) (.slice A0 n0 c0) T r' (HT.out.1.below HB2.out) (by have h1 := HB2.out.size; have h2 := HH.out.lt; omega) (by have := HN0.out; omega))
        have HZ := Lib.hid (HE2.out.alloc (.cells #[.int .i64 r'.x.k, .int .i64 r'.x.n, .string r'.x.t, .slice r'.Ab r'.nb r'.zb, .slice r'.Aa r'.na r'.za, .int .i64 r'.x.ck, .string r'.x.ct, .slice r'.A r'.n r'.c, .int .i64 r'.x.K, .string r'.x.cl.nm, .int .i64 r'.x.cl.k, .bool r'.x.cl.no] 38))
        refine wpAnyH_ready (rs := [7]) (by kernel_rfl) (by simp) ?_
        refine AllReadyH.cons rfl (fun K2 hK2 => ?_) (AllReadyH.nil)
        go_simp
        refine hK2.out _ _ (by (try dsimp only); exact ⟨HZ.out.cell 0, HZ.out.cell 1, HZ.out.cell 2, HZ.out.cell 3, HZ.out.cell 4, HZ.out.cell 5, HZ.out.cell 6, HZ.out.cell 7, HZ.out.cell 8, HZ.out.cell 9, HZ.out.cell 10, HZ.out.cell 11⟩) (fun _ => ?_)
        clear hK2 K2
        (try simp only [List.getElem_toArray]); (try simp only [List.getElem_cons_succ]); (try simp only [List.getElem_cons_zero]); (try simp only [Act.put]); (try simp only [List.setIfInBounds_toArray]); (try simp only [List.set_cons_succ]); (try simp only [List.set_cons_zero])
        obtain ⟨R, W', hrun, ho1, ho2, ho3⟩ := HA.out
        obtain ⟨A5, n5, c5, rfl, hn5, hc5, hm5, hrr5, hz5, hg5⟩ := ownE_open ho1
        refine wpAnyH_ready (rs := [8]) (by kernel_rfl) (by simp) ?_
        refine AllReadyH.cons rfl (fun K2 hK2 => ?_) (AllReadyH.nil)
        refine wstep_app (by rfl) _ _ _ _ (by rfl) (.slice A0 n0 c0) (.slice (some ⟨w2.heap.size, 0, none⟩) 1 1) (by rfl) (by rfl) ⟨_, W', hrun, ?_⟩
        have HEW : Hid (Has W' w.heap.size 38 #[.int .i64 k, .int .i64 m, .string t, .slice Ab nb zb, .slice Aa na za, .int .i64 ck, .string ct, .slice A n c, .int .i64 K, .string cn, .int .i64 cq, .bool cb]) := HE2.out.tur ho2 (fun hh => by have := World.ownsRow.lt HT.out.1 w.heap.size (by simpa using hh); omega)
        have HHW : Hid (Has W' b 55 #[.int .i64 lim, .int .i64 num, .slice A0 n0 c0]) := HH2.out.tur ho2 (fun hh => by have := World.ownsRow.lt HT.out.1 b (by simpa using hh); omega)
        refine hK2.out _ _ (by (try dsimp only); exact ⟨HEW.out.cell 0, HEW.out.cell 1, HEW.out.cell 2, HEW.out.cell 3, HEW.out.cell 4, HEW.out.cell 5, HEW.out.cell 6, HEW.out.cell 7, HEW.out.cell 8, HEW.out.cell 9, HEW.out.cell 10, HEW.out.cell 11⟩) (fun _ => ?_)
        clear hK2 K2 hrun
        (try simp only [List.getElem_toArray]); (try simp only [List.getElem_cons_succ]); (try simp only [List.getElem_cons_zero]); (try simp only [Act.put]); (try simp only [List.setIfInBounds_toArray]); (try simp only [List.set_cons_succ]); (try simp only [List.set_cons_zero])
        (refine wpAnyH_take (i := 9) (v := ?_) rfl (by kernel_rfl) (by kernel_rfl) (by kernel_rfl) (fun _ _ _ h => h) (Or.inl ⟨by rfl, ?_⟩) (by assumption) ?_; rotate_left; (intro w hSw; (try dsimp only at hSw); go_simp; try with_reducible rfl); ((try simp only [List.getElem_toArray]); (try simp only [List.getElem_cons_succ]); (try simp only [List.getElem_cons_zero]); (try simp only [Act.put]); (try simp only [List.setIfInBounds_toArray]); (try simp only [List.set_cons_succ]); (try simp only [List.set_cons_zero])))
        (refine wpAnyH_take (i := 10) (v := ?_) rfl (by kernel_rfl) (by kernel_rfl) (by kernel_rfl) (fun _ _ _ h => h) (Or.inl ⟨by rfl, ?_⟩) (by assumption) ?_; rotate_left; (intro w hSw; (try dsimp only at hSw); go_simp; try with_reducible rfl); ((try simp only [List.getElem_toArray]); (try simp only [List.getElem_cons_succ]); (try simp only [List.getElem_cons_zero]); (try simp only [Act.put]); (try simp only [List.setIfInBounds_toArray]); (try simp only [List.set_cons_succ]); (try simp only [List.set_cons_zero])))
        have z2 : W'.cell? ⟨b, 2, none⟩ = some (.slice A0 n0 c0) := HHW.out.cell 2
        have f2 := HHW.out.free 2
        have HEX := Lib.hid (HEW.out.far (p := ⟨b, 2, none⟩) (by have := HH.out.lt; show w.heap.size ≠ b; omega) (.slice A5 n5 c5))
        obtain ⟨q1, q2, q3⟩ := hold_end HH.out HT.out.1 HT.out.2.1 HT.out.2.2.1 HT.out.2.2.2.1 HT.out.2.2.2.2 HB2.out hr2.out.2.1 (fun a ha => ⟨Nat.le_trans HBd.out.drew.size (hr2.out.2.2 a ha).1, (hr2.out.2.2 a ha).2⟩) ho1 ho2 ho3
        have Q1 := Lib.hid q1
        have Q2 := Lib.hid q2
        have Q3 := Lib.hid q3
        clear q1 q2 q3 ho1 ho2 ho3 hc5 hm5
        refine wpAnyH_ready (rs := [11]) (by kernel_rfl) (by simp) ?_
        refine AllReadyH.cons rfl (fun K2 hK2 => ?_) (AllReadyH.nil)
        go_simp
        refine hK2.out _ _ (by (try dsimp only); exact ⟨HEX.out.cell 0, HEX.out.cell 1, HEX.out.cell 2, HEX.out.cell 3, HEX.out.cell 4, HEX.out.cell 5, HEX.out.cell 6, HEX.out.cell 7, HEX.out.cell 8, HEX.out.cell 9, HEX.out.cell 10, HEX.out.cell 11⟩) (fun _ => ?_)
        clear hK2 K2
        (try simp only [List.getElem_toArray]); (try simp only [List.getElem_cons_succ]); (try simp only [List.getElem_cons_zero]); (try simp only [Act.put]); (try simp only [List.setIfInBounds_toArray]); (try simp only [List.set_cons_succ]); (try simp only [List.set_cons_zero])
        refine wpAnyH_done (by kernel_rfl) ?_ _
        go_wp2_with fail
        go_ret3
        refine ⟨_, _, rfl, told_nil _ _, ?_, Q2.out, Q3.out⟩
        have Q1b := Q1.out
        rw [HTE.out, hr2.out.1] at Q1b
        exact Q1b
      · go_simp
        refine (HC.out _ (HBd.out.drew)).mono ?_
        rintro e w2 ⟨r', rfl, hr2, hb2⟩
        have HB2 := Lib.hid (HBd.out.drew.trans (hb2.out.mono HBd.out.size))
        have HE2 := Lib.hid ((show Has wd.drew w.heap.size 38 #[.int .i64 k, .int .i64 m, .string t, .slice Ab nb zb, .slice Aa na za, .int .i64 ck, .string ct, .slice A n c, .int .i64 K, .string cn, .int .i64 cq, .bool cb] from HEd.out).below hb2.out (by have := HEd.out.lt; exact this))
        have HH2 := Lib.hid ((show Has wd.drew b 55 #[.int .i64 lim, .int .i64 num, .slice A0 n0 c0] from HHd.out).below hb2.out (by have := HHd.out.lt; exact this))
        go_wp2_with fail
        refine hK2.out _ _ (by (try dsimp only); exact ⟨HE2.out.cell 0, HE2.out.cell 1, HE2.out.cell 2, HE2.out.cell 3, HE2.out.cell 4, HE2.out.cell 5, HE2.out.cell 6, HE2.out.cell 7, HE2.out.cell 8, HE2.out.cell 9, HE2.out.cell 10, HE2.out.cell 11⟩) (fun _ => ?_)
        clear hK2 K2
        (try simp only [List.getElem_toArray]); (try simp only [List.getElem_cons_succ]); (try simp only [List.getElem_cons_zero]); (try simp only [Act.put]); (try simp only [List.setIfInBounds_toArray]); (try simp only [List.set_cons_succ]); (try simp only [List.set_cons_zero])
        have x2 : w2.cell? ⟨b, 2, none⟩ = some (.slice A0 n0 c0) := HH2.out.cell 2
        have HA := Lib.hid (appE w2 w2.heap.size rfl (b + 1) (.slice A0 n0 c0) T r' (HT.out.1.below HB2.out) (by have h1 := HB2.out.size; have h2 := HH.out.lt; omega) (by have := HN0.out; omega))
        have HZ := Lib.hid (HE2.out.alloc (.cells #[.int .i64 r'.x.k, .int .i64 r'.x.n, .string r'.x.t, .slice r'.Ab r'.nb r'.zb, .slice r'.Aa r'.na r'.za, .int .i64 r'.x.ck, .string r'.x.ct, .slice r'.A r'.n r'.c, .int .i64 r'.x.K, .string r'.x.cl.nm, .int .i64 r'.x.cl.k, .bool r'.x.cl.no] 38))
        refine wpAnyH_ready (rs := [4, 7]) (by kernel_rfl) (by simp) ?_
        refine AllReadyH.cons rfl (fun K2 hK2 => ?_) (AllReadyH.cons rfl (fun K2 hK2 => ?_) (AllReadyH.nil))
        · go_simp
          refine hK2.out _ _ (by (try dsimp only); exact ⟨HE2.out.cell 0, HE2.out.cell 1, HE2.out.cell 2, HE2.out.cell 3, HE2.out.cell 4, HE2.out.cell 5, HE2.out.cell 6, HE2.out.cell 7, HE2.out.cell 8, HE2.out.cell 9, HE2.out.cell 10, HE2.out.cell 11⟩) (fun _ => ?_)
          clear hK2 K2
          (try simp only [List.getElem_toArray]); (try simp only [List.getElem_cons_succ]); (try simp only [List.getElem_cons_zero]); (try simp only [Act.put]); (try simp only [List.setIfInBounds_toArray]); (try simp only [List.set_cons_succ]); (try simp only [List.set_cons_zero])
          clear x2
          refine wpAnyH_ready (rs := [7]) (by kernel_rfl) (by simp) ?_
          refine AllReadyH.cons rfl (fun K2 hK2 => ?_) (AllReadyH.nil)
          go_simp
          refine hK2.out _ _ (by (try dsimp only); exact ⟨HZ.out.cell 0, HZ.out.cell 1, HZ.out.cell 2, HZ.out.cell 3, HZ.out.cell 4, HZ.out.cell 5, HZ.out.cell 6, HZ.out.cell 7, HZ.out.cell 8, HZ.out.cell 9, HZ.out.cell 10, HZ.out.cell 11⟩) (fun _ => ?_)
          clear hK2 K2
          (try simp only [List.getElem_toArray]); (try simp only [List.getElem_cons_succ]); (try simp only [List.getElem_cons_zero]); (try simp only [Act.put]); (try simp only [List.setIfInBounds_toArray]); (try simp only [List.set_cons_succ]); (try simp only [List.set_cons_zero])
          obtain ⟨R, W', hrun, ho1, ho2, ho3⟩ := HA.out
          obtain ⟨A5, n5, c5, rfl, hn5, hc5, hm5, hrr5, hz5, hg5⟩ := ownE_open ho1
          refine wpAnyH_ready (rs := [8]) (by kernel_rfl) (by simp) ?_
          refine AllReadyH.cons rfl (fun K2 hK2 => ?_) (AllReadyH.nil)
          refine wstep_app (by rfl) _ _ _ _ (by rfl) (.slice A0 n0 c0) (.slice (some ⟨w2.heap.size, 0, none⟩) 1 1) (by rfl) (by rfl) ⟨_, W', hrun, ?_⟩
          have HEW : Hid (Has W' w.heap.size 38 #[.int .i64 k, .int .i64 m, .string t, .slice Ab nb zb, .slice Aa na za, .int .i64 ck, .string ct, .slice A n c, .int .i64 K, .string cn, .int .i64 cq, .bool cb]) := HE2.out.tur ho2 (fun hh => by have := World.ownsRow.lt HT.out.1 w.heap.size (by simpa using hh); omega)
          have HHW : Hid (Has W' b 55 #[.int .i64 lim, .int .i64 num, .slice A0 n0 c0]) := HH2.out.tur ho2 (fun hh => by have := World.ownsRow.lt HT.out.1 b (by simpa using hh); omega)
          refine hK2.out _ _ (by (try dsimp only); exact ⟨HEW.out.cell 0, HEW.out.cell 1, HEW.out.cell 2, HEW.out.cell 3, HEW.out.cell 4, HEW.out.cell 5, HEW.out.cell 6, HEW.out.cell 7, HEW.out.cell 8, HEW.out.cell 9, HEW.out.cell 10, HEW.out.cell 11⟩) (fun _ => ?_)
          clear hK2 K2 hrun
          (try simp only [List.getElem_toArray]); (try simp only [List.getElem_cons_succ]); (try simp only [List.getElem_cons_zero]); (try simp only [Act.put]); (try simp only [List.setIfInBounds_toArray]); (try simp only [List.set_cons_succ]); (try simp only [List.set_cons_zero])
          (refine wpAnyH_take (i := 9) (v := ?_) rfl (by kernel_rfl) (by kernel_rfl) (by kernel_rfl) (fun _ _ _ h => h) (Or.inl ⟨by rfl, ?_⟩) (by assumption) ?_; rotate_left; (intro w hSw; (try dsimp only at hSw); go_simp; try with_reducible rfl); ((try simp only [List.getElem_toArray]); (try simp only [List.getElem_cons_succ]); (try simp only [List.getElem_cons_zero]); (try simp only [Act.put]); (try simp only [List.setIfInBounds_toArray]); (try simp only [List.set_cons_succ]); (try simp only [List.set_cons_zero])))
          (refine wpAnyH_take (i := 10) (v := ?_) rfl (by kernel_rfl) (by kernel_rfl) (by kernel_rfl) (fun _ _ _ h => h) (Or.inl ⟨by rfl, ?_⟩) (by assumption) ?_; rotate_left; (intro w hSw; (try dsimp only at hSw); go_simp; try with_reducible rfl); ((try simp only [List.getElem_toArray]); (try simp only [List.getElem_cons_succ]); (try simp only [List.getElem_cons_zero]); (try simp only [Act.put]); (try simp only [List.setIfInBounds_toArray]); (try simp only [List.set_cons_succ]); (try simp only [List.set_cons_zero])))
          have z2 : W'.cell? ⟨b, 2, none⟩ = some (.slice A0 n0 c0) := HHW.out.cell 2
          have f2 := HHW.out.free 2
          have HEX := Lib.hid (HEW.out.far (p := ⟨b, 2, none⟩) (by have := HH.out.lt; show w.heap.size ≠ b; omega) (.slice A5 n5 c5))
          obtain ⟨q1, q2, q3⟩ := hold_end HH.out HT.out.1 HT.out.2.1 HT.out.2.2.1 HT.out.2.2.2.1 HT.out.2.2.2.2 HB2.out hr2.out.2.1 (fun a ha => ⟨Nat.le_trans HBd.out.drew.size (hr2.out.2.2 a ha).1, (hr2.out.2.2 a ha).2⟩) ho1 ho2 ho3
          have Q1 := Lib.hid q1
          have Q2 := Lib.hid q2
          have Q3 := Lib.hid q3
          clear q1 q2 q3 ho1 ho2 ho3 hc5 hm5
          refine wpAnyH_ready (rs := [11]) (by kernel_rfl) (by simp) ?_
          refine AllReadyH.cons rfl (fun K2 hK2 => ?_) (AllReadyH.nil)
          go_simp
          refine hK2.out _ _ (by (try dsimp only); exact ⟨HEX.out.cell 0, HEX.out.cell 1, HEX.out.cell 2, HEX.out.cell 3, HEX.out.cell 4, HEX.out.cell 5, HEX.out.cell 6, HEX.out.cell 7, HEX.out.cell 8, HEX.out.cell 9, HEX.out.cell 10, HEX.out.cell 11⟩) (fun _ => ?_)
          clear hK2 K2
          (try simp only [List.getElem_toArray]); (try simp only [List.getElem_cons_succ]); (try simp only [List.getElem_cons_zero]); (try simp only [Act.put]); (try simp only [List.setIfInBounds_toArray]); (try simp only [List.set_cons_succ]); (try simp only [List.set_cons_zero])
          refine wpAnyH_done (by kernel_rfl) ?_ _
          go_wp2_with fail
          go_ret3
          refine ⟨_, _, rfl, told_nil _ _, ?_, Q2.out, Q3.out⟩
          have Q1b := Q1.out
          rw [HTE.out, hr2.out.1] at Q1b
          exact Q1b
        · go_simp
          refine hK2.out _ _ (by (try dsimp only); exact ⟨HZ.out.cell 0, HZ.out.cell 1, HZ.out.cell 2, HZ.out.cell 3, HZ.out.cell 4, HZ.out.cell 5, HZ.out.cell 6, HZ.out.cell 7, HZ.out.cell 8, HZ.out.cell 9, HZ.out.cell 10, HZ.out.cell 11⟩) (fun _ => ?_)
          clear hK2 K2
          (try simp only [List.getElem_toArray]); (try simp only [List.getElem_cons_succ]); (try simp only [List.getElem_cons_zero]); (try simp only [Act.put]); (try simp only [List.setIfInBounds_toArray]); (try simp only [List.set_cons_succ]); (try simp only [List.set_cons_zero])
          have x3 : (w2.alloc (.cells #[.int .i64 r'.x.k, .int .i64 r'.x.n, .string r'.x.t, .slice r'.Ab r'.nb r'.zb, .slice r'.Aa r'.na r'.za, .int .i64 r'.x.ck, .string r'.x.ct, .slice r'.A r'.n r'.c, .int .i64 r'.x.K, .string r'.x.cl.nm, .int .i64 r'.x.cl.k, .bool r'.x.cl.no] 38)).cell? ⟨b, 2, none⟩ = some (.slice A0 n0 c0) := (HH2.out.alloc _).cell 2
          refine wpAnyH_ready (rs := [4]) (by kernel_rfl) (by simp) ?_
          refine AllReadyH.cons rfl (fun K2 hK2 => ?_) (AllReadyH.nil)
          go_simp
          refine hK2.out _ _ (by (try dsimp only); exact ⟨HZ.out.cell 0, HZ.out.cell 1, HZ.out.cell 2, HZ.out.cell 3, HZ.out.cell 4, HZ.out.cell 5, HZ.out.cell 6, HZ.out.cell 7, HZ.out.cell 8, HZ.out.cell 9, HZ.out.cell 10, HZ.out.cell 11⟩) (fun _ => ?_)
          clear hK2 K2
          (try simp only [List.getElem_toArray]); (try simp only [List.getElem_cons_succ]); (try simp only [List.getElem_cons_zero]); (try simp only [Act.put]); (try simp only [List.setIfInBounds_toArray]); (try simp only [List.set_cons_succ]); (try simp only [List.set_cons_zero])
          clear x2 x3
          obtain ⟨R, W', hrun, ho1, ho2, ho3⟩ := HA.out
          obtain ⟨A5, n5, c5, rfl, hn5, hc5, hm5, hrr5, hz5, hg5⟩ := ownE_open ho1
          refine wpAnyH_ready (rs := [8]) (by kernel_rfl) (by simp) ?_
          refine AllReadyH.cons rfl (fun K2 hK2 => ?_) (AllReadyH.nil)
          refine wstep_app (by rfl) _ _ _ _ (by rfl) (.slice A0 n0 c0) (.slice (some ⟨w2.heap.size, 0, none⟩) 1 1) (by rfl) (by rfl) ⟨_, W', hrun, ?_⟩
          have HEW : Hid (Has W' w.heap.size 38 #[.int .i64 k, .int .i64 m, .string t, .slice Ab nb zb, .slice Aa na za, .int .i64 ck, .string ct, .slice A n c, .int .i64 K, .string cn, .int .i64 cq, .bool cb]) := HE2.out.tur ho2 (fun hh => by have := World.ownsRow.lt HT.out.1 w.heap.size (by simpa using hh); omega)
          have HHW : Hid (Has W' b 55 #[.int .i64 lim, .int .i64 num, .slice A0 n0 c0]) := HH2.out.tur ho2 (fun hh => by have := World.ownsRow.lt HT.out.1 b (by simpa using hh); omega)
          refine hK2.out _ _ (by (try dsimp only); exact ⟨HEW.out.cell 0, HEW.out.cell 1, HEW.out.cell 2, HEW.out.cell 3, HEW.out.cell 4, HEW.out.cell 5, HEW.out.cell 6, HEW.out.cell 7, HEW.out.cell 8, HEW.out.cell 9, HEW.out.cell 10, HEW.out.cell 11⟩) (fun _ => ?_)
          clear hK2 K2 hrun
          (try simp only [List.getElem_toArray]); (try simp only [List.getElem_cons_succ]); (try simp only [List.getElem_cons_zero]); (try simp only [Act.put]); (try simp only [List.setIfInBounds_toArray]); (try simp only [List.set_cons_succ]); (try simp only [List.set_cons_zero])
          (refine wpAnyH_take (i := 9) (v := ?_) rfl (by kernel_rfl) (by kernel_rfl) (by kernel_rfl) (fun _ _ _ h => h) (Or.inl ⟨by rfl, ?_⟩) (by assumption) ?_; rotate_left; (intro w hSw; (try dsimp only at hSw); go_simp; try with_reducible rfl); ((try simp only [List.getElem_toArray]); (try simp only [List.getElem_cons_succ]); (try simp only [List.getElem_cons_zero]); (try simp only [Act.put]); (try simp only [List.setIfInBounds_toArray]); (try simp only [List.set_cons_succ]); (try simp only [List.set_cons_zero])))
          (refine wpAnyH_take (i := 10) (v := ?_) rfl (by kernel_rfl) (by kernel_rfl) (by kernel_rfl) (fun _ _ _ h => h) (Or.inl ⟨by rfl, ?_⟩) (by assumption) ?_; rotate_left; (intro w hSw; (try dsimp only at hSw); go_simp; try with_reducible rfl); ((try simp only [List.getElem_toArray]); (try simp only [List.getElem_cons_succ]); (try simp only [List.getElem_cons_zero]); (try simp only [Act.put]); (try simp only [List.setIfInBounds_toArray]); (try simp only [List.set_cons_succ]); (try simp only [List.set_cons_zero])))
          have z2 : W'.cell? ⟨b, 2, none⟩ = some (.slice A0 n0 c0) := HHW.out.cell 2
          have f2 := HHW.out.free 2
          have HEX := Lib.hid (HEW.out.far (p := ⟨b, 2, none⟩) (by have := HH.out.lt; show w.heap.size ≠ b; omega) (.slice A5 n5 c5))
          obtain ⟨q1, q2, q3⟩ := hold_end HH.out HT.out.1 HT.out.2.1 HT.out.2.2.1 HT.out.2.2.2.1 HT.out.2.2.2.2 HB2.out hr2.out.2.1 (fun a ha => ⟨Nat.le_trans HBd.out.drew.size (hr2.out.2.2 a ha).1, (hr2.out.2.2 a ha).2⟩) ho1 ho2 ho3
          have Q1 := Lib.hid q1
          have Q2 := Lib.hid q2
          have Q3 := Lib.hid q3
          clear q1 q2 q3 ho1 ho2 ho3 hc5 hm5
          refine wpAnyH_ready (rs := [11]) (by kernel_rfl) (by simp) ?_
          refine AllReadyH.cons rfl (fun K2 hK2 => ?_) (AllReadyH.nil)
          go_simp
          refine hK2.out _ _ (by (try dsimp only); exact ⟨HEX.out.cell 0, HEX.out.cell 1, HEX.out.cell 2, HEX.out.cell 3, HEX.out.cell 4, HEX.out.cell 5, HEX.out.cell 6, HEX.out.cell 7, HEX.out.cell 8, HEX.out.cell 9, HEX.out.cell 10, HEX.out.cell 11⟩) (fun _ => ?_)
          clear hK2 K2
          (try simp only [List.getElem_toArray]); (try simp only [List.getElem_cons_succ]); (try simp only [List.getElem_cons_zero]); (try simp only [Act.put]); (try simp only [List.setIfInBounds_toArray]); (try simp only [List.set_cons_succ]); (try simp only [List.set_cons_zero])
          refine wpAnyH_done (by kernel_rfl) ?_ _
          go_wp2_with fail
          go_ret3
          refine ⟨_, _, rfl, told_nil _ _, ?_, Q2.out, Q3.out⟩
          have Q1b := Q1.out
          rw [HTE.out, hr2.out.1] at Q1b
          exact Q1b
theorem putF_open (lim num : Int) (E : List Ev) (x : Ev) : putF lim num E x = if deedG x.k = 21 then (if num = -1 then (x.n, E, [], false, 0) else (num, E, [], false, 14)) else if deedG x.k = 22 then (if num = -1 then (num, E, [], false, 14) else if lim ≤ (E.length : Int) then (num, E, [], false, 13) else (num, E ++ [x], [], false, 0)) else if deedG x.k = 23 then (if x.n = num then (-1, [], E, true, 0) else (num, E, [], false, 14)) else if deedG x.k = 24 then (if x.n = num then (-1, [], [], false, 0) else (num, E, [], false, 14)) else (num, E, [], false, 0) := by
  unfold putF deedG
  by_cases h2 : x.k = 2
  · simp [h2]
  · by_cases h3 : x.k = 3 ∨ x.k = 4 ∨ x.k = 5 ∨ x.k = 6
    · simp [h2, h3]
    · by_cases h7 : x.k = 7
      · simp [h7]
      · by_cases h8 : x.k = 8
        · simp [h8]
        · simp [h2, h3, h7, h8]
theorem deedG_cases (k : Int) : deedG k = 21 ∨ deedG k = 22 ∨ deedG k = 23 ∨ deedG k = 24 ∨ deedG k = 25 := by
  unfold deedG
  split
  · exact .inl rfl
  · split
    · exact .inr (.inl rfl)
    · split
      · exact .inr (.inr (.inl rfl))
      · split
        · exact .inr (.inr (.inr (.inl rfl)))
        · exact .inr (.inr (.inr (.inr rfl)))
theorem POut.back {b : Nat} {w w1 w' : World} {lim : Int} {F : List Nat} {o : Int × List Ev × List Ev × Bool × Int} {e : Ending} (hb : Below w.heap.size w w1) (h : POut b w1 lim F o e w') : POut b w lim F o e w' := by
  obtain ⟨tv, F', h1, h2, h3, h4, h5⟩ := h
  exact ⟨tv, F', h1, h2, h3, (Tur.of_below hb).trans h4.out (Fre.refl _ _), fun k hk => (h5.out k hk).imp id fun hh => Nat.le_trans hb.size hh⟩
/-- What any deed of a buffer comes to. -/
theorem does_any {b : Nat} {w : World} {lim num : Int} {E : List Ev} {F : List Nat} (h : BufAt b w lim num E F) (hl : 1 ≤ lim) (r : Er) (hr : r.ok w) (hfew : E.length ≤ 1000000) :
    Calls Try.prog (deedG r.x.k) #[.pointer (some ⟨b, 0, none⟩), r.val] w fun e w' => POut b w lim F (putF lim num E r.x) e w' := by
  rw [putF_open]
  rcases deedG_cases r.x.k with hd | hd | hd | hd | hd <;> rw [hd]
  · rw [if_pos rfl]; exact begin_any h hl r hr
  · rw [if_neg (by decide), if_pos rfl]; exact hold_any h hl r hr hfew
  · rw [if_neg (by decide), if_neg (by decide), if_pos rfl]; exact commit_any h hl r hr
  · rw [if_neg (by decide), if_neg (by decide), if_neg (by decide), if_pos rfl]; exact abort_any h hl r hr
  · rw [if_neg (by decide), if_neg (by decide), if_neg (by decide), if_neg (by decide)]; exact pass_any h hl r hr
set_option maxHeartbeats 2000000 in
theorem put_any {b : Nat} {w : World} {lim num : Int} {E : List Ev} {F : List Nat} (h : BufAt b w lim num E F) (hl : 1 ≤ lim) (r : Er) (hr : r.ok w) (hfew : E.length ≤ 1000000) :
    Calls Try.prog 12 #[.pointer (some ⟨b, 0, none⟩), r.val] w fun e w' => POut b w lim F (putF lim num E r.x) e w' := by
  have HD := Lib.hid (fun (W : World) (hb : Below w.heap.size w W) => does_any (h.below hb) hl r (hr.below hb) hfew)
  have HE1 := Lib.hid (deed_any b r.x.k)
  clear h hr
  obtain ⟨o, ho⟩ : ∃ o, putF lim num E r.x = o := ⟨_, rfl⟩
  rw [ho] at HD ⊢
  clear ho
  rcases deedG_cases r.x.k with hg | hg | hg | hg | hg
  all_goals
    rw [hg] at HD HE1
    clear hg
    obtain ⟨⟨k, m, t, B, AA, ck, ct, L, K, ⟨cn, cq, cb⟩⟩, Ab, nb, zb, Aa, na, za, A, n, c⟩ := r
    unfold Er.val at HD ⊢
    dsimp only at HD HE1 ⊢
    obtain ⟨w1, hw1⟩ : ∃ W, w.alloc (.cells #[.int .i64 k, .int .i64 m, .string t, .slice Ab nb zb, .slice Aa na za, .int .i64 ck, .string ct, .slice A n c, .int .i64 K, .string cn, .int .i64 cq, .bool cb] 38) = W := ⟨_, rfl⟩
    have HB : Hid (Below w.heap.size w w1) := by rw [← hw1]; exact ((Below.refl w.heap.size w).alloc (Nat.le_refl _) (.cells #[.int .i64 k, .int .i64 m, .string t, .slice Ab nb zb, .slice Aa na za, .int .i64 ck, .string ct, .slice A n c, .int .i64 K, .string cn, .int .i64 cq, .bool cb] 38))
    have HE : Hid (Has w1 w.heap.size 38 #[.int .i64 k, .int .i64 m, .string t, .slice Ab nb zb, .slice Aa na za, .int .i64 ck, .string ct, .slice A n c, .int .i64 K, .string cn, .int .i64 cq, .bool cb]) := by rw [← hw1]; exact Has.new _ _ _
    have y0 := HE.out.cell 0
    simp only [List.getElem?_toArray, List.getElem?_cons_zero] at y0
    go_enter Try.func12, Try.ntmps12
    go_wp2_with fail
    refine (HE1.out _).mono ?_
    rintro e w2 ⟨rfl, rfl⟩
    have y0 := HE.out.cell 0
    have y1 := HE.out.cell 1
    have y2 := HE.out.cell 2
    have y3 := HE.out.cell 3
    have y4 := HE.out.cell 4
    have y5 := HE.out.cell 5
    have y6 := HE.out.cell 6
    have y7 := HE.out.cell 7
    have y8 := HE.out.cell 8
    have y9 := HE.out.cell 9
    have y10 := HE.out.cell 10
    have y11 := HE.out.cell 11
    simp only [List.getElem?_toArray, List.getElem?_cons_zero, List.getElem?_cons_succ] at y0 y1 y2 y3 y4 y5 y6 y7 y8 y9 y10 y11
    go_wp2_with fail
    refine (HD.out _ HB.out).mono ?_
    rintro e w3 ⟨tv, F', rfl, h2, h3, h4, h5⟩
    go_wp2_with fail
    go_ret3
    exact ⟨tv, F', rfl, h2, h3, (Tur.of_below HB.out).trans h4.out (Fre.refl _ _), fun k hk => (h5.out k hk).imp id fun hh => Nat.le_trans HB.out.size hh⟩
end Go.Proofs.Ytjkmbggaoinkdaa
