/-
  Put together, as far as it is used: WvO, WSameW, WOfW, CardD.
-/
import Derived.Test.YtlhfdhmmdnkojaaGreatDoorOae
import Derived.Test.YtlhfdhmmdnkojaaGreatDoorOaf
import Derived.Test.YtlhfdhmmdnkojaaGreatDoorTie
import Derived.Test.YtlhfdhmmdnkojaaGreatDoorOab
import Derived.LaidMore
import Derived.Lay
import Derived.SevenTiedAt
import Derived.PinnedBridge
import Derived.Stop.Joined
namespace Go.Proofs.YtlhfdhmmdnkojaaGreatDoor
open Go.RowKit Go.Maps Dg
set_option maxRecDepth 100000
set_option linter.unusedVariables false
theorem vrow_tur14 {X : List Nat} {w w' : World} {A : Option Addr} {L : List Vl} (h : VRow w A L) (ht : Tur X w w') (ho : ∀ a, A = some a → a.block ∉ X) : VRow w' A L := fun hne => by
  obtain ⟨b, off, e, hc⟩ := h hne
  have hb := ho _ e
  have k : ∀ (i : Nat) (v : Value), w.cell? ⟨b, i, none⟩ = some v → w'.cell? ⟨b, i, none⟩ = some v := fun i v h => (World.cell?_of_block (ht.block b (World.block_lt_of_cell? w _ h) hb)).trans h
  exact ⟨b, off, e, fun i hi => ⟨k _ _ (hc i hi).1, k _ _ (hc i hi).2.1, k _ _ (hc i hi).2.2⟩⟩
theorem crow_tur14 {X : List Nat} {w w' : World} {A : Option Addr} {L : List Cl} (h : CRow w A L) (ht : Tur X w w') (ho : ∀ a, A = some a → a.block ∉ X) : CRow w' A L := fun hne => by
  obtain ⟨b, off, e, hc⟩ := h hne
  have hb := ho _ e
  have k : ∀ (i : Nat) (v : Value), w.cell? ⟨b, i, none⟩ = some v → w'.cell? ⟨b, i, none⟩ = some v := fun i v h => (World.cell?_of_block (ht.block b (World.block_lt_of_cell? w _ h) hb)).trans h
  exact ⟨b, off, e, fun i hi => ⟨k _ _ (hc i hi).1, k _ _ (hc i hi).2.1, k _ _ (hc i hi).2.2⟩⟩
/-- The write that an event tells. -/
def ofW (x : Ev) : Wd :=
  if x.k = 3 ∨ x.k = 4 then ⟨1, x.t, x.A, 0, ⟨#[]⟩, [], 0, ⟨⟨#[]⟩, 0, false⟩⟩
  else if x.k = 5 then ⟨2, x.t, x.B, 0, ⟨#[]⟩, [], 0, ⟨⟨#[]⟩, 0, false⟩⟩
  else if x.k = 6 then ⟨3, ⟨#[]⟩, [], x.ck, x.ct, x.L, x.K, x.cl⟩
  else ⟨0, ⟨#[]⟩, [], 0, ⟨#[]⟩, [], 0, ⟨⟨#[]⟩, 0, false⟩⟩
set_option maxHeartbeats 40000000 in
theorem wof14_any (k m : Int) (t : ByteArray) (Ab : Option Addr) (nb zb : Nat) (LB : List Vl) (Aa : Option Addr) (na za : Nat) (LA : List Vl) (ck : Int) (ct : ByteArray) (A : Option Addr) (n c : Nat) (L : List Cl) (K : Int) (cn : ByteArray) (cq : Int) (cb : Bool) (w : World) (hB : LB.length = nb ∧ nb ≤ 4398046511104 ∧ VRow w Ab LB ∧ (Ab = none → zb = 0)) (hA : LA.length = na ∧ na ≤ 4398046511104 ∧ VRow w Aa LA ∧ (Aa = none → za = 0)) (hL : L.length = n ∧ n ≤ 1000 ∧ CRow w A L ∧ (A = none → c = 0)) :
    Calls Tryz.prog 25 #[.agg #[.int .i64 k, .int .i64 m, .string t, .slice Ab nb zb, .slice Aa na za, .int .i64 ck, .string ct, .slice A n c, .int .i64 K, .string cn, .int .i64 cq, .bool cb]] w fun e w' => ∃ g : Gr, e = .returned (.tuple #[g.val, .bool (ofB k)]) ∧ g.x = ofW ⟨k, m, t, LB, LA, ck, ct, L, K, ⟨cn, cq, cb⟩⟩ ∧ (g.x.R.length = g.nr ∧ g.nr ≤ 4398046511104 ∧ VRow w' g.Ar g.x.R) ∧ (g.x.L.length = g.n ∧ CRow w' g.A g.x.L) ∧ Below w.heap.size w w' := by
  have CA := Lib.hid (fun (W : World) (hb : Below w.heap.size w W) => copyV_any Aa LA na za W hA.1 hA.2.1 (hA.2.2.1.below hb) hA.2.2.2)
  have CB := Lib.hid (fun (W : World) (hb : Below w.heap.size w W) => copyV_any Ab LB nb zb W hB.1 hB.2.1 (hB.2.2.1.below hb) hB.2.2.2)
  have CC := Lib.hid (fun (W : World) (hb : Below w.heap.size w W) => copyC_any A L n c W hL.1 (by omega) (hL.2.2.1.below hb) hL.2.2.2)
  have HLA := Lib.hid (show LA.length ≤ 4398046511104 by omega)
  have HLB := Lib.hid (show LB.length ≤ 4398046511104 by omega)
  clear hB hA hL
  by_cases h3 : k = 3
  · subst h3
    have HLN := HLA
    have HE := Lib.hid ((Has.new w 33 #[.int .i64 3, .int .i64 m, .string t, .slice Ab nb zb, .slice Aa na za, .int .i64 ck, .string ct, .slice A n c, .int .i64 K, .string cn, .int .i64 cq, .bool cb]).alloc (.cells #[.int .i64 0, .string ⟨#[]⟩, .slice none 0 0, .int .i64 0, .string ⟨#[]⟩, .slice none 0 0, .int .i64 0, .string ⟨#[]⟩, .int .i64 0, .bool false] 51))
    obtain ⟨hR, hB⟩ := two w #[.int .i64 3, .int .i64 m, .string t, .slice Ab nb zb, .slice Aa na za, .int .i64 ck, .string ct, .slice A n c, .int .i64 K, .string cn, .int .i64 cq, .bool cb] #[.int .i64 0, .string ⟨#[]⟩, .slice none 0 0, .int .i64 0, .string ⟨#[]⟩, .slice none 0 0, .int .i64 0, .string ⟨#[]⟩, .int .i64 0, .bool false] 33 51
    have HR := Lib.hid hR
    have HB := hB
    clear hR hB
    go_enter Tryz.func25, Tryz.ntmps25
    go_wp2_with fail
    obtain ⟨W0, hW0⟩ : ∃ W, W = (w.alloc (.cells #[.int .i64 3, .int .i64 m, .string t, .slice Ab nb zb, .slice Aa na za, .int .i64 ck, .string ct, .slice A n c, .int .i64 K, .string cn, .int .i64 cq, .bool cb] 33)).alloc (.cells #[.int .i64 0, .string ⟨#[]⟩, .slice none 0 0, .int .i64 0, .string ⟨#[]⟩, .slice none 0 0, .int .i64 0, .string ⟨#[]⟩, .int .i64 0, .bool false] 51) := ⟨_, rfl⟩
    rw [← hW0] at HE HR HB ⊢
    clear hW0
    have hS0 : (fun X : World => X.cell? ⟨w.heap.size, 2, none⟩ = some (.string t) ∧ X.cell? ⟨w.heap.size, 4, none⟩ = some (.slice Aa na za)) W0.drew := ⟨(HE.out.drew).cell 2, (HE.out.drew).cell 4⟩
    refine wp_region_held_drew (S := (fun X : World => X.cell? ⟨w.heap.size, 2, none⟩ = some (.string t) ∧ X.cell? ⟨w.heap.size, 4, none⟩ = some (.slice Aa na za))) (by kernel_rfl) hS0 (fun _ => ?_)
    (refine wpAnyH_take (i := 0) (v := ?_) rfl (by kernel_rfl) (by kernel_rfl) (by kernel_rfl) (fun _ _ _ h => h) (Or.inl ⟨by rfl, ?_⟩) (by assumption) ?_; rotate_left; (intro w hSw; (try dsimp only at hSw); go_simp; try with_reducible rfl); ((try simp only [List.getElem_toArray]); (try simp only [List.getElem_cons_succ]); (try simp only [List.getElem_cons_zero]); (try simp only [Act.put]); (try simp only [List.setIfInBounds_toArray]); (try simp only [List.set_cons_succ]); (try simp only [List.set_cons_zero])))
    (refine wpAnyH_take (i := 1) (v := ?_) rfl (by kernel_rfl) (by kernel_rfl) (by kernel_rfl) (fun _ _ _ h => h) (Or.inl ⟨by rfl, ?_⟩) (by assumption) ?_; rotate_left; (intro w hSw; (try dsimp only at hSw); go_simp; try with_reducible rfl); ((try simp only [List.getElem_toArray]); (try simp only [List.getElem_cons_succ]); (try simp only [List.getElem_cons_zero]); (try simp only [Act.put]); (try simp only [List.setIfInBounds_toArray]); (try simp only [List.set_cons_succ]); (try simp only [List.set_cons_zero])))
    (refine wpAnyH_take (i := 2) (v := ?_) rfl (by kernel_rfl) (by kernel_rfl) (by kernel_rfl) (fun _ _ _ h => h) (Or.inl ⟨by rfl, ?_⟩) (by assumption) ?_; rotate_left; (intro w hSw; (try dsimp only at hSw); go_simp; try with_reducible rfl); ((try simp only [List.getElem_toArray]); (try simp only [List.getElem_cons_succ]); (try simp only [List.getElem_cons_zero]); (try simp only [Act.put]); (try simp only [List.setIfInBounds_toArray]); (try simp only [List.set_cons_succ]); (try simp only [List.set_cons_zero])))
    (refine wpAnyH_take (i := 3) (v := ?_) rfl (by kernel_rfl) (by kernel_rfl) (by kernel_rfl) (fun _ _ _ h => h) (Or.inl ⟨by rfl, ?_⟩) (by assumption) ?_; rotate_left; (intro w hSw; (try dsimp only at hSw); go_simp; try with_reducible rfl); ((try simp only [List.getElem_toArray]); (try simp only [List.getElem_cons_succ]); (try simp only [List.getElem_cons_zero]); (try simp only [Act.put]); (try simp only [List.setIfInBounds_toArray]); (try simp only [List.set_cons_succ]); (try simp only [List.set_cons_zero])))
    refine wpAnyH_ready (rs := [4]) (by kernel_rfl) (by simp) ?_
    refine AllReadyH.cons rfl (fun K2 hK2 => ?_) AllReadyH.nil
    go_simp
    refine (CA.out _ (HB.out.drew)).mono ?_
    rintro e w1 ⟨v1, rfl, ho1, hb1⟩
    obtain ⟨A1, n1, c1, rfl, hn1, hr1, hz1, hg1⟩ := ownV_at ho1.out
    have HE1 := Lib.hid ((HE.out.drew).below hb1.out (HE.out.drew).lt)
    have HR1 := Lib.hid ((HR.out.drew).below hb1.out (HR.out.drew).lt)
    have HB1 := Lib.hid ((HB.out.drew).trans (hb1.out.mono (HB.out.drew).size))
    have hS1 : (fun X : World => X.cell? ⟨w.heap.size, 2, none⟩ = some (.string t) ∧ X.cell? ⟨w.heap.size, 4, none⟩ = some (.slice Aa na za)) w1 := ⟨HE1.out.cell 2, HE1.out.cell 4⟩
    go_wp2_with fail
    refine hK2.out _ _ (by (try dsimp only); exact hS1) (fun _ => ?_)
    clear hK2 K2
    (try simp only [List.getElem_toArray]); (try simp only [List.getElem_cons_succ]); (try simp only [List.getElem_cons_zero]); (try simp only [Act.put]); (try simp only [List.setIfInBounds_toArray]); (try simp only [List.set_cons_succ]); (try simp only [List.set_cons_zero])
    (refine wpAnyH_take (i := 5) (v := ?_) rfl (by kernel_rfl) (by kernel_rfl) (by kernel_rfl) (fun _ _ _ h => h) (Or.inl ⟨by rfl, ?_⟩) (by assumption) ?_; rotate_left; (intro w hSw; (try dsimp only at hSw); go_simp; try with_reducible rfl); ((try simp only [List.getElem_toArray]); (try simp only [List.getElem_cons_succ]); (try simp only [List.getElem_cons_zero]); (try simp only [Act.put]); (try simp only [List.setIfInBounds_toArray]); (try simp only [List.set_cons_succ]); (try simp only [List.set_cons_zero])))
    have f0 := HR1.out.free 0
    have g0 := HR1.out.cell 0
    have p0 := Lib.hid (HR1.out.put 0 (.int .i64 1))
    have f1 := p0.out.free 1
    have g1 := p0.out.cell 1
    have p1 := Lib.hid (p0.out.put 1 (.string t))
    have f2 := p1.out.free 2
    have g2 := p1.out.cell 2
    have p2 := Lib.hid (p1.out.put 2 (.slice A1 n1 c1))
    have f3 := p2.out.free 3
    have g3 := p2.out.cell 3
    have p3 := Lib.hid (p2.out.put 3 (.int .i64 0))
    have f4 := p3.out.free 4
    have g4 := p3.out.cell 4
    have p4 := Lib.hid (p3.out.put 4 (.string ⟨#[]⟩))
    have f5 := p4.out.free 5
    have g5 := p4.out.cell 5
    have p5 := Lib.hid (p4.out.put 5 (.slice none 0 0))
    have f6 := p5.out.free 6
    have g6 := p5.out.cell 6
    have p6 := Lib.hid (p5.out.put 6 (.int .i64 0))
    have f7 := p6.out.free 7
    have g7 := p6.out.cell 7
    have p7 := Lib.hid (p6.out.put 7 (.string ⟨#[]⟩))
    have f8 := p7.out.free 8
    have g8 := p7.out.cell 8
    have p8 := Lib.hid (p7.out.put 8 (.int .i64 0))
    have f9 := p8.out.free 9
    have g9 := p8.out.cell 9
    have p9 := Lib.hid (p8.out.put 9 (.bool false))
    refine wpAnyH_ready (rs := [6]) (by kernel_rfl) (by simp) ?_
    refine AllReadyH.cons rfl (fun K2 hK2 => ?_) AllReadyH.nil
    go_simp
    have HQ : Hid (Has (put10 w1 (w.heap.size + 1) (.int .i64 1) (.string t) (.slice A1 n1 c1) (.int .i64 0) (.string ⟨#[]⟩) (.slice none 0 0) (.int .i64 0) (.string ⟨#[]⟩) (.int .i64 0) (.bool false)) (w.heap.size + 1) 51 #[.int .i64 1, .string t, .slice A1 n1 c1, .int .i64 0, .string ⟨#[]⟩, .slice none 0 0, .int .i64 0, .string ⟨#[]⟩, .int .i64 0, .bool false]) := p9.out
    clear f0 g0 p0 f1 g1 p1 f2 g2 p2 f3 g3 p3 f4 g4 p4 f5 g5 p5 f6 g6 p6 f7 g7 p7 f8 g8 p8 f9 g9 p9
    have ht := put10_tur w1 (w.heap.size + 1) (.int .i64 1) (.string t) (.slice A1 n1 c1) (.int .i64 0) (.string ⟨#[]⟩) (.slice none 0 0) (.int .i64 0) (.string ⟨#[]⟩) (.int .i64 0) (.bool false)
    show K2 _ (put10 w1 (w.heap.size + 1) (.int .i64 1) (.string t) (.slice A1 n1 c1) (.int .i64 0) (.string ⟨#[]⟩) (.slice none 0 0) (.int .i64 0) (.string ⟨#[]⟩) (.int .i64 0) (.bool false))
    generalize put10 w1 (w.heap.size + 1) (.int .i64 1) (.string t) (.slice A1 n1 c1) (.int .i64 0) (.string ⟨#[]⟩) (.slice none 0 0) (.int .i64 0) (.string ⟨#[]⟩) (.int .i64 0) (.bool false) = W2 at HQ ht ⊢
    have HE2 := HE1.out.tur ht (by simp)
    refine hK2.out _ _ (by (try dsimp only); exact ⟨HE2.cell 2, HE2.cell 4⟩) (fun _ => ?_)
    clear hK2 K2
    (try simp only [List.getElem_toArray]); (try simp only [List.getElem_cons_succ]); (try simp only [List.getElem_cons_zero]); (try simp only [Act.put]); (try simp only [List.setIfInBounds_toArray]); (try simp only [List.set_cons_succ]); (try simp only [List.set_cons_zero])
    (refine wpAnyH_take (i := 7) (v := ?_) rfl (by kernel_rfl) (by kernel_rfl) (by kernel_rfl) (fun _ _ _ h => h) (Or.inl ⟨by rfl, ?_⟩) (by assumption) ?_; rotate_left; (intro w hSw; (try dsimp only at hSw); go_simp; try with_reducible rfl); ((try simp only [List.getElem_toArray]); (try simp only [List.getElem_cons_succ]); (try simp only [List.getElem_cons_zero]); (try simp only [Act.put]); (try simp only [List.setIfInBounds_toArray]); (try simp only [List.set_cons_succ]); (try simp only [List.set_cons_zero])))
    refine wpAnyH_done (by kernel_rfl) ?_ _
    go_wp2_with fail
    have hq : ∀ a, A1 = some a → a.block ∉ [w.heap.size + 1] := fun a e hh => by have := (hg1.out a e).1; have := HR.out.drew.lt; simp at hh; omega
    refine bodyPost_ret (wEndB rfl _ (w.heap.size + 1) _ _ _ _ _ _ _ _ _ _ _ rfl HQ.out) rfl ⟨⟨⟨1, t, LA, 0, ⟨#[]⟩, [], 0, ⟨⟨#[]⟩, 0, false⟩⟩, A1, n1, c1, none, 0, 0⟩, by simp [Gr.val, ofB], by simp [ofW], ⟨hn1.out, (by have h1 := hn1.out; have h2 := HLN.out; show n1 ≤ _; omega), vrow_tur14 hr1.out ht hq⟩, ⟨rfl, fun h => absurd rfl h⟩, HB1.out.trans (ht.below (by simp) HB1.out.size)⟩
  by_cases h4 : k = 4
  · subst h4
    have HLN := HLA
    have HE := Lib.hid ((Has.new w 33 #[.int .i64 4, .int .i64 m, .string t, .slice Ab nb zb, .slice Aa na za, .int .i64 ck, .string ct, .slice A n c, .int .i64 K, .string cn, .int .i64 cq, .bool cb]).alloc (.cells #[.int .i64 0, .string ⟨#[]⟩, .slice none 0 0, .int .i64 0, .string ⟨#[]⟩, .slice none 0 0, .int .i64 0, .string ⟨#[]⟩, .int .i64 0, .bool false] 51))
    obtain ⟨hR, hB⟩ := two w #[.int .i64 4, .int .i64 m, .string t, .slice Ab nb zb, .slice Aa na za, .int .i64 ck, .string ct, .slice A n c, .int .i64 K, .string cn, .int .i64 cq, .bool cb] #[.int .i64 0, .string ⟨#[]⟩, .slice none 0 0, .int .i64 0, .string ⟨#[]⟩, .slice none 0 0, .int .i64 0, .string ⟨#[]⟩, .int .i64 0, .bool false] 33 51
    have HR := Lib.hid hR
    have HB := hB
    clear hR hB
    go_enter Tryz.func25, Tryz.ntmps25
    go_wp2_with fail
    obtain ⟨W0, hW0⟩ : ∃ W, W = (w.alloc (.cells #[.int .i64 4, .int .i64 m, .string t, .slice Ab nb zb, .slice Aa na za, .int .i64 ck, .string ct, .slice A n c, .int .i64 K, .string cn, .int .i64 cq, .bool cb] 33)).alloc (.cells #[.int .i64 0, .string ⟨#[]⟩, .slice none 0 0, .int .i64 0, .string ⟨#[]⟩, .slice none 0 0, .int .i64 0, .string ⟨#[]⟩, .int .i64 0, .bool false] 51) := ⟨_, rfl⟩
    rw [← hW0] at HE HR HB ⊢
    clear hW0
    have hS0 : (fun X : World => X.cell? ⟨w.heap.size, 2, none⟩ = some (.string t) ∧ X.cell? ⟨w.heap.size, 4, none⟩ = some (.slice Aa na za)) W0.drew := ⟨(HE.out.drew).cell 2, (HE.out.drew).cell 4⟩
    refine wp_region_held_drew (S := (fun X : World => X.cell? ⟨w.heap.size, 2, none⟩ = some (.string t) ∧ X.cell? ⟨w.heap.size, 4, none⟩ = some (.slice Aa na za))) (by kernel_rfl) hS0 (fun _ => ?_)
    (refine wpAnyH_take (i := 0) (v := ?_) rfl (by kernel_rfl) (by kernel_rfl) (by kernel_rfl) (fun _ _ _ h => h) (Or.inl ⟨by rfl, ?_⟩) (by assumption) ?_; rotate_left; (intro w hSw; (try dsimp only at hSw); go_simp; try with_reducible rfl); ((try simp only [List.getElem_toArray]); (try simp only [List.getElem_cons_succ]); (try simp only [List.getElem_cons_zero]); (try simp only [Act.put]); (try simp only [List.setIfInBounds_toArray]); (try simp only [List.set_cons_succ]); (try simp only [List.set_cons_zero])))
    (refine wpAnyH_take (i := 1) (v := ?_) rfl (by kernel_rfl) (by kernel_rfl) (by kernel_rfl) (fun _ _ _ h => h) (Or.inl ⟨by rfl, ?_⟩) (by assumption) ?_; rotate_left; (intro w hSw; (try dsimp only at hSw); go_simp; try with_reducible rfl); ((try simp only [List.getElem_toArray]); (try simp only [List.getElem_cons_succ]); (try simp only [List.getElem_cons_zero]); (try simp only [Act.put]); (try simp only [List.setIfInBounds_toArray]); (try simp only [List.set_cons_succ]); (try simp only [List.set_cons_zero])))
    (refine wpAnyH_take (i := 2) (v := ?_) rfl (by kernel_rfl) (by kernel_rfl) (by kernel_rfl) (fun _ _ _ h => h) (Or.inl ⟨by rfl, ?_⟩) (by assumption) ?_; rotate_left; (intro w hSw; (try dsimp only at hSw); go_simp; try with_reducible rfl); ((try simp only [List.getElem_toArray]); (try simp only [List.getElem_cons_succ]); (try simp only [List.getElem_cons_zero]); (try simp only [Act.put]); (try simp only [List.setIfInBounds_toArray]); (try simp only [List.set_cons_succ]); (try simp only [List.set_cons_zero])))
    (refine wpAnyH_take (i := 3) (v := ?_) rfl (by kernel_rfl) (by kernel_rfl) (by kernel_rfl) (fun _ _ _ h => h) (Or.inl ⟨by rfl, ?_⟩) (by assumption) ?_; rotate_left; (intro w hSw; (try dsimp only at hSw); go_simp; try with_reducible rfl); ((try simp only [List.getElem_toArray]); (try simp only [List.getElem_cons_succ]); (try simp only [List.getElem_cons_zero]); (try simp only [Act.put]); (try simp only [List.setIfInBounds_toArray]); (try simp only [List.set_cons_succ]); (try simp only [List.set_cons_zero])))
    refine wpAnyH_ready (rs := [4]) (by kernel_rfl) (by simp) ?_
    refine AllReadyH.cons rfl (fun K2 hK2 => ?_) AllReadyH.nil
    go_simp
    refine (CA.out _ (HB.out.drew)).mono ?_
    rintro e w1 ⟨v1, rfl, ho1, hb1⟩
    obtain ⟨A1, n1, c1, rfl, hn1, hr1, hz1, hg1⟩ := ownV_at ho1.out
    have HE1 := Lib.hid ((HE.out.drew).below hb1.out (HE.out.drew).lt)
    have HR1 := Lib.hid ((HR.out.drew).below hb1.out (HR.out.drew).lt)
    have HB1 := Lib.hid ((HB.out.drew).trans (hb1.out.mono (HB.out.drew).size))
    have hS1 : (fun X : World => X.cell? ⟨w.heap.size, 2, none⟩ = some (.string t) ∧ X.cell? ⟨w.heap.size, 4, none⟩ = some (.slice Aa na za)) w1 := ⟨HE1.out.cell 2, HE1.out.cell 4⟩
    go_wp2_with fail
    refine hK2.out _ _ (by (try dsimp only); exact hS1) (fun _ => ?_)
    clear hK2 K2
    (try simp only [List.getElem_toArray]); (try simp only [List.getElem_cons_succ]); (try simp only [List.getElem_cons_zero]); (try simp only [Act.put]); (try simp only [List.setIfInBounds_toArray]); (try simp only [List.set_cons_succ]); (try simp only [List.set_cons_zero])
    (refine wpAnyH_take (i := 5) (v := ?_) rfl (by kernel_rfl) (by kernel_rfl) (by kernel_rfl) (fun _ _ _ h => h) (Or.inl ⟨by rfl, ?_⟩) (by assumption) ?_; rotate_left; (intro w hSw; (try dsimp only at hSw); go_simp; try with_reducible rfl); ((try simp only [List.getElem_toArray]); (try simp only [List.getElem_cons_succ]); (try simp only [List.getElem_cons_zero]); (try simp only [Act.put]); (try simp only [List.setIfInBounds_toArray]); (try simp only [List.set_cons_succ]); (try simp only [List.set_cons_zero])))
    have f0 := HR1.out.free 0
    have g0 := HR1.out.cell 0
    have p0 := Lib.hid (HR1.out.put 0 (.int .i64 1))
    have f1 := p0.out.free 1
    have g1 := p0.out.cell 1
    have p1 := Lib.hid (p0.out.put 1 (.string t))
    have f2 := p1.out.free 2
    have g2 := p1.out.cell 2
    have p2 := Lib.hid (p1.out.put 2 (.slice A1 n1 c1))
    have f3 := p2.out.free 3
    have g3 := p2.out.cell 3
    have p3 := Lib.hid (p2.out.put 3 (.int .i64 0))
    have f4 := p3.out.free 4
    have g4 := p3.out.cell 4
    have p4 := Lib.hid (p3.out.put 4 (.string ⟨#[]⟩))
    have f5 := p4.out.free 5
    have g5 := p4.out.cell 5
    have p5 := Lib.hid (p4.out.put 5 (.slice none 0 0))
    have f6 := p5.out.free 6
    have g6 := p5.out.cell 6
    have p6 := Lib.hid (p5.out.put 6 (.int .i64 0))
    have f7 := p6.out.free 7
    have g7 := p6.out.cell 7
    have p7 := Lib.hid (p6.out.put 7 (.string ⟨#[]⟩))
    have f8 := p7.out.free 8
    have g8 := p7.out.cell 8
    have p8 := Lib.hid (p7.out.put 8 (.int .i64 0))
    have f9 := p8.out.free 9
    have g9 := p8.out.cell 9
    have p9 := Lib.hid (p8.out.put 9 (.bool false))
    refine wpAnyH_ready (rs := [6]) (by kernel_rfl) (by simp) ?_
    refine AllReadyH.cons rfl (fun K2 hK2 => ?_) AllReadyH.nil
    go_simp
    have HQ : Hid (Has (put10 w1 (w.heap.size + 1) (.int .i64 1) (.string t) (.slice A1 n1 c1) (.int .i64 0) (.string ⟨#[]⟩) (.slice none 0 0) (.int .i64 0) (.string ⟨#[]⟩) (.int .i64 0) (.bool false)) (w.heap.size + 1) 51 #[.int .i64 1, .string t, .slice A1 n1 c1, .int .i64 0, .string ⟨#[]⟩, .slice none 0 0, .int .i64 0, .string ⟨#[]⟩, .int .i64 0, .bool false]) := p9.out
    clear f0 g0 p0 f1 g1 p1 f2 g2 p2 f3 g3 p3 f4 g4 p4 f5 g5 p5 f6 g6 p6 f7 g7 p7 f8 g8 p8 f9 g9 p9
    have ht := put10_tur w1 (w.heap.size + 1) (.int .i64 1) (.string t) (.slice A1 n1 c1) (.int .i64 0) (.string ⟨#[]⟩) (.slice none 0 0) (.int .i64 0) (.string ⟨#[]⟩) (.int .i64 0) (.bool false)
    show K2 _ (put10 w1 (w.heap.size + 1) (.int .i64 1) (.string t) (.slice A1 n1 c1) (.int .i64 0) (.string ⟨#[]⟩) (.slice none 0 0) (.int .i64 0) (.string ⟨#[]⟩) (.int .i64 0) (.bool false))
    generalize put10 w1 (w.heap.size + 1) (.int .i64 1) (.string t) (.slice A1 n1 c1) (.int .i64 0) (.string ⟨#[]⟩) (.slice none 0 0) (.int .i64 0) (.string ⟨#[]⟩) (.int .i64 0) (.bool false) = W2 at HQ ht ⊢
    have HE2 := HE1.out.tur ht (by simp)
    refine hK2.out _ _ (by (try dsimp only); exact ⟨HE2.cell 2, HE2.cell 4⟩) (fun _ => ?_)
    clear hK2 K2
    (try simp only [List.getElem_toArray]); (try simp only [List.getElem_cons_succ]); (try simp only [List.getElem_cons_zero]); (try simp only [Act.put]); (try simp only [List.setIfInBounds_toArray]); (try simp only [List.set_cons_succ]); (try simp only [List.set_cons_zero])
    (refine wpAnyH_take (i := 7) (v := ?_) rfl (by kernel_rfl) (by kernel_rfl) (by kernel_rfl) (fun _ _ _ h => h) (Or.inl ⟨by rfl, ?_⟩) (by assumption) ?_; rotate_left; (intro w hSw; (try dsimp only at hSw); go_simp; try with_reducible rfl); ((try simp only [List.getElem_toArray]); (try simp only [List.getElem_cons_succ]); (try simp only [List.getElem_cons_zero]); (try simp only [Act.put]); (try simp only [List.setIfInBounds_toArray]); (try simp only [List.set_cons_succ]); (try simp only [List.set_cons_zero])))
    refine wpAnyH_done (by kernel_rfl) ?_ _
    go_wp2_with fail
    have hq : ∀ a, A1 = some a → a.block ∉ [w.heap.size + 1] := fun a e hh => by have := (hg1.out a e).1; have := HR.out.drew.lt; simp at hh; omega
    refine bodyPost_ret (wEndB rfl _ (w.heap.size + 1) _ _ _ _ _ _ _ _ _ _ _ rfl HQ.out) rfl ⟨⟨⟨1, t, LA, 0, ⟨#[]⟩, [], 0, ⟨⟨#[]⟩, 0, false⟩⟩, A1, n1, c1, none, 0, 0⟩, by simp [Gr.val, ofB], by simp [ofW], ⟨hn1.out, (by have h1 := hn1.out; have h2 := HLN.out; show n1 ≤ _; omega), vrow_tur14 hr1.out ht hq⟩, ⟨rfl, fun h => absurd rfl h⟩, HB1.out.trans (ht.below (by simp) HB1.out.size)⟩
  by_cases h5 : k = 5
  · subst h5
    have HLN := HLB
    have HE := Lib.hid ((Has.new w 33 #[.int .i64 5, .int .i64 m, .string t, .slice Ab nb zb, .slice Aa na za, .int .i64 ck, .string ct, .slice A n c, .int .i64 K, .string cn, .int .i64 cq, .bool cb]).alloc (.cells #[.int .i64 0, .string ⟨#[]⟩, .slice none 0 0, .int .i64 0, .string ⟨#[]⟩, .slice none 0 0, .int .i64 0, .string ⟨#[]⟩, .int .i64 0, .bool false] 51))
    obtain ⟨hR, hB⟩ := two w #[.int .i64 5, .int .i64 m, .string t, .slice Ab nb zb, .slice Aa na za, .int .i64 ck, .string ct, .slice A n c, .int .i64 K, .string cn, .int .i64 cq, .bool cb] #[.int .i64 0, .string ⟨#[]⟩, .slice none 0 0, .int .i64 0, .string ⟨#[]⟩, .slice none 0 0, .int .i64 0, .string ⟨#[]⟩, .int .i64 0, .bool false] 33 51
    have HR := Lib.hid hR
    have HB := hB
    clear hR hB
    go_enter Tryz.func25, Tryz.ntmps25
    go_wp2_with fail
    obtain ⟨W0, hW0⟩ : ∃ W, W = (w.alloc (.cells #[.int .i64 5, .int .i64 m, .string t, .slice Ab nb zb, .slice Aa na za, .int .i64 ck, .string ct, .slice A n c, .int .i64 K, .string cn, .int .i64 cq, .bool cb] 33)).alloc (.cells #[.int .i64 0, .string ⟨#[]⟩, .slice none 0 0, .int .i64 0, .string ⟨#[]⟩, .slice none 0 0, .int .i64 0, .string ⟨#[]⟩, .int .i64 0, .bool false] 51) := ⟨_, rfl⟩
    rw [← hW0] at HE HR HB ⊢
    clear hW0
    have hS0 : (fun X : World => X.cell? ⟨w.heap.size, 2, none⟩ = some (.string t) ∧ X.cell? ⟨w.heap.size, 3, none⟩ = some (.slice Ab nb zb)) W0.drew := ⟨(HE.out.drew).cell 2, (HE.out.drew).cell 3⟩
    refine wp_region_held_drew (S := (fun X : World => X.cell? ⟨w.heap.size, 2, none⟩ = some (.string t) ∧ X.cell? ⟨w.heap.size, 3, none⟩ = some (.slice Ab nb zb))) (by kernel_rfl) hS0 (fun _ => ?_)
    (refine wpAnyH_take (i := 0) (v := ?_) rfl (by kernel_rfl) (by kernel_rfl) (by kernel_rfl) (fun _ _ _ h => h) (Or.inl ⟨by rfl, ?_⟩) (by assumption) ?_; rotate_left; (intro w hSw; (try dsimp only at hSw); go_simp; try with_reducible rfl); ((try simp only [List.getElem_toArray]); (try simp only [List.getElem_cons_succ]); (try simp only [List.getElem_cons_zero]); (try simp only [Act.put]); (try simp only [List.setIfInBounds_toArray]); (try simp only [List.set_cons_succ]); (try simp only [List.set_cons_zero])))
    (refine wpAnyH_take (i := 1) (v := ?_) rfl (by kernel_rfl) (by kernel_rfl) (by kernel_rfl) (fun _ _ _ h => h) (Or.inl ⟨by rfl, ?_⟩) (by assumption) ?_; rotate_left; (intro w hSw; (try dsimp only at hSw); go_simp; try with_reducible rfl); ((try simp only [List.getElem_toArray]); (try simp only [List.getElem_cons_succ]); (try simp only [List.getElem_cons_zero]); (try simp only [Act.put]); (try simp only [List.setIfInBounds_toArray]); (try simp only [List.set_cons_succ]); (try simp only [List.set_cons_zero])))
    (refine wpAnyH_take (i := 2) (v := ?_) rfl (by kernel_rfl) (by kernel_rfl) (by kernel_rfl) (fun _ _ _ h => h) (Or.inl ⟨by rfl, ?_⟩) (by assumption) ?_; rotate_left; (intro w hSw; (try dsimp only at hSw); go_simp; try with_reducible rfl); ((try simp only [List.getElem_toArray]); (try simp only [List.getElem_cons_succ]); (try simp only [List.getElem_cons_zero]); (try simp only [Act.put]); (try simp only [List.setIfInBounds_toArray]); (try simp only [List.set_cons_succ]); (try simp only [List.set_cons_zero])))
    (refine wpAnyH_take (i := 3) (v := ?_) rfl (by kernel_rfl) (by kernel_rfl) (by kernel_rfl) (fun _ _ _ h => h) (Or.inl ⟨by rfl, ?_⟩) (by assumption) ?_; rotate_left; (intro w hSw; (try dsimp only at hSw); go_simp; try with_reducible rfl); ((try simp only [List.getElem_toArray]); (try simp only [List.getElem_cons_succ]); (try simp only [List.getElem_cons_zero]); (try simp only [Act.put]); (try simp only [List.setIfInBounds_toArray]); (try simp only [List.set_cons_succ]); (try simp only [List.set_cons_zero])))
    refine wpAnyH_ready (rs := [4]) (by kernel_rfl) (by simp) ?_
    refine AllReadyH.cons rfl (fun K2 hK2 => ?_) AllReadyH.nil
    go_simp
    refine (CB.out _ (HB.out.drew)).mono ?_
    rintro e w1 ⟨v1, rfl, ho1, hb1⟩
    obtain ⟨A1, n1, c1, rfl, hn1, hr1, hz1, hg1⟩ := ownV_at ho1.out
    have HE1 := Lib.hid ((HE.out.drew).below hb1.out (HE.out.drew).lt)
    have HR1 := Lib.hid ((HR.out.drew).below hb1.out (HR.out.drew).lt)
    have HB1 := Lib.hid ((HB.out.drew).trans (hb1.out.mono (HB.out.drew).size))
    have hS1 : (fun X : World => X.cell? ⟨w.heap.size, 2, none⟩ = some (.string t) ∧ X.cell? ⟨w.heap.size, 3, none⟩ = some (.slice Ab nb zb)) w1 := ⟨HE1.out.cell 2, HE1.out.cell 3⟩
    go_wp2_with fail
    refine hK2.out _ _ (by (try dsimp only); exact hS1) (fun _ => ?_)
    clear hK2 K2
    (try simp only [List.getElem_toArray]); (try simp only [List.getElem_cons_succ]); (try simp only [List.getElem_cons_zero]); (try simp only [Act.put]); (try simp only [List.setIfInBounds_toArray]); (try simp only [List.set_cons_succ]); (try simp only [List.set_cons_zero])
    (refine wpAnyH_take (i := 5) (v := ?_) rfl (by kernel_rfl) (by kernel_rfl) (by kernel_rfl) (fun _ _ _ h => h) (Or.inl ⟨by rfl, ?_⟩) (by assumption) ?_; rotate_left; (intro w hSw; (try dsimp only at hSw); go_simp; try with_reducible rfl); ((try simp only [List.getElem_toArray]); (try simp only [List.getElem_cons_succ]); (try simp only [List.getElem_cons_zero]); (try simp only [Act.put]); (try simp only [List.setIfInBounds_toArray]); (try simp only [List.set_cons_succ]); (try simp only [List.set_cons_zero])))
    have f0 := HR1.out.free 0
    have g0 := HR1.out.cell 0
    have p0 := Lib.hid (HR1.out.put 0 (.int .i64 2))
    have f1 := p0.out.free 1
    have g1 := p0.out.cell 1
    have p1 := Lib.hid (p0.out.put 1 (.string t))
    have f2 := p1.out.free 2
    have g2 := p1.out.cell 2
    have p2 := Lib.hid (p1.out.put 2 (.slice A1 n1 c1))
    have f3 := p2.out.free 3
    have g3 := p2.out.cell 3
    have p3 := Lib.hid (p2.out.put 3 (.int .i64 0))
    have f4 := p3.out.free 4
    have g4 := p3.out.cell 4
    have p4 := Lib.hid (p3.out.put 4 (.string ⟨#[]⟩))
    have f5 := p4.out.free 5
    have g5 := p4.out.cell 5
    have p5 := Lib.hid (p4.out.put 5 (.slice none 0 0))
    have f6 := p5.out.free 6
    have g6 := p5.out.cell 6
    have p6 := Lib.hid (p5.out.put 6 (.int .i64 0))
    have f7 := p6.out.free 7
    have g7 := p6.out.cell 7
    have p7 := Lib.hid (p6.out.put 7 (.string ⟨#[]⟩))
    have f8 := p7.out.free 8
    have g8 := p7.out.cell 8
    have p8 := Lib.hid (p7.out.put 8 (.int .i64 0))
    have f9 := p8.out.free 9
    have g9 := p8.out.cell 9
    have p9 := Lib.hid (p8.out.put 9 (.bool false))
    refine wpAnyH_ready (rs := [6]) (by kernel_rfl) (by simp) ?_
    refine AllReadyH.cons rfl (fun K2 hK2 => ?_) AllReadyH.nil
    go_simp
    have HQ : Hid (Has (put10 w1 (w.heap.size + 1) (.int .i64 2) (.string t) (.slice A1 n1 c1) (.int .i64 0) (.string ⟨#[]⟩) (.slice none 0 0) (.int .i64 0) (.string ⟨#[]⟩) (.int .i64 0) (.bool false)) (w.heap.size + 1) 51 #[.int .i64 2, .string t, .slice A1 n1 c1, .int .i64 0, .string ⟨#[]⟩, .slice none 0 0, .int .i64 0, .string ⟨#[]⟩, .int .i64 0, .bool false]) := p9.out
    clear f0 g0 p0 f1 g1 p1 f2 g2 p2 f3 g3 p3 f4 g4 p4 f5 g5 p5 f6 g6 p6 f7 g7 p7 f8 g8 p8 f9 g9 p9
    have ht := put10_tur w1 (w.heap.size + 1) (.int .i64 2) (.string t) (.slice A1 n1 c1) (.int .i64 0) (.string ⟨#[]⟩) (.slice none 0 0) (.int .i64 0) (.string ⟨#[]⟩) (.int .i64 0) (.bool false)
    show K2 _ (put10 w1 (w.heap.size + 1) (.int .i64 2) (.string t) (.slice A1 n1 c1) (.int .i64 0) (.string ⟨#[]⟩) (.slice none 0 0) (.int .i64 0) (.string ⟨#[]⟩) (.int .i64 0) (.bool false))
    generalize put10 w1 (w.heap.size + 1) (.int .i64 2) (.string t) (.slice A1 n1 c1) (.int .i64 0) (.string ⟨#[]⟩) (.slice none 0 0) (.int .i64 0) (.string ⟨#[]⟩) (.int .i64 0) (.bool false) = W2 at HQ ht ⊢
    have HE2 := HE1.out.tur ht (by simp)
    refine hK2.out _ _ (by (try dsimp only); exact ⟨HE2.cell 2, HE2.cell 3⟩) (fun _ => ?_)
    clear hK2 K2
    (try simp only [List.getElem_toArray]); (try simp only [List.getElem_cons_succ]); (try simp only [List.getElem_cons_zero]); (try simp only [Act.put]); (try simp only [List.setIfInBounds_toArray]); (try simp only [List.set_cons_succ]); (try simp only [List.set_cons_zero])
    (refine wpAnyH_take (i := 7) (v := ?_) rfl (by kernel_rfl) (by kernel_rfl) (by kernel_rfl) (fun _ _ _ h => h) (Or.inl ⟨by rfl, ?_⟩) (by assumption) ?_; rotate_left; (intro w hSw; (try dsimp only at hSw); go_simp; try with_reducible rfl); ((try simp only [List.getElem_toArray]); (try simp only [List.getElem_cons_succ]); (try simp only [List.getElem_cons_zero]); (try simp only [Act.put]); (try simp only [List.setIfInBounds_toArray]); (try simp only [List.set_cons_succ]); (try simp only [List.set_cons_zero])))
    refine wpAnyH_done (by kernel_rfl) ?_ _
    go_wp2_with fail
    have hq : ∀ a, A1 = some a → a.block ∉ [w.heap.size + 1] := fun a e hh => by have := (hg1.out a e).1; have := HR.out.drew.lt; simp at hh; omega
    refine bodyPost_ret (wEndB rfl _ (w.heap.size + 1) _ _ _ _ _ _ _ _ _ _ _ rfl HQ.out) rfl ⟨⟨⟨2, t, LB, 0, ⟨#[]⟩, [], 0, ⟨⟨#[]⟩, 0, false⟩⟩, A1, n1, c1, none, 0, 0⟩, by simp [Gr.val, ofB], by simp [ofW], ⟨hn1.out, (by have h1 := hn1.out; have h2 := HLN.out; show n1 ≤ _; omega), vrow_tur14 hr1.out ht hq⟩, ⟨rfl, fun h => absurd rfl h⟩, HB1.out.trans (ht.below (by simp) HB1.out.size)⟩
  by_cases h6 : k = 6
  · subst h6
    have HE := Lib.hid (((Has.new w 33 #[.int .i64 6, .int .i64 m, .string t, .slice Ab nb zb, .slice Aa na za, .int .i64 ck, .string ct, .slice A n c, .int .i64 K, .string cn, .int .i64 cq, .bool cb]).alloc (.cells #[.int .i64 0, .string ⟨#[]⟩, .slice none 0 0, .int .i64 0, .string ⟨#[]⟩, .slice none 0 0, .int .i64 0, .string ⟨#[]⟩, .int .i64 0, .bool false] 51)).alloc (.cells #[.int .i64 ck, .string ct, .slice A n c, .int .i64 K, .string cn, .int .i64 cq, .bool cb] 31))
    obtain ⟨hR, hB⟩ := two w #[.int .i64 6, .int .i64 m, .string t, .slice Ab nb zb, .slice Aa na za, .int .i64 ck, .string ct, .slice A n c, .int .i64 K, .string cn, .int .i64 cq, .bool cb] #[.int .i64 0, .string ⟨#[]⟩, .slice none 0 0, .int .i64 0, .string ⟨#[]⟩, .slice none 0 0, .int .i64 0, .string ⟨#[]⟩, .int .i64 0, .bool false] 33 51
    have HR := Lib.hid (hR.alloc (.cells #[.int .i64 ck, .string ct, .slice A n c, .int .i64 K, .string cn, .int .i64 cq, .bool cb] 31))
    have HB := Lib.hid (hB.out.alloc (by simp; omega) (.cells #[.int .i64 ck, .string ct, .slice A n c, .int .i64 K, .string cn, .int .i64 cq, .bool cb] 31))
    have hC := Has.new ((w.alloc (.cells #[.int .i64 6, .int .i64 m, .string t, .slice Ab nb zb, .slice Aa na za, .int .i64 ck, .string ct, .slice A n c, .int .i64 K, .string cn, .int .i64 cq, .bool cb] 33)).alloc (.cells #[.int .i64 0, .string ⟨#[]⟩, .slice none 0 0, .int .i64 0, .string ⟨#[]⟩, .slice none 0 0, .int .i64 0, .string ⟨#[]⟩, .int .i64 0, .bool false] 51)) 31 #[.int .i64 ck, .string ct, .slice A n c, .int .i64 K, .string cn, .int .i64 cq, .bool cb]
    rw [World.size_alloc, World.size_alloc] at hC
    have HC := Lib.hid hC
    clear hR hB hC
    go_enter Tryz.func25, Tryz.ntmps25
    go_wp2_with fail
    obtain ⟨W0, hW0⟩ : ∃ W, W = ((w.alloc (.cells #[.int .i64 6, .int .i64 m, .string t, .slice Ab nb zb, .slice Aa na za, .int .i64 ck, .string ct, .slice A n c, .int .i64 K, .string cn, .int .i64 cq, .bool cb] 33)).alloc (.cells #[.int .i64 0, .string ⟨#[]⟩, .slice none 0 0, .int .i64 0, .string ⟨#[]⟩, .slice none 0 0, .int .i64 0, .string ⟨#[]⟩, .int .i64 0, .bool false] 51)).alloc (.cells #[.int .i64 ck, .string ct, .slice A n c, .int .i64 K, .string cn, .int .i64 cq, .bool cb] 31) := ⟨_, rfl⟩
    rw [← hW0] at HE HR HB HC ⊢
    clear hW0
    refine (CC.out _ HB.out).mono ?_
    rintro e w1 ⟨v1, rfl, ho1, hb1⟩
    obtain ⟨A1, n1, c1, rfl, hn1, hr1, hz1, hg1⟩ := ownC_at ho1.out
    have HR1 := Lib.hid (HR.out.below hb1.out HR.out.lt)
    have HC1 := Lib.hid (HC.out.below hb1.out HC.out.lt)
    have HB1 := Lib.hid (HB.out.trans (hb1.out.mono HB.out.size))
    have f2 := HC1.out.free 2
    have g2 := HC1.out.cell 2
    have HC2 := Lib.hid (HC1.out.put 2 (.slice A1 n1 c1))
    have HR2 := Lib.hid (HR1.out.far (p := ⟨w.heap.size + 1 + 1, 2, none⟩) (by show w.heap.size + 1 ≠ w.heap.size + 1 + 1; omega) (.slice A1 n1 c1))
    have t2 : Tur [w.heap.size + 1 + 1] w1 (w1.setCell ⟨w.heap.size + 1 + 1, 2, none⟩ (.slice A1 n1 c1)) := Tur.setCell w1 (p := ⟨w.heap.size + 1 + 1, 2, none⟩) (by simp) _
    have hq2 : ∀ a, A1 = some a → w.heap.size + 1 + 1 < a.block := fun a e => by have h1 := (hg1.out a e).1; have h2 := HC.out.lt; omega
    clear CC HE HR HB HC ho1 hb1
    have f20 := HR2.out.free 0
    have g20 := HR2.out.cell 0
    have p20 := Lib.hid (HR2.out.put 0 (.int .i64 3))
    have f21 := p20.out.free 1
    have g21 := p20.out.cell 1
    have p21 := Lib.hid (p20.out.put 1 (.string ⟨#[]⟩))
    have f22 := p21.out.free 2
    have g22 := p21.out.cell 2
    have p22 := Lib.hid (p21.out.put 2 (.slice none 0 0))
    have f23 := p22.out.free 3
    have g23 := p22.out.cell 3
    have p23 := Lib.hid (p22.out.put 3 (.int .i64 ck))
    have f24 := p23.out.free 4
    have g24 := p23.out.cell 4
    have p24 := Lib.hid (p23.out.put 4 (.string ct))
    have f25 := p24.out.free 5
    have g25 := p24.out.cell 5
    have p25 := Lib.hid (p24.out.put 5 (.slice A1 n1 c1))
    have f26 := p25.out.free 6
    have g26 := p25.out.cell 6
    have p26 := Lib.hid (p25.out.put 6 (.int .i64 K))
    have f27 := p26.out.free 7
    have g27 := p26.out.cell 7
    have p27 := Lib.hid (p26.out.put 7 (.string cn))
    have f28 := p27.out.free 8
    have g28 := p27.out.cell 8
    have p28 := Lib.hid (p27.out.put 8 (.int .i64 cq))
    have f29 := p28.out.free 9
    have g29 := p28.out.cell 9
    have p29 := Lib.hid (p28.out.put 9 (.bool cb))
    have l0 := HC2.out.cell 0
    have l1 := HC2.out.cell 1
    have l2 := HC2.out.cell 2
    have l3 := HC2.out.cell 3
    have l4 := HC2.out.cell 4
    have l5 := HC2.out.cell 5
    have l6 := HC2.out.cell 6
    go_wp2_with fail
    have HQ : Hid (Has (put10 (w1.setCell ⟨w.heap.size + 1 + 1, 2, none⟩ (.slice A1 n1 c1)) (w.heap.size + 1) (.int .i64 3) (.string ⟨#[]⟩) (.slice none 0 0) (.int .i64 ck) (.string ct) (.slice A1 n1 c1) (.int .i64 K) (.string cn) (.int .i64 cq) (.bool cb)) (w.heap.size + 1) 51 #[.int .i64 3, .string ⟨#[]⟩, .slice none 0 0, .int .i64 ck, .string ct, .slice A1 n1 c1, .int .i64 K, .string cn, .int .i64 cq, .bool cb]) := p29.out
    have ht := put10_tur (w1.setCell ⟨w.heap.size + 1 + 1, 2, none⟩ (.slice A1 n1 c1)) (w.heap.size + 1) (.int .i64 3) (.string ⟨#[]⟩) (.slice none 0 0) (.int .i64 ck) (.string ct) (.slice A1 n1 c1) (.int .i64 K) (.string cn) (.int .i64 cq) (.bool cb)
    have hb1 := t2.below (B := w.heap.size) (by simp; omega) HB1.out.size
    have hb2 := ht.below (B := w.heap.size) (by simp) (Nat.le_trans HB1.out.size t2.size)
    have hr2 := crow_tur14 (crow_tur14 hr1.out t2 (fun a e hh => by have := hq2 a e; simp at hh; omega)) ht (fun a e hh => by have := hq2 a e; simp at hh; omega)
    have hbb := HB1.out.trans (hb1.trans hb2)
    clear p20 p21 p22 p23 p24 p25 p26 p27 p28 p29 f20 f21 f22 f23 f24 f25 f26 f27 f28 f29 g20 g21 g22 g23 g24 g25 g26 g27 g28 g29
    show bodyPost _ _ _ _ _ (put10 (w1.setCell ⟨w.heap.size + 1 + 1, 2, none⟩ (.slice A1 n1 c1)) (w.heap.size + 1) (.int .i64 3) (.string ⟨#[]⟩) (.slice none 0 0) (.int .i64 ck) (.string ct) (.slice A1 n1 c1) (.int .i64 K) (.string cn) (.int .i64 cq) (.bool cb))
    generalize put10 (w1.setCell ⟨w.heap.size + 1 + 1, 2, none⟩ (.slice A1 n1 c1)) (w.heap.size + 1) (.int .i64 3) (.string ⟨#[]⟩) (.slice none 0 0) (.int .i64 ck) (.string ct) (.slice A1 n1 c1) (.int .i64 K) (.string cn) (.int .i64 cq) (.bool cb) = W9 at HQ hr2 hbb ⊢
    exact bodyPost_ret (wEndB rfl _ (w.heap.size + 1) _ _ _ _ _ _ _ _ _ _ _ rfl HQ.out) rfl ⟨⟨⟨3, ⟨#[]⟩, [], ck, ct, L, K, ⟨cn, cq, cb⟩⟩, none, 0, 0, A1, n1, c1⟩, rfl, rfl, ⟨rfl, by show 0 ≤ _; omega, fun h => absurd rfl h⟩, ⟨hn1.out, hr2⟩, hbb⟩
  · have q3 : (k == 3) = false := by simpa using h3
    have q4 : (k == 4) = false := by simpa using h4
    have q5 : (k == 5) = false := by simpa using h5
    have q6 : (k == 6) = false := by simpa using h6
    have hBk : ofB k = false := by unfold ofB; rw [q3, q4, q5, q6]; rfl
    have hW : ofW ⟨k, m, t, LB, LA, ck, ct, L, K, ⟨cn, cq, cb⟩⟩ = ⟨0, ⟨#[]⟩, [], 0, ⟨#[]⟩, [], 0, ⟨⟨#[]⟩, 0, false⟩⟩ := by
      have h34 : ¬ (k = 3 ∨ k = 4) := by omega
      unfold ofW
      simp only [h34, h5, h6, if_false]
    rw [hBk, hW]
    go_enter Tryz.func25, Tryz.ntmps25
    go_wp2_with fail
    obtain ⟨h, hb⟩ := two w #[.int .i64 k, .int .i64 m, .string t, .slice Ab nb zb, .slice Aa na za, .int .i64 ck, .string ct, .slice A n c, .int .i64 K, .string cn, .int .i64 cq, .bool cb] #[.int .i64 0, .string ⟨#[]⟩, .slice none 0 0, .int .i64 0, .string ⟨#[]⟩, .slice none 0 0, .int .i64 0, .string ⟨#[]⟩, .int .i64 0, .bool false] 33 51
    exact bodyPost_ret (wEndB rfl _ (w.heap.size + 1) _ _ _ _ _ _ _ _ _ _ _ rfl h) rfl ⟨⟨⟨0, ⟨#[]⟩, [], 0, ⟨#[]⟩, [], 0, ⟨⟨#[]⟩, 0, false⟩⟩, none, 0, 0, none, 0, 0⟩, rfl, rfl, ⟨rfl, by show 0 ≤ _; omega, fun h => absurd rfl h⟩, ⟨rfl, fun h => absurd rfl h⟩, hb.out⟩
end Go.Proofs.YtlhfdhmmdnkojaaGreatDoor
namespace Go.Proofs.YtlhfdhmmdnkojaaGreatDoor
open Go.RowKit Go.Shelf Go.Maps Dg
theorem vs_self14 (L : List Vl) : vsF L L = true := (vsF_iff L L).2 rfl
theorem gF_self (x : Wd) : gF x x = true := by
  unfold gF evF chF
  simp only [vs_self14, ssF_refl, Cl.eqb_refl, beq_self_eq_true, Bool.and_self]
theorem gsF_self (L : List Gr) : gsF L L = true := by
  unfold gsF gsTo
  simp only [decide_true, Bool.true_and]
  rw [List.all_eq_true]
  intro i hi
  rw [List.getElem?_eq_getElem (List.mem_range.1 hi)]
  exact gF_self _
theorem fewG_in {w : World} {L : List Gr} (h : ∀ r ∈ L, r.arg w) : ∀ r ∈ fewG L 12, r.ok w := fun r hr => by
  unfold fewG at hr
  obtain ⟨q, hq, rfl⟩ := List.mem_map.1 hr
  exact Gr.cut_ok (h q (List.mem_of_mem_take hq))
end Go.Proofs.YtlhfdhmmdnkojaaGreatDoor
namespace Go.Proofs.YtlhfdhmmdnkojaaGreatDoor.walSame
open Go.RowKit Go.Shelf Go.Maps Dg
set_option maxRecDepth 100000
set_option linter.unusedVariables false
set_option maxHeartbeats 4000000 in
theorem walk (A : Option Addr) (n c : Nat) (L : List Gr) (A' : Option Addr) (n' c' : Nat) (L' : List Gr) (w : World) (hn : L.length = n) (_hc : n ≤ c) (_hm : c ≤ maxLen) (hA : GRow w A L) (ha : ∀ r ∈ L, r.arg w) (hn' : L'.length = n') (_hc' : n' ≤ c') (_hm' : c' ≤ maxLen) (hA' : GRow w A' L') (ha' : ∀ r ∈ L', r.arg w) (hT : Tabs w) :
    Calls Tryz.prog 9 #[.slice A n c, .slice A' n' c'] w fun e w' => e = .returned (.bool true) ∧ Below w.heap.size w w' := by
  have HF := Lib.hid (few14_any A n c L w hn hA ha)
  have HF2 := Lib.hid (fun (W : World) (hb : Below w.heap.size w W) => few14_any A' n' c' L' W hn' (hA'.below hb) (fun r hr => (ha' r hr).below hb))
  have HK := Lib.hid (fewG_in ha)
  have HK2 := Lib.hid (fewG_in ha')
  have HT := Lib.hid hT
  have hl := fewG_len L 12
  have hl2 := fewG_len L' 12
  clear hn hA ha hn' hA' ha' hT
  generalize fewG L 12 = X at *
  generalize fewG L' 12 = Y at *
  go_enter Tryz.func9, Tryz.ntmps9
  go_wp2_with fail
  refine HF.out.mono ?_
  rintro e w1 ⟨v1, rfl, ho1, hb1⟩
  obtain ⟨A1, n1, c1, rfl, hn1, _, _, hr1, _, _⟩ := ownG_open ho1.out
  clear ho1 HF
  go_wp2_with fail
  refine (HF2.out w1 hb1.out).mono ?_
  rintro e w2 ⟨v2, rfl, ho2, hb2⟩
  obtain ⟨A2, n2, c2, rfl, hn2, _, _, hr2, _, _⟩ := ownG_open ho2.out
  have HB2 := Lib.hid (hb1.out.trans (hb2.out.mono hb1.out.size))
  have HX : Hid (GIn w2 A1 n1 X) := ⟨hn1.out, by have := hn1.out; omega, hr1.out.below hb2.out, fun r hr => (HK.out r hr).below HB2.out⟩
  have HY : Hid (GIn w2 A2 n2 Y) := ⟨hn2.out, by have := hn2.out; omega, hr2.out, fun r hr => (HK2.out r hr).below HB2.out⟩
  clear ho2 HF2 hb1 hb2 hr1 hr2 HK HK2
  obtain ⟨q, hq⟩ : ∃ q, gsF X Y = q := ⟨_, rfl⟩
  have HQ := Lib.hid hq
  clear hq
  go_wp2_with fail
  refine (wsame_any A1 A2 n1 c1 n2 c2 w2 HX.out HY.out).mono ?_
  rintro e w3 ⟨rfl, hb3⟩
  rw [HQ.out]
  have HB3 := Lib.hid (HB2.out.trans (hb3.out.mono HB2.out.size))
  have HX3 := Lib.hid (HX.out.below hb3.out)
  have HY3 := Lib.hid (HY.out.below hb3.out)
  clear HX HY HB2 hb3
  go_wp2_with fail
  refine (rsame14_any A1 A2 n1 c1 n2 c2 w3 HX3.out HY3.out).mono ?_
  rintro e w4 ⟨rfl, hb4⟩
  rw [HQ.out]
  have hqq : (q == q) = true := by simp
  have HB4 := Lib.hid (HB3.out.trans (hb4.out.mono HB3.out.size))
  have HX4 := Lib.hid (HX3.out.below hb4.out)
  clear HX3 HY3 HB3 hb4
  go_wp2_with fail
  refine (wsame_any A1 A1 n1 c1 n1 c1 w4 HX4.out HX4.out).mono ?_
  rintro e w5 ⟨rfl, hb5⟩
  rw [gsF_self]
  have HB5 := Lib.hid (HB4.out.trans (hb5.out.mono HB4.out.size))
  clear HX4 HB4 hb5
  go_wp2_with fail
  refine (lives14_any _ (HT.out.below HB5.out)).mono ?_
  rintro e w6 ⟨rfl, hb6⟩
  have HB6 := Lib.hid (HB5.out.trans (hb6.out.mono HB5.out.size))
  go_wp2_with fail
  go_ret
  exact ⟨rfl, HB6.out⟩
end Go.Proofs.YtlhfdhmmdnkojaaGreatDoor.walSame
namespace Go.Proofs.YtlhfdhmmdnkojaaGreatDoor
open Go.RowKit Go.Shelf Go.Maps Dg
theorem grow_one (W : World) (r : Gr) : GRow (W.alloc (.cells r.row.toArray 51)) (some ⟨W.heap.size, 0, none⟩) [r] := fun _ => ⟨W.heap.size, 0, rfl, fun i hi j hj => by
  obtain rfl : i = 0 := by simpa using hi
  simp⟩
theorem ofV_gr {w : World} (k m : Int) (t : ByteArray) (Ab : Option Addr) (nb zb : Nat) (LB : List Vl) (Aa : Option Addr) (na za : Nat) (LA : List Vl) (ck : Int) (ct : ByteArray) (A : Option Addr) (n c : Nat) (L : List Cl) (K : Int) (cn : ByteArray) (cq : Int) (cb : Bool) (hB : LB.length = nb ∧ nb ≤ 4398046511104 ∧ VRow w Ab LB) (hA : LA.length = na ∧ na ≤ 4398046511104 ∧ VRow w Aa LA) (hL : L.length = n ∧ n ≤ 1000 ∧ CRow w A L) :
    ∃ g : Gr, ofV k t (.slice Aa na za) (.slice Ab nb zb) ck ct (.slice A n c) K cn cq cb = g.val ∧ g.x = ofW ⟨k, m, t, LB, LA, ck, ct, L, K, ⟨cn, cq, cb⟩⟩ ∧ g.ok w := by
  have hz : ([] : List Vl).length = 0 ∧ 0 ≤ 4398046511104 ∧ VRow w none [] := ⟨rfl, by omega, fun h => absurd rfl h⟩
  have hc : ([] : List Cl).length = 0 ∧ 0 ≤ 1000 ∧ CRow w none [] := ⟨rfl, by omega, fun h => absurd rfl h⟩
  by_cases h1 : k = 3 ∨ k = 4
  · exact ⟨⟨⟨1, t, LA, 0, ⟨#[]⟩, [], 0, ⟨⟨#[]⟩, 0, false⟩⟩, Aa, na, za, none, 0, 0⟩, by unfold ofV; rw [if_pos h1]; rfl, by unfold ofW; rw [if_pos h1], ⟨hA, hc⟩⟩
  by_cases h2 : k = 5
  · exact ⟨⟨⟨2, t, LB, 0, ⟨#[]⟩, [], 0, ⟨⟨#[]⟩, 0, false⟩⟩, Ab, nb, zb, none, 0, 0⟩, by unfold ofV; rw [if_neg h1, if_pos h2]; rfl, by unfold ofW; rw [if_neg h1, if_pos h2], ⟨hB, hc⟩⟩
  by_cases h3 : k = 6
  · exact ⟨⟨⟨3, ⟨#[]⟩, [], ck, ct, L, K, ⟨cn, cq, cb⟩⟩, none, 0, 0, A, n, c⟩, by unfold ofV; rw [if_neg h1, if_neg h2, if_pos h3]; rfl, by unfold ofW; rw [if_neg h1, if_neg h2, if_pos h3], ⟨hz, hL⟩⟩
  · exact ⟨⟨⟨0, ⟨#[]⟩, [], 0, ⟨#[]⟩, [], 0, ⟨⟨#[]⟩, 0, false⟩⟩, none, 0, 0, none, 0, 0⟩, by unfold ofV; rw [if_neg h1, if_neg h2, if_neg h3]; rfl, by unfold ofW; rw [if_neg h1, if_neg h2, if_neg h3], ⟨hz, hc⟩⟩
theorem ofW_len (x : Ev) : (ofW x).L.length ≤ x.L.length := by
  unfold ofW
  split
  · simp
  · split
    · simp
    · split
      · exact Nat.le_refl _
      · simp
end Go.Proofs.YtlhfdhmmdnkojaaGreatDoor
namespace Go.Proofs.YtlhfdhmmdnkojaaGreatDoor.walOf
open Go.RowKit Go.Shelf Go.Maps Dg
set_option maxRecDepth 100000
set_option linter.unusedVariables false
set_option maxHeartbeats 8000000 in
theorem walk (r : Ei) (w : World) (hr : r.arg w) (hT : Tabs w) :
    Calls Tryz.prog 5 #[.agg #[.int .i64 r.x.k, .int .i64 r.x.n, .string r.x.t, .slice r.Ab r.nb r.zb, .slice r.Aa r.na r.za, .int .i64 r.x.ck, .string r.x.ct, .slice r.A r.n r.c, .int .i64 r.x.K, .string r.x.cl.nm, .int .i64 r.x.cl.k, .bool r.x.cl.no]] w fun e w' => e = .returned (.bool true) ∧ Below w.heap.size w w' := by
  have HT := Lib.hid hT
  clear hT
  obtain ⟨⟨k, m, t, LB, LA, ck, ct, L, K, ⟨cn, cq, cb⟩⟩, Ab, nb, zb, Aa, na, za, A, n, c⟩ := r
  obtain ⟨_, _, ⟨hb1, hb2, hb3⟩, ⟨ha1, ha2, ha3⟩, ⟨hc1, hc2, hc3⟩, hcl, _⟩ := hr
  dsimp only at hb1 hb2 hb3 ha1 ha2 ha3 hc1 hc2 hc3 hcl ⊢
  have HRB := Lib.hid (show LB.length = nb ∧ nb ≤ 4398046511104 ∧ VRow w Ab LB ∧ (Ab = none → zb = 0) from ⟨hb1.1, hb2, hb1.2.2.2.1, hb3⟩)
  have HRA := Lib.hid (show LA.length = na ∧ na ≤ 4398046511104 ∧ VRow w Aa LA ∧ (Aa = none → za = 0) from ⟨ha1.1, ha2, ha1.2.2.2.1, ha3⟩)
  have HRL := Lib.hid (show (L.take 20).length = min n 20 ∧ min n 20 ≤ 1000 ∧ CRow w A (L.take 20) ∧ (A = none → c = 0) from ⟨by rw [List.length_take, hc1.1]; omega, by omega, hc1.2.2.2.1.take14 20, hc3⟩)
  have q1 := hc1.2.1
  have q2 := hc1.2.2.1
  have q3 := hcl.2
  have q4 := hcl.1.1
  have q3 : ct.size ≤ 140737488355328 := q3
  have q4 : cn.size ≤ 140737488355328 := q4
  clear hb1 hb2 hb3 ha1 ha2 ha3 hc1 hc2 hc3 hcl
  generalize L.take 20 = M at *
  go_enter Tryz.func5, Tryz.ntmps5
  go_wp2_with fail
  refine (cut14_is ck ct A n c K cn cq cb _ q1 q2 q3 q4).mono ?_
  rintro e w1 ⟨rfl, hw1⟩
  subst hw1
  generalize to40 ct = sct at *
  generalize to40 cn = scn at *
  obtain ⟨rm, hrm⟩ : ∃ m, min n 20 = m := ⟨_, rfl⟩
  rw [hrm] at HRL ⊢
  clear hrm q1 q2 q3 q4
  go_wp2_with fail
  have hb3 : Below w.heap.size w (((w.alloc (.cells #[.int .i64 k, .int .i64 m, .string t, .slice Ab nb zb, .slice Aa na za, .int .i64 ck, .string sct, .slice A rm c, .int .i64 K, .string scn, .int .i64 cq, .bool cb] 33)).alloc (.cells #[.int .i64 ck, .string sct, .slice A rm c, .int .i64 K, .string scn, .int .i64 cq, .bool cb] 31)).alloc (.cells #[.int .i64 ck, .string sct, .slice A rm c, .int .i64 K, .string scn, .int .i64 cq, .bool cb] 31)) := (((Below.refl _ w).alloc (Nat.le_refl _) _).alloc (by simp) _).alloc (by simp; omega) _
  have he3 : Has (((w.alloc (.cells #[.int .i64 k, .int .i64 m, .string t, .slice Ab nb zb, .slice Aa na za, .int .i64 ck, .string sct, .slice A rm c, .int .i64 K, .string scn, .int .i64 cq, .bool cb] 33)).alloc (.cells #[.int .i64 ck, .string sct, .slice A rm c, .int .i64 K, .string scn, .int .i64 cq, .bool cb] 31)).alloc (.cells #[.int .i64 ck, .string sct, .slice A rm c, .int .i64 K, .string scn, .int .i64 cq, .bool cb] 31)) w.heap.size 33 #[.int .i64 k, .int .i64 m, .string t, .slice Ab nb zb, .slice Aa na za, .int .i64 ck, .string sct, .slice A rm c, .int .i64 K, .string scn, .int .i64 cq, .bool cb] := ((Has.new w _ _).alloc _).alloc _
  obtain ⟨W3, hW3⟩ : ∃ W, W = (((w.alloc (.cells #[.int .i64 k, .int .i64 m, .string t, .slice Ab nb zb, .slice Aa na za, .int .i64 ck, .string sct, .slice A rm c, .int .i64 K, .string scn, .int .i64 cq, .bool cb] 33)).alloc (.cells #[.int .i64 ck, .string sct, .slice A rm c, .int .i64 K, .string scn, .int .i64 cq, .bool cb] 31)).alloc (.cells #[.int .i64 ck, .string sct, .slice A rm c, .int .i64 K, .string scn, .int .i64 cq, .bool cb] 31)) := ⟨_, rfl⟩
  rw [← hW3] at hb3 he3 ⊢
  clear hW3
  have HB3 := Lib.hid hb3
  have HE3 := Lib.hid he3
  clear he3
  refine (wof14_any k m t Ab nb zb LB Aa na za LA ck sct A rm c M K scn cq cb W3 ⟨HRB.out.1, HRB.out.2.1, HRB.out.2.2.1.below hb3, HRB.out.2.2.2⟩ ⟨HRA.out.1, HRA.out.2.1, HRA.out.2.2.1.below hb3, HRA.out.2.2.2⟩ ⟨HRL.out.1, HRL.out.2.1, HRL.out.2.2.1.below hb3, HRL.out.2.2.2⟩).mono ?_
  rintro e w4 ⟨g, rfl, hgx, hgR, hgL, hb4⟩
  have HGX := Lib.hid hgx
  have HGO : Hid (g.ok w4) := ⟨hgR, ⟨hgL.1, by have h1 := ofW_len ⟨k, m, t, LB, LA, ck, sct, M, K, ⟨scn, cq, cb⟩⟩; have h2 := HRL.out.1; have h3 := HRL.out.2.1; rw [← hgx] at h1; have h4 := hgL.1; have h5 : g.x.L.length ≤ M.length := h1; omega, hgL.2⟩⟩
  clear hgx hgR hgL hb3
  obtain ⟨⟨gk, gt, gR, gck, gct, gL, gK, ⟨gcn, gcq, gcb⟩⟩, gAr, gnr, gzr, gA, gn, gc⟩ := g
  unfold Gr.val
  dsimp only
  have hb5 : Below w4.heap.size w4 (w4.alloc (.cells #[.int .i64 gk, .string gt, .slice gAr gnr gzr, .int .i64 gck, .string gct, .slice gA gn gc, .int .i64 gK, .string gcn, .int .i64 gcq, .bool gcb] 51)) := (Below.refl _ w4).alloc (Nat.le_refl _) _
  have HB5 := Lib.hid (HB3.out.trans ((hb4.trans (hb5.mono hb4.size)).mono HB3.out.size))
  have HE5 := Lib.hid (HE3.out.below (hb4.trans (hb5.mono hb4.size)) HE3.out.lt)
  have HG5 := Lib.hid (Has.new w4 51 #[.int .i64 gk, .string gt, .slice gAr gnr gzr, .int .i64 gck, .string gct, .slice gA gn gc, .int .i64 gK, .string gcn, .int .i64 gcq, .bool gcb])
  have HO5 := Lib.hid (HGO.out.below hb5)
  have l0 := HE5.out.cell 0
  have l1 := HE5.out.cell 1
  have l2 := HE5.out.cell 2
  have l3 := HE5.out.cell 3
  have l4 := HE5.out.cell 4
  have l5 := HE5.out.cell 5
  have l6 := HE5.out.cell 6
  have l7 := HE5.out.cell 7
  have l8 := HE5.out.cell 8
  have l9 := HE5.out.cell 9
  have l10 := HE5.out.cell 10
  have l11 := HE5.out.cell 11
  go_wp2_with fail
  clear l0 l1 l2 l3 l4 l5 l6 l7 l8 l9 l10 l11
  obtain ⟨W5, hW5⟩ : ∃ W, W = w4.alloc (.cells #[.int .i64 gk, .string gt, .slice gAr gnr gzr, .int .i64 gck, .string gct, .slice gA gn gc, .int .i64 gK, .string gcn, .int .i64 gcq, .bool gcb] 51) := ⟨_, rfl⟩
  obtain ⟨g5, hg5⟩ : ∃ q, q = w4.heap.size := ⟨_, rfl⟩
  rw [← hW5] at HB5 HE5 HG5 HO5 ⊢
  clear hW5 hb5 hb4 HGO HE3 HB3
  rw [← hg5] at HG5 ⊢
  clear hg5
  refine (rof14_any k m t Ab nb zb Aa na za ck sct A rm c K scn cq cb W5).mono ?_
  rintro e w6 ⟨rfl, hb6⟩
  obtain ⟨h, hv, hhx, hho⟩ := ofV_gr (w := w6) k m t Ab nb zb LB Aa na za LA ck sct A rm c M K scn cq cb ⟨HRB.out.1, HRB.out.2.1, HRB.out.2.2.1.below (HB5.out.trans (hb6.out.mono HB5.out.size))⟩ ⟨HRA.out.1, HRA.out.2.1, HRA.out.2.2.1.below (HB5.out.trans (hb6.out.mono HB5.out.size))⟩ ⟨HRL.out.1, HRL.out.2.1, HRL.out.2.2.1.below (HB5.out.trans (hb6.out.mono HB5.out.size))⟩
  rw [hv]
  clear hv
  have HHX := Lib.hid hhx
  have HHO := Lib.hid hho
  clear hhx hho HRA HRB HRL HE5
  obtain ⟨⟨hk, ht, hR, hck, hct, hL, hK, ⟨hcn, hcq, hcb⟩⟩, hAr, hnr, hzr, hA, hn, hc⟩ := h
  unfold Gr.val
  dsimp only
  have hb7 : Below w6.heap.size w6 (w6.alloc (.cells #[.int .i64 hk, .string ht, .slice hAr hnr hzr, .int .i64 hck, .string hct, .slice hA hn hc, .int .i64 hK, .string hcn, .int .i64 hcq, .bool hcb] 51)) := (Below.refl _ w6).alloc (Nat.le_refl _) _
  have HB7 := Lib.hid (HB5.out.trans ((hb6.out.trans (hb7.mono hb6.out.size)).mono HB5.out.size))
  have HG7 := Lib.hid (HG5.out.below (hb6.out.trans (hb7.mono hb6.out.size)) HG5.out.lt)
  have HO7 := Lib.hid (HO5.out.below (hb6.out.trans (hb7.mono hb6.out.size)))
  have HH7 := Lib.hid (Has.new w6 51 #[.int .i64 hk, .string ht, .slice hAr hnr hzr, .int .i64 hck, .string hct, .slice hA hn hc, .int .i64 hK, .string hcn, .int .i64 hcq, .bool hcb])
  have HQ7 := Lib.hid (HHO.out.below hb7)
  clear HB5 HG5 HO5 HHO hb6
  have a0 := HG7.out.cell 0
  have a1 := HG7.out.cell 1
  have a2 := HG7.out.cell 2
  have a3 := HG7.out.cell 3
  have a4 := HG7.out.cell 4
  have a5 := HG7.out.cell 5
  have a6 := HG7.out.cell 6
  have a7 := HG7.out.cell 7
  have a8 := HG7.out.cell 8
  have a9 := HG7.out.cell 9
  have b0 := HH7.out.cell 0
  have b1 := HH7.out.cell 1
  have b2 := HH7.out.cell 2
  have b3 := HH7.out.cell 3
  have b4 := HH7.out.cell 4
  have b5 := HH7.out.cell 5
  have b6 := HH7.out.cell 6
  have b7 := HH7.out.cell 7
  have b8 := HH7.out.cell 8
  have b9 := HH7.out.cell 9
  go_wp2_with fail
  clear a0 a1 a2 a3 a4 a5 a6 a7 a8 a9 b0 b1 b2 b3 b4 b5 b6 b7 b8 b9
  obtain ⟨W7, hW7⟩ : ∃ W, W = w6.alloc (.cells #[.int .i64 hk, .string ht, .slice hAr hnr hzr, .int .i64 hck, .string hct, .slice hA hn hc, .int .i64 hK, .string hcn, .int .i64 hcq, .bool hcb] 51) := ⟨_, rfl⟩
  obtain ⟨g7, hg7⟩ : ∃ q, q = w6.heap.size := ⟨_, rfl⟩
  have hsz : W7.heap.size = w6.heap.size + 1 := by rw [hW7]; simp
  rw [← hW7] at HB7 HG7 HO7 HH7 HQ7 ⊢
  clear hW7 hb7
  rw [← hg7] at HH7 ⊢
  have hs7 : W7.heap.size = g7 + 1 := hsz.trans (by rw [hg7])
  clear hg7 hsz
  obtain ⟨G, hG⟩ : ∃ G : Gr, G = ⟨⟨gk, gt, gR, gck, gct, gL, gK, ⟨gcn, gcq, gcb⟩⟩, gAr, gnr, gzr, gA, gn, gc⟩ := ⟨_, rfl⟩
  obtain ⟨H, hH⟩ : ∃ H : Gr, H = ⟨⟨hk, ht, hR, hck, hct, hL, hK, ⟨hcn, hcq, hcb⟩⟩, hAr, hnr, hzr, hA, hn, hc⟩ := ⟨_, rfl⟩
  have hbA : Below W7.heap.size W7 (W7.alloc (.cells #[.int .i64 gk, .string gt, .slice gAr gnr gzr, .int .i64 gck, .string gct, .slice gA gn gc, .int .i64 gK, .string gcn, .int .i64 gcq, .bool gcb] 51)) := (Below.refl _ W7).alloc (Nat.le_refl _) _
  have hbB : Below (W7.alloc (.cells #[.int .i64 gk, .string gt, .slice gAr gnr gzr, .int .i64 gck, .string gct, .slice gA gn gc, .int .i64 gK, .string gcn, .int .i64 gcq, .bool gcb] 51)).heap.size (W7.alloc (.cells #[.int .i64 gk, .string gt, .slice gAr gnr gzr, .int .i64 gck, .string gct, .slice gA gn gc, .int .i64 gK, .string gcn, .int .i64 gcq, .bool gcb] 51)) ((W7.alloc (.cells #[.int .i64 gk, .string gt, .slice gAr gnr gzr, .int .i64 gck, .string gct, .slice gA gn gc, .int .i64 gK, .string gcn, .int .i64 gcq, .bool gcb] 51)).alloc (.cells #[.int .i64 hk, .string ht, .slice hAr hnr hzr, .int .i64 hck, .string hct, .slice hA hn hc, .int .i64 hK, .string hcn, .int .i64 hcq, .bool hcb] 51)) := (Below.refl _ _).alloc (Nat.le_refl _) _
  have hbC := hbA.trans (hbB.mono hbA.size)
  have rG := (grow_one W7 G)
  have rH := (grow_one (W7.alloc (.cells #[.int .i64 gk, .string gt, .slice gAr gnr gzr, .int .i64 gck, .string gct, .slice gA gn gc, .int .i64 gK, .string gcn, .int .i64 gcq, .bool gcb] 51)) H)
  rw [World.size_alloc] at rH
  rw [hs7] at rG rH
  rw [← hG] at HO7
  rw [← hH] at HQ7
  have iG : Hid (GIn ((W7.alloc (.cells #[.int .i64 gk, .string gt, .slice gAr gnr gzr, .int .i64 gck, .string gct, .slice gA gn gc, .int .i64 gK, .string gcn, .int .i64 gcq, .bool gcb] 51)).alloc (.cells #[.int .i64 hk, .string ht, .slice hAr hnr hzr, .int .i64 hck, .string hct, .slice hA hn hc, .int .i64 hK, .string hcn, .int .i64 hcq, .bool hcb] 51)) (some ⟨g7 + 1, 0, none⟩) 1 [G]) := ⟨rfl, by omega, (by rw [hG] at rG ⊢; exact GRow.below rG hbB), fun r hr => by rw [List.mem_singleton.1 hr]; exact HO7.out.below hbC⟩
  have iH : Hid (GIn ((W7.alloc (.cells #[.int .i64 gk, .string gt, .slice gAr gnr gzr, .int .i64 gck, .string gct, .slice gA gn gc, .int .i64 gK, .string gcn, .int .i64 gcq, .bool gcb] 51)).alloc (.cells #[.int .i64 hk, .string ht, .slice hAr hnr hzr, .int .i64 hck, .string hct, .slice hA hn hc, .int .i64 hK, .string hcn, .int .i64 hcq, .bool hcb] 51)) (some ⟨g7 + 1 + 1, 0, none⟩) 1 [H]) := ⟨rfl, by omega, (by rw [hH] at rH ⊢; exact rH), fun r hr => by rw [List.mem_singleton.1 hr]; exact HQ7.out.below hbC⟩
  have hgs : gsF [G] [H] = true := by
    have : G.x = H.x := by rw [hG, hH]; exact HGX.out.trans HHX.out.symm
    simp [gsF, gsTo, this, gF_self]
  have HBC := Lib.hid (HB7.out.trans (hbC.mono HB7.out.size))
  refine (rsame14_any _ _ 1 1 1 1 _ iG.out iH.out).mono ?_
  rintro e w8 ⟨rfl, hb8⟩
  rw [hgs]
  have HB8 := Lib.hid (HBC.out.trans (hb8.out.mono HBC.out.size))
  have hbb : (ofB k == ofB k) = true := beq_self_eq_true _
  clear hb8 HBC iG iH rG rH hbA hbB hbC hG hH hgs
  generalize ofB k = bk at *
  go_wp2_with fail
  refine (lives14_any _ (HT.out.below HB8.out)).mono ?_
  rintro e w9 ⟨rfl, hb9⟩
  have HB9 := Lib.hid (HB8.out.trans (hb9.out.mono HB8.out.size))
  go_wp2_with fail
  go_ret
  exact ⟨rfl, HB9.out⟩
end Go.Proofs.YtlhfdhmmdnkojaaGreatDoor.walOf
namespace Go.Proofs.YtlhfdhmmdnkojaaGreatDoor
open Go.ChangeShapes Go.WideShapes Go.RowKit Go.Joins Go.Deep Go.Lib
set_option maxRecDepth 100000
theorem own : ownKnob Tryz.prog.godebug = none := by kernel_rfl
theorem laidOut : laidOutB Tryz.prog = true := by kernel_rfl
/-- What a row of this seat lists. -/
def listed : List (String × DataW Unit) := [("unicode/utf8.acceptRanges", Rows.laid_unicode_utf8_acceptRanges), ("unicode/utf8.first", Rows.laid_unicode_utf8_first)]
theorem accept_eq : (Rows.laid_unicode_utf8_acceptRanges : DataW Unit) = acceptData := by kernel_rfl
theorem tabs_of {W : World} (h : laidMetH Tryz.prog listed W) : Tabs W := by
  rw [MakeChecks.laidMetH_plain _ _ _ (by kernel_rfl)] at h
  refine utf8Tabs_of_readsT (U8Types.of196 Tryz.laysValid) ⟨by kernel_rfl, by kernel_rfl, by kernel_rfl, by kernel_rfl, by kernel_rfl, by kernel_rfl, by kernel_rfl⟩ ?_ ?_
  · have := Lib.laidMet.reads h (.tail _ (.head _))
    exact Pinned.utf8First_eq ▸ this
  · have := Lib.laidMet.reads h (.head _)
    exact accept_eq ▸ this
section
variable {H : Type} {enc : TypeId × Value → H} {w : World} {base : Nat} {spare : Nat → Bool} {held : Bool}
end
end Go.Proofs.YtlhfdhmmdnkojaaGreatDoor
