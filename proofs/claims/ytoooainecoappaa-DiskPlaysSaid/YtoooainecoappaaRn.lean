/-
  The document's disk: a file is put in its row.
-/
import Derived.Test.YtoooainecoappaaRm
import Derived.Deep.RegionHeld3
namespace Go.Proofs.Ytoooainecoappaa
open Go.RowKit Go.Maps Go.WideShapes
def rcA (x : Pf) : Array Value := #[.string (tx x.nm), .string (bs (x.l.take x.k)), .string (bs (x.l.drop x.k))]
/-- Three appends, one behind the other. -/
structure Puts (r : Nat) (w W : World) (S : Ds) (v : Value) (ra : Int) (x : Pf) (bx : Nat) (v1 v3 : Value) (k : Nat) (A1 : Option Addr) (n1 c1 : Nat) (W1 : World) (A2 : Option Addr) (n2 c2 : Nat) (W2 : World) (A3 : Option Addr) (n3 c3 : Nat) (W3 : World) : Prop where
  run1 : (Builtin.append_ #[65, 65] 65 #[.slice none 0 0, v1]).run Try.prog W = .ok (.slice A1 n1 c1) W1
  run2 : (Builtin.append_ #[65, 65] 65 #[.slice A1 n1 c1, .slice (some ⟨W1.heap.size, 0, none⟩) 1 1]).run Try.prog (W1.alloc (.cells (rcA x) 81)) = .ok (.slice A2 n2 c2) W2
  run3 : (Builtin.append_ #[65, 65] 65 #[.slice A2 n2 c2, v3]).run Try.prog W2 = .ok (.slice A3 n3 c3) W3
  top1 : Has W1 r 67 #[.int .i64 S.room, v, .int .i64 ra, .bool S.down]
  top2 : Has W2 r 67 #[.int .i64 S.room, v, .int .i64 ra, .bool S.down]
  top3 : Has W3 r 67 #[.int .i64 S.room, v, .int .i64 ra, .bool S.down]
  box1 : Has W1 bx 81 (rcA x)
  ri : RIn r (W3.setCell ⟨r, 1, none⟩ (.slice A3 n3 c3)) { S with fs := S.fs.take k ++ x :: S.fs.drop k } (.slice A3 n3 c3) ra
  tur : Tur (rft r v) w (W3.setCell ⟨r, 1, none⟩ (.slice A3 n3 c3))
  fre : Fre (rft r v) (rft r (.slice A3 n3 c3)) w
theorem puts {r : Nat} {w W : World} {S : Ds} {v : Value} {ra : Int} (h : RIn r w S v ra) (hW : Below w.heap.size w W) (x : Pf) (bx : Nat) (hbx : Has W bx 81 (rcA x)) (k : Nat) (hk : k ≤ S.fs.length) (hl : S.fs.length ≤ 100000)
    (A : Option Addr) (c : Nat) (hs1 : ∀ a, A = some a → (∀ j u, (rcs (S.fs.take k))[j]? = some u → W.cell? (a.add j) = some u)) (hA : A = none → k = 0 ∧ c = 0)
    (D : Option Addr) (n' c' : Nat) (hn' : (S.fs.drop k).length = n') (hs3 : ∀ a, D = some a → (∀ j u, (rcs (S.fs.drop k))[j]? = some u → W.cell? (a.add j) = some u) ∧ a.spot = none ∧ a.block < W.heap.size) (hD : D = none → n' = 0 ∧ c' = 0) :
    ∃ A1 n1 c1 W1 A2 n2 c2 W2 A3 n3 c3 W3, Puts r w W S v ra x bx (.slice A k c) (.slice D n' c') k A1 n1 c1 W1 A2 n2 c2 W2 A3 n3 c3 W3 := by
  have hrl := h.top.lt
  have hws := hW.size
  obtain ⟨A1, n1, c1, W1, hrun1, hown1, hg1, ho1⟩ := own3_app W (.slice none 0 0) 0 [] (S.fs.take k) (World.ownsRow_nil _ _ _ _) A k c (by rw [List.length_take]; omega) hs1 hA (by omega)
  have hb1 : ∀ b, b < W.heap.size → W1.heap[b]? = W.heap[b]? := fun b hb => hg1.block b hb (by simp [Value.ownBlock])
  have hs1' := hg1.size
  have hn1 : ∀ b, (Value.slice A1 n1 c1).ownBlock = some b → W.heap.size ≤ b ∧ b < W1.heap.size := by
    intro b hb
    refine ⟨?_, (World.ownsRow.lt hown1 b hb).2⟩
    rcases ho1 with ho | ho
    · rw [ho] at hb; simp [Value.ownBlock] at hb
    · rw [ho] at hb; injection hb with hb; omega
  have hal : Below W1.heap.size W1 (W1.alloc (.cells (rcA x) 81)) := (Below.refl _ _).alloc (Nat.le_refl _) _
  have hnew := Has.new W1 81 (rcA x)
  obtain ⟨A2, n2, c2, W2, hrun2, hown2, hg2, ho2⟩ := own3_app (W1.alloc (.cells (rcA x) 81)) (.slice A1 n1 c1) (0 + k) (S.fs.take k) [x] (by simpa using World.ownsRow.alloc hown1 _) (some ⟨W1.heap.size, 0, none⟩) 1 1 rfl (fun a e => by
    cases e
    intro j u hj
    rw [Addr.add_lit, Nat.zero_add, hnew.cell]
    have e1 : rcs [x] = (rcA x).toList := rfl
    rw [e1] at hj
    simpa using hj) (fun e => by cases e) (by omega)
  have hb2 : ∀ b, b < W.heap.size → W2.heap[b]? = W.heap[b]? := fun b hb => (hg2.block b (by have := hal.size; omega) fun e => by have := (hn1 b e.symm).1; omega).trans ((hal.block b (by omega)).trans (hb1 b hb))
  have hs2' := hg2.size
  have hn2 : ∀ b, (Value.slice A2 n2 c2).ownBlock = some b → W.heap.size ≤ b := by
    intro b hb
    rcases ho2 with ho | ho
    · exact (hn1 b (ho ▸ hb)).1
    · rw [ho] at hb; injection hb with hb; have := hal.size; omega
  obtain ⟨A3, n3, c3, W3, hrun3, hown3, hg3, ho3⟩ := own3_app W2 (.slice A2 n2 c2) (0 + k + 1) (S.fs.take k ++ [x]) (S.fs.drop k) hown2 D n' c' hn' (fun a e => cells_stay (hs3 a e).1 (hs3 a e).2.1 (hb2 a.block (hs3 a e).2.2)) hD (by have := List.length_drop (i := k) (l := S.fs); omega)
  have hb3 : ∀ b, b < W.heap.size → W3.heap[b]? = W.heap[b]? := fun b hb => (hg3.block b (by have := hal.size; omega) fun e => by have := hn2 b e.symm; omega).trans (hb2 b hb)
  have hn3 : ∀ b, (Value.slice A3 n3 c3).ownBlock = some b → W.heap.size ≤ b := by
    intro b hb
    rcases ho3 with ho | ho
    · exact hn2 b (ho ▸ hb)
    · rw [ho] at hb; injection hb with hb; have := hal.size; omega
  have hbW : ∀ b, b < w.heap.size → W3.heap[b]? = w.heap[b]? := fun b hb => (hb3 b (by omega)).trans (hW.block b hb)
  have htop : Has W r 67 #[.int .i64 S.room, v, .int .i64 ra, .bool S.down] := h.top.below hW hrl
  have hs3' := hg3.size
  have hals := hal.size
  have ht3 : Has W3 r 67 #[.int .i64 S.room, v, .int .i64 ra, .bool S.down] := (hb3 r (by omega)).trans htop
  have hlen : 0 + k + 1 + n' = (S.fs.take k ++ x :: S.fs.drop k).length := by rw [List.length_append, List.length_cons, List.length_take, hn']; omega
  refine ⟨A1, n1, c1, W1, A2, n2, c2, W2, A3, n3, c3, W3, hrun1, hrun2, hrun3, (hb1 r (by omega)).trans htop, (hb2 r (by omega)).trans htop, ht3, (hb1 bx hbx.lt).trans hbx, ?_, ?_, ?_⟩
  · refine ⟨ht3.put 1 _, ?_, h.arm, h.rng, fun b hb => by have := hn3 b hb; omega⟩
    refine row_keep (w := W3) ?_ fun b hb => Below.heap_setCell W3 ⟨r, 1, none⟩ _ _ (by have := hn3 b hb; show b ≠ r; omega)
    rw [← hlen]
    have e : S.fs.take k ++ x :: S.fs.drop k = S.fs.take k ++ [x] ++ S.fs.drop k := by simp
    show W3.ownsRow 0 _ 3 _ _ (rcs (S.fs.take k ++ x :: S.fs.drop k))
    rw [e]
    exact hown3
  · exact Tur.trans (X := rft r v) (X' := rft r v) ⟨by rw [hg3.os, hg2.os, hal.os, hg1.os, hW.os], by rw [hg3.tape, hg2.tape, hal.tape, hg1.tape, hW.tape], by rw [hg3.output, hg2.output, hal.output, hg1.output, hW.output], by omega, fun b hb _ => hbW b hb⟩ (Tur.setCell W3 (p := ⟨r, 1, none⟩) (by simp [rft]) _) (Fre.refl _ _)
  · intro b hb
    rcases rft_iff.1 hb with rfl | hb
    · exact .inl (by simp [rft])
    · exact .inr (by have := hn3 b hb; omega)
set_option maxHeartbeats 8000000 in
set_option maxRecDepth 100000 in
theorem put_any {r : Nat} {w : World} {S : Ds} {v : Value} {ra : Int} (h : RIn r w S v ra) (hg : Good S) (x : Pf) (hl : S.fs.length ≤ 100000) :
    Calls Try.prog 63 #[.pointer (some ⟨r, 0, none⟩), .agg (rcA x)] w fun e w' => e = .returned (.tuple #[]) ∧ ∃ v', Hid (RIn r w' { S with fs := insP x S.fs } v' ra) ∧ Hid (Tur (rft r v) w w') ∧ Hid (Fre (rft r v) (rft r v') w) := by
  obtain ⟨A, c, rfl, hnc, hcm, hz, hA, hrow⟩ := h.row
  have HR := Lib.hid hrow
  have H := Lib.hid h
  have HG := Lib.hid hg.rise
  have HNB := Lib.hid (Has.new w 81 (rcA x))
  have hb0 : Below w.heap.size w (w.alloc (.cells (rcA x) 81)) := (Below.refl _ _).alloc (Nat.le_refl _) _
  have HB0 := Lib.hid hb0
  have t0 := (h.top.below hb0 h.top.lt).cell 1
  clear h hrow hg hb0
  obtain ⟨n, hn⟩ : ∃ n, S.fs.length = n := ⟨_, rfl⟩
  have HL := Lib.hid hn
  have HZ := Lib.hid hz
  have HAA := Lib.hid hA
  rw [hn] at t0 hl hnc
  clear hz hA hn hcm
  have hrlt := H.out.top.lt
  unfold rcA at t0 ⊢
  go_enter Try.func63, Try.ntmps63
  go_wp2_with fail
  go_loopw [4] (fun i wr => ∃ k : Nat, k ≤ n ∧ i = .int .i64 k ∧ Hid (∀ y ∈ S.fs.drop k, bytesBefore x.nm y.nm = true) ∧ Hid (Below w.heap.size w wr) ∧ Hid (Has wr w.heap.size 81 (rcA x))) (fun i _ => (intOf i).toNat)
  case atStart => exact ⟨n, by omega, by first | rfl | (rw [← HL.out]), (by show ∀ y ∈ S.fs.drop n, bytesBefore x.nm y.nm = true; rw [List.drop_eq_nil_of_le (by rw [HL.out]; exact Nat.le_refl _)]; intro y hy; cases hy), HB0, HNB⟩
  case round =>
    obtain ⟨k, hk, rfl, HD, HB, HX⟩ := hrel
    have HRI : Hid (RIn r wr S (.slice A S.fs.length c) ra) := H.out.keep fun b hb => HB.out.block b (H.out.lt b hb)
    have t1 := HRI.out.top.cell 1
    have b0 : wr.cell? ⟨w.heap.size, 0, none⟩ = some (.string (tx x.nm)) := HX.out.cell 0
    rw [HL.out] at t1
    have b1 : wr.cell? ⟨w.heap.size, 1, none⟩ = some (.string (bs (x.l.take x.k))) := HX.out.cell 1
    have b2 : wr.cell? ⟨w.heap.size, 2, none⟩ = some (.string (bs (x.l.drop x.k))) := HX.out.cell 2
    by_cases hpos : 0 < k
    · obtain ⟨j, rfl⟩ : ∃ j, k = j + 1 := ⟨k - 1, by omega⟩
      have hkl : j < S.fs.length := by rw [HL.out]; omega
      obtain ⟨g, hgA, c0, _⟩ := HR.out (j) _ (List.getElem?_eq_getElem hkl)
      have hgA2 : A = some ⟨g, 0, none⟩ := hgA
      subst hgA2
      clear hgA
      have c0' : wr.cell? ⟨g, (j) * 3, none⟩ = some (.string (tx S.fs[j].nm)) := (HB.out.cell (World.block_lt_of_cell? w _ c0)).trans c0
      have i1 : (j : Int) < (n : Int) := by omega
      have i0 : (0 : Int) < (j : Int) + 1 := by omega
      have hwj : IntKind.i64.wrap (j : Int) = (j : Int) := by rw [IntKind.wrap_i64]; omega
      have i00 : decide ((0 : Int) < (j : Int) + 1) = true := by simp
      have HKL := Lib.hid hkl
      clear c0
      have hS0 : wr.drew.cell? ⟨r, 1, none⟩ = some (.slice (some ⟨g, 0, none⟩) n c) ∧ wr.drew.cell? ⟨g, (j) * 3, none⟩ = some (.string (tx S.fs[j].nm)) ∧ wr.drew.cell? ⟨w.heap.size, 0, none⟩ = some (.string (tx x.nm)) := ⟨t1, c0', b0⟩
      have hcase : (bytesBefore x.nm S.fs[j].nm = true ∧ Op.bytesLess (tx S.fs[j].nm).toList (tx x.nm).toList = false ∧ ((tx S.fs[j].nm).toList == (tx x.nm).toList) = false) ∨ (bytesBefore x.nm S.fs[j].nm = false ∧ Op.bytesLess (tx S.fs[j].nm).toList (tx x.nm).toList = true) ∨ (bytesBefore x.nm S.fs[j].nm = false ∧ Op.bytesLess (tx S.fs[j].nm).toList (tx x.nm).toList = false ∧ ((tx S.fs[j].nm).toList == (tx x.nm).toList) = true) := by
        rw [tx_list, tx_list, less_before]
        by_cases e : S.fs[j].nm = x.nm
        · rw [e]; exact .inr (.inr ⟨WideAt.bytes_irrefl _, WideAt.bytes_irrefl _, by simp⟩)
        · have e2 : (S.fs[j].nm == x.nm) = false := by simpa using e
          cases h1 : bytesBefore x.nm S.fs[j].nm with
          | true =>
            refine .inl ⟨rfl, ?_, e2⟩
            cases h2 : bytesBefore S.fs[j].nm x.nm with
            | false => rfl
            | true => have h3 := bytes_trans _ _ _ h1 h2; rw [WideAt.bytes_irrefl] at h3; cases h3
          | false =>
            rcases WideAt.bytes_total _ _ e with h2 | h2
            · exact .inr (.inl ⟨rfl, h2⟩)
            · rw [h1] at h2; cases h2
      have HY := Lib.hid (rfl : S.fs[j].nm = S.fs[j].nm)
      obtain ⟨sy, hy⟩ : ∃ sy, tx S.fs[j].nm = sy := ⟨_, rfl⟩
      obtain ⟨sx, hxx⟩ : ∃ sx, tx x.nm = sx := ⟨_, rfl⟩
      rw [hy, hxx] at hS0 hcase
      have Hy := Lib.hid hy
      have Hxx := Lib.hid hxx
      clear hy hxx HY c0' b0
      rcases hcase with ⟨hq, hq2, hq3⟩ | ⟨hq, hq2⟩ | ⟨hq, hq2, hq3⟩
      · have HQ := Lib.hid hq
        clear hq
        have HD2 : Hid (∀ y ∈ S.fs.drop j, bytesBefore x.nm y.nm = true) := by
          intro y hy
          rw [List.drop_eq_getElem_cons hkl] at hy
          rcases List.mem_cons.1 hy with rfl | hy
          · exact HQ.out
          · exact HD.out y hy
        go_wp2_with fail
        refine wp_region_held_drew (S := (fun X => X.cell? ⟨r, 1, none⟩ = some (.slice (some ⟨g, 0, none⟩) n c) ∧ X.cell? ⟨g, j * 3, none⟩ = some (.string sy) ∧ X.cell? ⟨w.heap.size, 0, none⟩ = some (.string sx))) (by kernel_rfl) hS0 (fun _ => ?_)
        (refine wpAnyH_take (i := 0) (v := ?_) rfl (by kernel_rfl) (by kernel_rfl) (by kernel_rfl) (fun _ _ _ h => h) (Or.inl ⟨by rfl, ?_⟩) (by assumption) ?_; rotate_left; (intro w hSw; (try dsimp only at hSw); obtain ⟨s1, s2, s3⟩ := hSw; go_simp; try with_reducible rfl); ((try simp only [List.getElem_toArray]); (try simp only [List.getElem_cons_succ]); (try simp only [List.getElem_cons_zero]); (try simp only [Act.put]); (try simp only [List.setIfInBounds_toArray]); (try simp only [List.set_cons_succ]); (try simp only [List.set_cons_zero])))
        (refine wpAnyH_take (i := 1) (v := ?_) rfl (by kernel_rfl) (by kernel_rfl) (by kernel_rfl) (fun _ _ _ h => h) (Or.inl ⟨by rfl, ?_⟩) (by assumption) ?_; rotate_left; (intro w hSw; (try dsimp only at hSw); obtain ⟨s1, s2, s3⟩ := hSw; go_simp; try with_reducible rfl); ((try simp only [List.getElem_toArray]); (try simp only [List.getElem_cons_succ]); (try simp only [List.getElem_cons_zero]); (try simp only [Act.put]); (try simp only [List.setIfInBounds_toArray]); (try simp only [List.set_cons_succ]); (try simp only [List.set_cons_zero])))
        (refine wpAnyH_take (i := 2) (v := ?_) rfl (by kernel_rfl) (by kernel_rfl) (by kernel_rfl) (fun _ _ _ h => h) (Or.inl ⟨by rfl, ?_⟩) (by assumption) ?_; rotate_left; (intro w hSw; (try dsimp only at hSw); obtain ⟨s1, s2, s3⟩ := hSw; go_simp; try with_reducible rfl); ((try simp only [List.getElem_toArray]); (try simp only [List.getElem_cons_succ]); (try simp only [List.getElem_cons_zero]); (try simp only [Act.put]); (try simp only [List.setIfInBounds_toArray]); (try simp only [List.set_cons_succ]); (try simp only [List.set_cons_zero])))
        (refine wpAnyH_take (i := 3) (v := ?_) rfl (by kernel_rfl) (by kernel_rfl) (by kernel_rfl) (fun _ _ _ h => h) (Or.inl ⟨by rfl, ?_⟩) (by assumption) ?_; rotate_left; (intro w hSw; (try dsimp only at hSw); obtain ⟨s1, s2, s3⟩ := hSw; go_simp; try with_reducible rfl); ((try simp only [List.getElem_toArray]); (try simp only [List.getElem_cons_succ]); (try simp only [List.getElem_cons_zero]); (try simp only [Act.put]); (try simp only [List.setIfInBounds_toArray]); (try simp only [List.set_cons_succ]); (try simp only [List.set_cons_zero])))
        (refine wpAnyH_take (i := 4) (v := ?_) rfl (by kernel_rfl) (by kernel_rfl) (by kernel_rfl) (fun _ _ _ h => h) (Or.inl ⟨by rfl, ?_⟩) (by assumption) ?_; rotate_left; (intro w hSw; (try dsimp only at hSw); obtain ⟨s1, s2, s3⟩ := hSw; go_simp; try with_reducible rfl); ((try simp only [List.getElem_toArray]); (try simp only [List.getElem_cons_succ]); (try simp only [List.getElem_cons_zero]); (try simp only [Act.put]); (try simp only [List.setIfInBounds_toArray]); (try simp only [List.set_cons_succ]); (try simp only [List.set_cons_zero])))
        (refine wpAnyH_take (i := 5) (v := ?_) rfl (by kernel_rfl) (by kernel_rfl) (by kernel_rfl) (fun _ _ _ h => h) (Or.inl ⟨by rfl, ?_⟩) (by assumption) ?_; rotate_left; (intro w hSw; (try dsimp only at hSw); obtain ⟨s1, s2, s3⟩ := hSw; go_simp; try with_reducible rfl); ((try simp only [List.getElem_toArray]); (try simp only [List.getElem_cons_succ]); (try simp only [List.getElem_cons_zero]); (try simp only [Act.put]); (try simp only [List.setIfInBounds_toArray]); (try simp only [List.set_cons_succ]); (try simp only [List.set_cons_zero])))
        (refine wpAnyH_take (i := 6) (v := ?_) rfl (by kernel_rfl) (by kernel_rfl) (by kernel_rfl) (fun _ _ _ h => h) (Or.inl ⟨by rfl, ?_⟩) (by assumption) ?_; rotate_left; (intro w hSw; (try dsimp only at hSw); obtain ⟨s1, s2, s3⟩ := hSw; go_simp; try with_reducible rfl); ((try simp only [List.getElem_toArray]); (try simp only [List.getElem_cons_succ]); (try simp only [List.getElem_cons_zero]); (try simp only [Act.put]); (try simp only [List.setIfInBounds_toArray]); (try simp only [List.set_cons_succ]); (try simp only [List.set_cons_zero])))
        (refine wpAnyH_take (i := 7) (v := ?_) rfl (by kernel_rfl) (by kernel_rfl) (by kernel_rfl) (fun _ _ _ h => h) (Or.inl ⟨by rfl, ?_⟩) (by assumption) ?_; rotate_left; (intro w hSw; (try dsimp only at hSw); obtain ⟨s1, s2, s3⟩ := hSw; go_simp; try with_reducible rfl); ((try simp only [List.getElem_toArray]); (try simp only [List.getElem_cons_succ]); (try simp only [List.getElem_cons_zero]); (try simp only [Act.put]); (try simp only [List.setIfInBounds_toArray]); (try simp only [List.set_cons_succ]); (try simp only [List.set_cons_zero])))
        (refine wpAnyH_take (i := 8) (v := ?_) rfl (by kernel_rfl) (by kernel_rfl) (by kernel_rfl) (fun _ _ _ h => h) (Or.inl ⟨by rfl, ?_⟩) (by assumption) ?_; rotate_left; (intro w hSw; (try dsimp only at hSw); obtain ⟨s1, s2, s3⟩ := hSw; go_simp; try with_reducible rfl); ((try simp only [List.getElem_toArray]); (try simp only [List.getElem_cons_succ]); (try simp only [List.getElem_cons_zero]); (try simp only [Act.put]); (try simp only [List.setIfInBounds_toArray]); (try simp only [List.set_cons_succ]); (try simp only [List.set_cons_zero])))
        (refine wpAnyH_take (i := 9) (v := ?_) rfl (by kernel_rfl) (by kernel_rfl) (by kernel_rfl) (fun _ _ _ h => h) (Or.inl ⟨by rfl, ?_⟩) (by assumption) ?_; rotate_left; (intro w hSw; (try dsimp only at hSw); obtain ⟨s1, s2, s3⟩ := hSw; go_simp; try with_reducible rfl); ((try simp only [List.getElem_toArray]); (try simp only [List.getElem_cons_succ]); (try simp only [List.getElem_cons_zero]); (try simp only [Act.put]); (try simp only [List.setIfInBounds_toArray]); (try simp only [List.set_cons_succ]); (try simp only [List.set_cons_zero])))
        (refine wpAnyH_take (i := 10) (v := ?_) rfl (by kernel_rfl) (by kernel_rfl) (by kernel_rfl) (fun _ _ _ h => h) (Or.inl ⟨by rfl, ?_⟩) (by assumption) ?_; rotate_left; (intro w hSw; (try dsimp only at hSw); obtain ⟨s1, s2, s3⟩ := hSw; go_simp; try with_reducible rfl); ((try simp only [List.getElem_toArray]); (try simp only [List.getElem_cons_succ]); (try simp only [List.getElem_cons_zero]); (try simp only [Act.put]); (try simp only [List.setIfInBounds_toArray]); (try simp only [List.set_cons_succ]); (try simp only [List.set_cons_zero])))
        (refine wpAnyH_take (i := 11) (v := ?_) rfl (by kernel_rfl) (by kernel_rfl) (by kernel_rfl) (fun _ _ _ h => h) (Or.inl ⟨by rfl, ?_⟩) (by assumption) ?_; rotate_left; (intro w hSw; (try dsimp only at hSw); obtain ⟨s1, s2, s3⟩ := hSw; go_simp; try with_reducible rfl); ((try simp only [List.getElem_toArray]); (try simp only [List.getElem_cons_succ]); (try simp only [List.getElem_cons_zero]); (try simp only [Act.put]); (try simp only [List.setIfInBounds_toArray]); (try simp only [List.set_cons_succ]); (try simp only [List.set_cons_zero])))
        (refine wpAnyH_take (i := 12) (v := ?_) rfl (by kernel_rfl) (by kernel_rfl) (by kernel_rfl) (fun _ _ _ h => h) (Or.inl ⟨by rfl, ?_⟩) (by assumption) ?_; rotate_left; (intro w hSw; (try dsimp only at hSw); obtain ⟨s1, s2, s3⟩ := hSw; go_simp; try with_reducible rfl); ((try simp only [List.getElem_toArray]); (try simp only [List.getElem_cons_succ]); (try simp only [List.getElem_cons_zero]); (try simp only [Act.put]); (try simp only [List.setIfInBounds_toArray]); (try simp only [List.set_cons_succ]); (try simp only [List.set_cons_zero])))
        (refine wpAnyH_take (i := 13) (v := ?_) rfl (by kernel_rfl) (by kernel_rfl) (by kernel_rfl) (fun _ _ _ h => h) (Or.inl ⟨by rfl, ?_⟩) (by assumption) ?_; rotate_left; (intro w hSw; (try dsimp only at hSw); obtain ⟨s1, s2, s3⟩ := hSw; go_simp; try with_reducible rfl); ((try simp only [List.getElem_toArray]); (try simp only [List.getElem_cons_succ]); (try simp only [List.getElem_cons_zero]); (try simp only [Act.put]); (try simp only [List.setIfInBounds_toArray]); (try simp only [List.set_cons_succ]); (try simp only [List.set_cons_zero])))
        (refine wpAnyH_take (i := 14) (v := ?_) rfl (by kernel_rfl) (by kernel_rfl) (by kernel_rfl) (fun _ _ _ h => h) (Or.inl ⟨by rfl, ?_⟩) (by assumption) ?_; rotate_left; (intro w hSw; (try dsimp only at hSw); obtain ⟨s1, s2, s3⟩ := hSw; go_simp; try with_reducible rfl); ((try simp only [List.getElem_toArray]); (try simp only [List.getElem_cons_succ]); (try simp only [List.getElem_cons_zero]); (try simp only [Act.put]); (try simp only [List.setIfInBounds_toArray]); (try simp only [List.set_cons_succ]); (try simp only [List.set_cons_zero])))
        (refine wpAnyH_take (i := 15) (v := ?_) rfl (by kernel_rfl) (by kernel_rfl) (by kernel_rfl) (fun _ _ _ h => h) (Or.inl ⟨by rfl, ?_⟩) (by assumption) ?_; rotate_left; (intro w hSw; (try dsimp only at hSw); obtain ⟨s1, s2, s3⟩ := hSw; go_simp; try with_reducible rfl); ((try simp only [List.getElem_toArray]); (try simp only [List.getElem_cons_succ]); (try simp only [List.getElem_cons_zero]); (try simp only [Act.put]); (try simp only [List.setIfInBounds_toArray]); (try simp only [List.set_cons_succ]); (try simp only [List.set_cons_zero])))
        refine wpAnyH_done (by kernel_rfl) ?_ _
        have HBD := Lib.hid HB.out.drew
        have HXD : Hid (Has wr.drew w.heap.size 81 (rcA x)) := HX.out
        go_wp2_with fail
        go_roundw
        case rel => exact ⟨j, by omega, by go_num, HD2, HBD, HXD⟩
        case measure => simp [intOf]
      · have HQ := Lib.hid hq
        clear hq
        have hins : insP x S.fs = S.fs.take (j + 1) ++ x :: S.fs.drop (j + 1) := by
          conv => lhs; rw [← List.take_append_drop (j + 1) S.fs]
          refine insP_split x _ _ (fun y hy => ?_) HD.out
          obtain ⟨i, hi, rfl⟩ := List.getElem_of_mem hy
          rw [List.length_take] at hi
          rw [List.getElem_take]
          have hil : i < S.fs.length := by omega
          cases hb : bytesBefore x.nm S.fs[i].nm with
          | false => rfl
          | true =>
            have h1 := HQ.out
            rcases Nat.lt_or_ge i j with h2 | h2
            · have h3 := List.pairwise_iff_getElem.1 HG.out i j hil hkl h2
              have h5 : true = false := (bytes_trans _ _ _ hb h3).symm.trans h1
              cases h5
            · obtain rfl : i = j := by omega
              have h5 : true = false := hb.symm.trans h1
              cases h5
        go_wp2_with fail
        refine wp_region_held_drew (S := (fun X => X.cell? ⟨r, 1, none⟩ = some (.slice (some ⟨g, 0, none⟩) n c) ∧ X.cell? ⟨g, j * 3, none⟩ = some (.string sy) ∧ X.cell? ⟨w.heap.size, 0, none⟩ = some (.string sx))) (by kernel_rfl) hS0 (fun _ => ?_)
        (refine wpAnyH_take (i := 0) (v := ?_) rfl (by kernel_rfl) (by kernel_rfl) (by kernel_rfl) (fun _ _ _ h => h) (Or.inl ⟨by rfl, ?_⟩) (by assumption) ?_; rotate_left; (intro w hSw; (try dsimp only at hSw); obtain ⟨s1, s2, s3⟩ := hSw; go_simp; try with_reducible rfl); ((try simp only [List.getElem_toArray]); (try simp only [List.getElem_cons_succ]); (try simp only [List.getElem_cons_zero]); (try simp only [Act.put]); (try simp only [List.setIfInBounds_toArray]); (try simp only [List.set_cons_succ]); (try simp only [List.set_cons_zero])))
        (refine wpAnyH_take (i := 1) (v := ?_) rfl (by kernel_rfl) (by kernel_rfl) (by kernel_rfl) (fun _ _ _ h => h) (Or.inl ⟨by rfl, ?_⟩) (by assumption) ?_; rotate_left; (intro w hSw; (try dsimp only at hSw); obtain ⟨s1, s2, s3⟩ := hSw; go_simp; try with_reducible rfl); ((try simp only [List.getElem_toArray]); (try simp only [List.getElem_cons_succ]); (try simp only [List.getElem_cons_zero]); (try simp only [Act.put]); (try simp only [List.setIfInBounds_toArray]); (try simp only [List.set_cons_succ]); (try simp only [List.set_cons_zero])))
        (refine wpAnyH_take (i := 2) (v := ?_) rfl (by kernel_rfl) (by kernel_rfl) (by kernel_rfl) (fun _ _ _ h => h) (Or.inl ⟨by rfl, ?_⟩) (by assumption) ?_; rotate_left; (intro w hSw; (try dsimp only at hSw); obtain ⟨s1, s2, s3⟩ := hSw; go_simp; try with_reducible rfl); ((try simp only [List.getElem_toArray]); (try simp only [List.getElem_cons_succ]); (try simp only [List.getElem_cons_zero]); (try simp only [Act.put]); (try simp only [List.setIfInBounds_toArray]); (try simp only [List.set_cons_succ]); (try simp only [List.set_cons_zero])))
        (refine wpAnyH_take (i := 3) (v := ?_) rfl (by kernel_rfl) (by kernel_rfl) (by kernel_rfl) (fun _ _ _ h => h) (Or.inl ⟨by rfl, ?_⟩) (by assumption) ?_; rotate_left; (intro w hSw; (try dsimp only at hSw); obtain ⟨s1, s2, s3⟩ := hSw; go_simp; try with_reducible rfl); ((try simp only [List.getElem_toArray]); (try simp only [List.getElem_cons_succ]); (try simp only [List.getElem_cons_zero]); (try simp only [Act.put]); (try simp only [List.setIfInBounds_toArray]); (try simp only [List.set_cons_succ]); (try simp only [List.set_cons_zero])))
        (refine wpAnyH_take (i := 4) (v := ?_) rfl (by kernel_rfl) (by kernel_rfl) (by kernel_rfl) (fun _ _ _ h => h) (Or.inl ⟨by rfl, ?_⟩) (by assumption) ?_; rotate_left; (intro w hSw; (try dsimp only at hSw); obtain ⟨s1, s2, s3⟩ := hSw; go_simp; try with_reducible rfl); ((try simp only [List.getElem_toArray]); (try simp only [List.getElem_cons_succ]); (try simp only [List.getElem_cons_zero]); (try simp only [Act.put]); (try simp only [List.setIfInBounds_toArray]); (try simp only [List.set_cons_succ]); (try simp only [List.set_cons_zero])))
        (refine wpAnyH_take (i := 5) (v := ?_) rfl (by kernel_rfl) (by kernel_rfl) (by kernel_rfl) (fun _ _ _ h => h) (Or.inl ⟨by rfl, ?_⟩) (by assumption) ?_; rotate_left; (intro w hSw; (try dsimp only at hSw); obtain ⟨s1, s2, s3⟩ := hSw; go_simp; try with_reducible rfl); ((try simp only [List.getElem_toArray]); (try simp only [List.getElem_cons_succ]); (try simp only [List.getElem_cons_zero]); (try simp only [Act.put]); (try simp only [List.setIfInBounds_toArray]); (try simp only [List.set_cons_succ]); (try simp only [List.set_cons_zero])))
        (refine wpAnyH_take (i := 6) (v := ?_) rfl (by kernel_rfl) (by kernel_rfl) (by kernel_rfl) (fun _ _ _ h => h) (Or.inl ⟨by rfl, ?_⟩) (by assumption) ?_; rotate_left; (intro w hSw; (try dsimp only at hSw); obtain ⟨s1, s2, s3⟩ := hSw; go_simp; try with_reducible rfl); ((try simp only [List.getElem_toArray]); (try simp only [List.getElem_cons_succ]); (try simp only [List.getElem_cons_zero]); (try simp only [Act.put]); (try simp only [List.setIfInBounds_toArray]); (try simp only [List.set_cons_succ]); (try simp only [List.set_cons_zero])))
        (refine wpAnyH_take (i := 7) (v := ?_) rfl (by kernel_rfl) (by kernel_rfl) (by kernel_rfl) (fun _ _ _ h => h) (Or.inl ⟨by rfl, ?_⟩) (by assumption) ?_; rotate_left; (intro w hSw; (try dsimp only at hSw); obtain ⟨s1, s2, s3⟩ := hSw; go_simp; try with_reducible rfl); ((try simp only [List.getElem_toArray]); (try simp only [List.getElem_cons_succ]); (try simp only [List.getElem_cons_zero]); (try simp only [Act.put]); (try simp only [List.setIfInBounds_toArray]); (try simp only [List.set_cons_succ]); (try simp only [List.set_cons_zero])))
        (refine wpAnyH_take (i := 8) (v := ?_) rfl (by kernel_rfl) (by kernel_rfl) (by kernel_rfl) (fun _ _ _ h => h) (Or.inl ⟨by rfl, ?_⟩) (by assumption) ?_; rotate_left; (intro w hSw; (try dsimp only at hSw); obtain ⟨s1, s2, s3⟩ := hSw; go_simp; try with_reducible rfl); ((try simp only [List.getElem_toArray]); (try simp only [List.getElem_cons_succ]); (try simp only [List.getElem_cons_zero]); (try simp only [Act.put]); (try simp only [List.setIfInBounds_toArray]); (try simp only [List.set_cons_succ]); (try simp only [List.set_cons_zero])))
        (refine wpAnyH_take (i := 9) (v := ?_) rfl (by kernel_rfl) (by kernel_rfl) (by kernel_rfl) (fun _ _ _ h => h) (Or.inl ⟨by rfl, ?_⟩) (by assumption) ?_; rotate_left; (intro w hSw; (try dsimp only at hSw); obtain ⟨s1, s2, s3⟩ := hSw; go_simp; try with_reducible rfl); ((try simp only [List.getElem_toArray]); (try simp only [List.getElem_cons_succ]); (try simp only [List.getElem_cons_zero]); (try simp only [Act.put]); (try simp only [List.setIfInBounds_toArray]); (try simp only [List.set_cons_succ]); (try simp only [List.set_cons_zero])))
        (refine wpAnyH_take (i := 10) (v := ?_) rfl (by kernel_rfl) (by kernel_rfl) (by kernel_rfl) (fun _ _ _ h => h) (Or.inl ⟨by rfl, ?_⟩) (by assumption) ?_; rotate_left; (intro w hSw; (try dsimp only at hSw); obtain ⟨s1, s2, s3⟩ := hSw; go_simp; try with_reducible rfl); ((try simp only [List.getElem_toArray]); (try simp only [List.getElem_cons_succ]); (try simp only [List.getElem_cons_zero]); (try simp only [Act.put]); (try simp only [List.setIfInBounds_toArray]); (try simp only [List.set_cons_succ]); (try simp only [List.set_cons_zero])))
        (refine wpAnyH_take (i := 11) (v := ?_) rfl (by kernel_rfl) (by kernel_rfl) (by kernel_rfl) (fun _ _ _ h => h) (Or.inl ⟨by rfl, ?_⟩) (by assumption) ?_; rotate_left; (intro w hSw; (try dsimp only at hSw); obtain ⟨s1, s2, s3⟩ := hSw; go_simp; try with_reducible rfl); ((try simp only [List.getElem_toArray]); (try simp only [List.getElem_cons_succ]); (try simp only [List.getElem_cons_zero]); (try simp only [Act.put]); (try simp only [List.setIfInBounds_toArray]); (try simp only [List.set_cons_succ]); (try simp only [List.set_cons_zero])))
        (refine wpAnyH_take (i := 12) (v := ?_) rfl (by kernel_rfl) (by kernel_rfl) (by kernel_rfl) (fun _ _ _ h => h) (Or.inl ⟨by rfl, ?_⟩) (by assumption) ?_; rotate_left; (intro w hSw; (try dsimp only at hSw); obtain ⟨s1, s2, s3⟩ := hSw; go_simp; try with_reducible rfl); ((try simp only [List.getElem_toArray]); (try simp only [List.getElem_cons_succ]); (try simp only [List.getElem_cons_zero]); (try simp only [Act.put]); (try simp only [List.setIfInBounds_toArray]); (try simp only [List.set_cons_succ]); (try simp only [List.set_cons_zero])))
        (refine wpAnyH_take (i := 13) (v := ?_) rfl (by kernel_rfl) (by kernel_rfl) (by kernel_rfl) (fun _ _ _ h => h) (Or.inl ⟨by rfl, ?_⟩) (by assumption) ?_; rotate_left; (intro w hSw; (try dsimp only at hSw); obtain ⟨s1, s2, s3⟩ := hSw; go_simp; try with_reducible rfl); ((try simp only [List.getElem_toArray]); (try simp only [List.getElem_cons_succ]); (try simp only [List.getElem_cons_zero]); (try simp only [Act.put]); (try simp only [List.setIfInBounds_toArray]); (try simp only [List.set_cons_succ]); (try simp only [List.set_cons_zero])))
        (refine wpAnyH_take (i := 14) (v := ?_) rfl (by kernel_rfl) (by kernel_rfl) (by kernel_rfl) (fun _ _ _ h => h) (Or.inl ⟨by rfl, ?_⟩) (by assumption) ?_; rotate_left; (intro w hSw; (try dsimp only at hSw); obtain ⟨s1, s2, s3⟩ := hSw; go_simp; try with_reducible rfl); ((try simp only [List.getElem_toArray]); (try simp only [List.getElem_cons_succ]); (try simp only [List.getElem_cons_zero]); (try simp only [Act.put]); (try simp only [List.setIfInBounds_toArray]); (try simp only [List.set_cons_succ]); (try simp only [List.set_cons_zero])))
        (refine wpAnyH_take (i := 15) (v := ?_) rfl (by kernel_rfl) (by kernel_rfl) (by kernel_rfl) (fun _ _ _ h => h) (Or.inl ⟨by rfl, ?_⟩) (by assumption) ?_; rotate_left; (intro w hSw; (try dsimp only at hSw); obtain ⟨s1, s2, s3⟩ := hSw; go_simp; try with_reducible rfl); ((try simp only [List.getElem_toArray]); (try simp only [List.getElem_cons_succ]); (try simp only [List.getElem_cons_zero]); (try simp only [Act.put]); (try simp only [List.setIfInBounds_toArray]); (try simp only [List.set_cons_succ]); (try simp only [List.set_cons_zero])))
        refine wpAnyH_done (by kernel_rfl) ?_ _
        have HBD := Lib.hid HB.out.drew
        have HXD : Hid (Has wr.drew w.heap.size 81 (rcA x)) := HX.out
        have t1d : wr.drew.cell? ⟨r, 1, none⟩ = some (.slice (some ⟨g, 0, none⟩) n c) := t1
        by_cases hcj : c = j + 1
        · have hnj : n = j + 1 := by omega
          subst hcj
          subst hnj
          have HP := puts H.out HBD.out x w.heap.size HXD.out (j + 1) (by rw [HL.out]; omega) (by rw [HL.out]; exact hl) (some ⟨g, 0, none⟩) (j + 1) (fun a e => by cases e; exact cells_stay (w := w) (take_cells H.out (g := g) rfl (j + 1)) rfl ((HBD.out.block g (H.out.lt g (rft_iff.2 (.inr rfl)))))) (fun e => by cases e) (some ⟨g, 0, none⟩) (0) (0) (by rw [List.length_drop, HL.out]; omega) (fun a e => by cases e; exact ⟨fun j' u hj => by rw [List.drop_eq_nil_of_le (by rw [HL.out]; exact Nat.le_refl _)] at hj; simp [rcs] at hj, rfl, by have := H.out.lt g (rft_iff.2 (.inr rfl)); have := HBD.out.size; show g < _; omega⟩) (fun e => by cases e)
          obtain ⟨A1, n1, c1, W1, A2, n2, c2, W2, A3, n3, c3, W3, HP⟩ := HP
          have r1 := Lib.hid HP.run1
          have r2 := HP.run2
          unfold rcA at r2
          have r2 := Lib.hid r2
          have r3 := Lib.hid HP.run3
          have x1 := HP.top1.cell 1
          have x2 := HP.top2.cell 1
          have x3 := HP.top3.cell 1
          have z3 := HP.top3.free 1
          have y0 : W1.cell? ⟨w.heap.size, 0, none⟩ = some (.string (tx x.nm)) := HP.box1.cell 0
          have y1 : W1.cell? ⟨w.heap.size, 1, none⟩ = some (.string (bs (x.l.take x.k))) := HP.box1.cell 1
          have y2 : W1.cell? ⟨w.heap.size, 2, none⟩ = some (.string (bs (x.l.drop x.k))) := HP.box1.cell 2
          have FIN := Lib.hid (And.intro HP.ri (And.intro HP.tur HP.fre))
          rw [← hins] at FIN
          clear hins
          rw [HL.out] at x1 x2 x3
          clear HP
          go_wp2_with (first
            | (at_builtin; refine wpList_app rfl _ _ 65 65 rfl (.slice none 0 0) (.slice (some ⟨g, 0, none⟩) (j + 1) (j + 1)) rfl rfl ?_; refine ⟨.slice A1 n1 c1, W1, r1.out, ?_⟩)
            | (at_builtin; refine wpList_app rfl _ _ 65 65 rfl (.slice A1 n1 c1) (.slice (some ⟨W1.heap.size, 0, none⟩) 1 1) rfl rfl ?_; refine ⟨.slice A2 n2 c2, W2, r2.out, ?_⟩)
            | (at_builtin; refine wpList_app rfl _ _ 65 65 rfl (.slice A2 n2 c2) (.slice (some ⟨g, 0, none⟩) (0) (0)) rfl rfl ?_; refine ⟨.slice A3 n3 c3, W3, r3.out, ?_⟩))
          go_end0
          exact ⟨rfl, _, FIN.out.1, FIN.out.2.1, FIN.out.2.2⟩
        · have HP := puts H.out HBD.out x w.heap.size HXD.out (j + 1) (by rw [HL.out]; omega) (by rw [HL.out]; exact hl) (some ⟨g, 0, none⟩) (c) (fun a e => by cases e; exact cells_stay (w := w) (take_cells H.out (g := g) rfl (j + 1)) rfl ((HBD.out.block g (H.out.lt g (rft_iff.2 (.inr rfl)))))) (fun e => by cases e) (some ⟨g, (j + 1) * 3, none⟩) (n - (j + 1)) (c - (j + 1)) (by rw [List.length_drop, HL.out]) (fun a e => by cases e; exact ⟨cells_stay (w := w) (by have := drop_cells H.out (g := g) rfl (j + 1) (by rw [HL.out]; omega); rw [Nat.zero_add] at this; exact this) rfl ((HBD.out.block g (H.out.lt g (rft_iff.2 (.inr rfl))))), rfl, by have := H.out.lt g (rft_iff.2 (.inr rfl)); have := HBD.out.size; show g < _; omega⟩) (fun e => by cases e)
          obtain ⟨A1, n1, c1, W1, A2, n2, c2, W2, A3, n3, c3, W3, HP⟩ := HP
          have r1 := Lib.hid HP.run1
          have r2 := HP.run2
          unfold rcA at r2
          have r2 := Lib.hid r2
          have r3 := Lib.hid HP.run3
          have x1 := HP.top1.cell 1
          have x2 := HP.top2.cell 1
          have x3 := HP.top3.cell 1
          have z3 := HP.top3.free 1
          have y0 : W1.cell? ⟨w.heap.size, 0, none⟩ = some (.string (tx x.nm)) := HP.box1.cell 0
          have y1 : W1.cell? ⟨w.heap.size, 1, none⟩ = some (.string (bs (x.l.take x.k))) := HP.box1.cell 1
          have y2 : W1.cell? ⟨w.heap.size, 2, none⟩ = some (.string (bs (x.l.drop x.k))) := HP.box1.cell 2
          have FIN := Lib.hid (And.intro HP.ri (And.intro HP.tur HP.fre))
          rw [← hins] at FIN
          clear hins
          rw [HL.out] at x1 x2 x3
          clear HP
          go_wp2_with (first
            | (at_builtin; refine wpList_app rfl _ _ 65 65 rfl (.slice none 0 0) (.slice (some ⟨g, 0, none⟩) (j + 1) (c)) rfl rfl ?_; refine ⟨.slice A1 n1 c1, W1, r1.out, ?_⟩)
            | (at_builtin; refine wpList_app rfl _ _ 65 65 rfl (.slice A1 n1 c1) (.slice (some ⟨W1.heap.size, 0, none⟩) 1 1) rfl rfl ?_; refine ⟨.slice A2 n2 c2, W2, r2.out, ?_⟩)
            | (at_builtin; refine wpList_app rfl _ _ 65 65 rfl (.slice A2 n2 c2) (.slice (some ⟨g, (j + 1) * 3, none⟩) (n - (j + 1)) (c - (j + 1))) rfl rfl ?_; refine ⟨.slice A3 n3 c3, W3, r3.out, ?_⟩))
          go_end0
          exact ⟨rfl, _, FIN.out.1, FIN.out.2.1, FIN.out.2.2⟩
      · have HQ := Lib.hid hq
        clear hq
        have hins : insP x S.fs = S.fs.take (j + 1) ++ x :: S.fs.drop (j + 1) := by
          conv => lhs; rw [← List.take_append_drop (j + 1) S.fs]
          refine insP_split x _ _ (fun y hy => ?_) HD.out
          obtain ⟨i, hi, rfl⟩ := List.getElem_of_mem hy
          rw [List.length_take] at hi
          rw [List.getElem_take]
          have hil : i < S.fs.length := by omega
          cases hb : bytesBefore x.nm S.fs[i].nm with
          | false => rfl
          | true =>
            have h1 := HQ.out
            rcases Nat.lt_or_ge i j with h2 | h2
            · have h3 := List.pairwise_iff_getElem.1 HG.out i j hil hkl h2
              have h5 : true = false := (bytes_trans _ _ _ hb h3).symm.trans h1
              cases h5
            · obtain rfl : i = j := by omega
              have h5 : true = false := hb.symm.trans h1
              cases h5
        go_wp2_with fail
        refine wp_region_held_drew (S := (fun X => X.cell? ⟨r, 1, none⟩ = some (.slice (some ⟨g, 0, none⟩) n c) ∧ X.cell? ⟨g, j * 3, none⟩ = some (.string sy) ∧ X.cell? ⟨w.heap.size, 0, none⟩ = some (.string sx))) (by kernel_rfl) hS0 (fun _ => ?_)
        (refine wpAnyH_take (i := 0) (v := ?_) rfl (by kernel_rfl) (by kernel_rfl) (by kernel_rfl) (fun _ _ _ h => h) (Or.inl ⟨by rfl, ?_⟩) (by assumption) ?_; rotate_left; (intro w hSw; (try dsimp only at hSw); obtain ⟨s1, s2, s3⟩ := hSw; go_simp; try with_reducible rfl); ((try simp only [List.getElem_toArray]); (try simp only [List.getElem_cons_succ]); (try simp only [List.getElem_cons_zero]); (try simp only [Act.put]); (try simp only [List.setIfInBounds_toArray]); (try simp only [List.set_cons_succ]); (try simp only [List.set_cons_zero])))
        (refine wpAnyH_take (i := 1) (v := ?_) rfl (by kernel_rfl) (by kernel_rfl) (by kernel_rfl) (fun _ _ _ h => h) (Or.inl ⟨by rfl, ?_⟩) (by assumption) ?_; rotate_left; (intro w hSw; (try dsimp only at hSw); obtain ⟨s1, s2, s3⟩ := hSw; go_simp; try with_reducible rfl); ((try simp only [List.getElem_toArray]); (try simp only [List.getElem_cons_succ]); (try simp only [List.getElem_cons_zero]); (try simp only [Act.put]); (try simp only [List.setIfInBounds_toArray]); (try simp only [List.set_cons_succ]); (try simp only [List.set_cons_zero])))
        (refine wpAnyH_take (i := 2) (v := ?_) rfl (by kernel_rfl) (by kernel_rfl) (by kernel_rfl) (fun _ _ _ h => h) (Or.inl ⟨by rfl, ?_⟩) (by assumption) ?_; rotate_left; (intro w hSw; (try dsimp only at hSw); obtain ⟨s1, s2, s3⟩ := hSw; go_simp; try with_reducible rfl); ((try simp only [List.getElem_toArray]); (try simp only [List.getElem_cons_succ]); (try simp only [List.getElem_cons_zero]); (try simp only [Act.put]); (try simp only [List.setIfInBounds_toArray]); (try simp only [List.set_cons_succ]); (try simp only [List.set_cons_zero])))
        (refine wpAnyH_take (i := 3) (v := ?_) rfl (by kernel_rfl) (by kernel_rfl) (by kernel_rfl) (fun _ _ _ h => h) (Or.inl ⟨by rfl, ?_⟩) (by assumption) ?_; rotate_left; (intro w hSw; (try dsimp only at hSw); obtain ⟨s1, s2, s3⟩ := hSw; go_simp; try with_reducible rfl); ((try simp only [List.getElem_toArray]); (try simp only [List.getElem_cons_succ]); (try simp only [List.getElem_cons_zero]); (try simp only [Act.put]); (try simp only [List.setIfInBounds_toArray]); (try simp only [List.set_cons_succ]); (try simp only [List.set_cons_zero])))
        (refine wpAnyH_take (i := 4) (v := ?_) rfl (by kernel_rfl) (by kernel_rfl) (by kernel_rfl) (fun _ _ _ h => h) (Or.inl ⟨by rfl, ?_⟩) (by assumption) ?_; rotate_left; (intro w hSw; (try dsimp only at hSw); obtain ⟨s1, s2, s3⟩ := hSw; go_simp; try with_reducible rfl); ((try simp only [List.getElem_toArray]); (try simp only [List.getElem_cons_succ]); (try simp only [List.getElem_cons_zero]); (try simp only [Act.put]); (try simp only [List.setIfInBounds_toArray]); (try simp only [List.set_cons_succ]); (try simp only [List.set_cons_zero])))
        (refine wpAnyH_take (i := 5) (v := ?_) rfl (by kernel_rfl) (by kernel_rfl) (by kernel_rfl) (fun _ _ _ h => h) (Or.inl ⟨by rfl, ?_⟩) (by assumption) ?_; rotate_left; (intro w hSw; (try dsimp only at hSw); obtain ⟨s1, s2, s3⟩ := hSw; go_simp; try with_reducible rfl); ((try simp only [List.getElem_toArray]); (try simp only [List.getElem_cons_succ]); (try simp only [List.getElem_cons_zero]); (try simp only [Act.put]); (try simp only [List.setIfInBounds_toArray]); (try simp only [List.set_cons_succ]); (try simp only [List.set_cons_zero])))
        (refine wpAnyH_take (i := 6) (v := ?_) rfl (by kernel_rfl) (by kernel_rfl) (by kernel_rfl) (fun _ _ _ h => h) (Or.inl ⟨by rfl, ?_⟩) (by assumption) ?_; rotate_left; (intro w hSw; (try dsimp only at hSw); obtain ⟨s1, s2, s3⟩ := hSw; go_simp; try with_reducible rfl); ((try simp only [List.getElem_toArray]); (try simp only [List.getElem_cons_succ]); (try simp only [List.getElem_cons_zero]); (try simp only [Act.put]); (try simp only [List.setIfInBounds_toArray]); (try simp only [List.set_cons_succ]); (try simp only [List.set_cons_zero])))
        (refine wpAnyH_take (i := 7) (v := ?_) rfl (by kernel_rfl) (by kernel_rfl) (by kernel_rfl) (fun _ _ _ h => h) (Or.inl ⟨by rfl, ?_⟩) (by assumption) ?_; rotate_left; (intro w hSw; (try dsimp only at hSw); obtain ⟨s1, s2, s3⟩ := hSw; go_simp; try with_reducible rfl); ((try simp only [List.getElem_toArray]); (try simp only [List.getElem_cons_succ]); (try simp only [List.getElem_cons_zero]); (try simp only [Act.put]); (try simp only [List.setIfInBounds_toArray]); (try simp only [List.set_cons_succ]); (try simp only [List.set_cons_zero])))
        (refine wpAnyH_take (i := 8) (v := ?_) rfl (by kernel_rfl) (by kernel_rfl) (by kernel_rfl) (fun _ _ _ h => h) (Or.inl ⟨by rfl, ?_⟩) (by assumption) ?_; rotate_left; (intro w hSw; (try dsimp only at hSw); obtain ⟨s1, s2, s3⟩ := hSw; go_simp; try with_reducible rfl); ((try simp only [List.getElem_toArray]); (try simp only [List.getElem_cons_succ]); (try simp only [List.getElem_cons_zero]); (try simp only [Act.put]); (try simp only [List.setIfInBounds_toArray]); (try simp only [List.set_cons_succ]); (try simp only [List.set_cons_zero])))
        (refine wpAnyH_take (i := 9) (v := ?_) rfl (by kernel_rfl) (by kernel_rfl) (by kernel_rfl) (fun _ _ _ h => h) (Or.inl ⟨by rfl, ?_⟩) (by assumption) ?_; rotate_left; (intro w hSw; (try dsimp only at hSw); obtain ⟨s1, s2, s3⟩ := hSw; go_simp; try with_reducible rfl); ((try simp only [List.getElem_toArray]); (try simp only [List.getElem_cons_succ]); (try simp only [List.getElem_cons_zero]); (try simp only [Act.put]); (try simp only [List.setIfInBounds_toArray]); (try simp only [List.set_cons_succ]); (try simp only [List.set_cons_zero])))
        (refine wpAnyH_take (i := 10) (v := ?_) rfl (by kernel_rfl) (by kernel_rfl) (by kernel_rfl) (fun _ _ _ h => h) (Or.inl ⟨by rfl, ?_⟩) (by assumption) ?_; rotate_left; (intro w hSw; (try dsimp only at hSw); obtain ⟨s1, s2, s3⟩ := hSw; go_simp; try with_reducible rfl); ((try simp only [List.getElem_toArray]); (try simp only [List.getElem_cons_succ]); (try simp only [List.getElem_cons_zero]); (try simp only [Act.put]); (try simp only [List.setIfInBounds_toArray]); (try simp only [List.set_cons_succ]); (try simp only [List.set_cons_zero])))
        (refine wpAnyH_take (i := 11) (v := ?_) rfl (by kernel_rfl) (by kernel_rfl) (by kernel_rfl) (fun _ _ _ h => h) (Or.inl ⟨by rfl, ?_⟩) (by assumption) ?_; rotate_left; (intro w hSw; (try dsimp only at hSw); obtain ⟨s1, s2, s3⟩ := hSw; go_simp; try with_reducible rfl); ((try simp only [List.getElem_toArray]); (try simp only [List.getElem_cons_succ]); (try simp only [List.getElem_cons_zero]); (try simp only [Act.put]); (try simp only [List.setIfInBounds_toArray]); (try simp only [List.set_cons_succ]); (try simp only [List.set_cons_zero])))
        (refine wpAnyH_take (i := 12) (v := ?_) rfl (by kernel_rfl) (by kernel_rfl) (by kernel_rfl) (fun _ _ _ h => h) (Or.inl ⟨by rfl, ?_⟩) (by assumption) ?_; rotate_left; (intro w hSw; (try dsimp only at hSw); obtain ⟨s1, s2, s3⟩ := hSw; go_simp; try with_reducible rfl); ((try simp only [List.getElem_toArray]); (try simp only [List.getElem_cons_succ]); (try simp only [List.getElem_cons_zero]); (try simp only [Act.put]); (try simp only [List.setIfInBounds_toArray]); (try simp only [List.set_cons_succ]); (try simp only [List.set_cons_zero])))
        (refine wpAnyH_take (i := 13) (v := ?_) rfl (by kernel_rfl) (by kernel_rfl) (by kernel_rfl) (fun _ _ _ h => h) (Or.inl ⟨by rfl, ?_⟩) (by assumption) ?_; rotate_left; (intro w hSw; (try dsimp only at hSw); obtain ⟨s1, s2, s3⟩ := hSw; go_simp; try with_reducible rfl); ((try simp only [List.getElem_toArray]); (try simp only [List.getElem_cons_succ]); (try simp only [List.getElem_cons_zero]); (try simp only [Act.put]); (try simp only [List.setIfInBounds_toArray]); (try simp only [List.set_cons_succ]); (try simp only [List.set_cons_zero])))
        (refine wpAnyH_take (i := 14) (v := ?_) rfl (by kernel_rfl) (by kernel_rfl) (by kernel_rfl) (fun _ _ _ h => h) (Or.inl ⟨by rfl, ?_⟩) (by assumption) ?_; rotate_left; (intro w hSw; (try dsimp only at hSw); obtain ⟨s1, s2, s3⟩ := hSw; go_simp; try with_reducible rfl); ((try simp only [List.getElem_toArray]); (try simp only [List.getElem_cons_succ]); (try simp only [List.getElem_cons_zero]); (try simp only [Act.put]); (try simp only [List.setIfInBounds_toArray]); (try simp only [List.set_cons_succ]); (try simp only [List.set_cons_zero])))
        (refine wpAnyH_take (i := 15) (v := ?_) rfl (by kernel_rfl) (by kernel_rfl) (by kernel_rfl) (fun _ _ _ h => h) (Or.inl ⟨by rfl, ?_⟩) (by assumption) ?_; rotate_left; (intro w hSw; (try dsimp only at hSw); obtain ⟨s1, s2, s3⟩ := hSw; go_simp; try with_reducible rfl); ((try simp only [List.getElem_toArray]); (try simp only [List.getElem_cons_succ]); (try simp only [List.getElem_cons_zero]); (try simp only [Act.put]); (try simp only [List.setIfInBounds_toArray]); (try simp only [List.set_cons_succ]); (try simp only [List.set_cons_zero])))
        refine wpAnyH_done (by kernel_rfl) ?_ _
        have HBD := Lib.hid HB.out.drew
        have HXD : Hid (Has wr.drew w.heap.size 81 (rcA x)) := HX.out
        have t1d : wr.drew.cell? ⟨r, 1, none⟩ = some (.slice (some ⟨g, 0, none⟩) n c) := t1
        by_cases hcj : c = j + 1
        · have hnj : n = j + 1 := by omega
          subst hcj
          subst hnj
          have HP := puts H.out HBD.out x w.heap.size HXD.out (j + 1) (by rw [HL.out]; omega) (by rw [HL.out]; exact hl) (some ⟨g, 0, none⟩) (j + 1) (fun a e => by cases e; exact cells_stay (w := w) (take_cells H.out (g := g) rfl (j + 1)) rfl ((HBD.out.block g (H.out.lt g (rft_iff.2 (.inr rfl)))))) (fun e => by cases e) (some ⟨g, 0, none⟩) (0) (0) (by rw [List.length_drop, HL.out]; omega) (fun a e => by cases e; exact ⟨fun j' u hj => by rw [List.drop_eq_nil_of_le (by rw [HL.out]; exact Nat.le_refl _)] at hj; simp [rcs] at hj, rfl, by have := H.out.lt g (rft_iff.2 (.inr rfl)); have := HBD.out.size; show g < _; omega⟩) (fun e => by cases e)
          obtain ⟨A1, n1, c1, W1, A2, n2, c2, W2, A3, n3, c3, W3, HP⟩ := HP
          have r1 := Lib.hid HP.run1
          have r2 := HP.run2
          unfold rcA at r2
          have r2 := Lib.hid r2
          have r3 := Lib.hid HP.run3
          have x1 := HP.top1.cell 1
          have x2 := HP.top2.cell 1
          have x3 := HP.top3.cell 1
          have z3 := HP.top3.free 1
          have y0 : W1.cell? ⟨w.heap.size, 0, none⟩ = some (.string (tx x.nm)) := HP.box1.cell 0
          have y1 : W1.cell? ⟨w.heap.size, 1, none⟩ = some (.string (bs (x.l.take x.k))) := HP.box1.cell 1
          have y2 : W1.cell? ⟨w.heap.size, 2, none⟩ = some (.string (bs (x.l.drop x.k))) := HP.box1.cell 2
          have FIN := Lib.hid (And.intro HP.ri (And.intro HP.tur HP.fre))
          rw [← hins] at FIN
          clear hins
          rw [HL.out] at x1 x2 x3
          clear HP
          go_wp2_with (first
            | (at_builtin; refine wpList_app rfl _ _ 65 65 rfl (.slice none 0 0) (.slice (some ⟨g, 0, none⟩) (j + 1) (j + 1)) rfl rfl ?_; refine ⟨.slice A1 n1 c1, W1, r1.out, ?_⟩)
            | (at_builtin; refine wpList_app rfl _ _ 65 65 rfl (.slice A1 n1 c1) (.slice (some ⟨W1.heap.size, 0, none⟩) 1 1) rfl rfl ?_; refine ⟨.slice A2 n2 c2, W2, r2.out, ?_⟩)
            | (at_builtin; refine wpList_app rfl _ _ 65 65 rfl (.slice A2 n2 c2) (.slice (some ⟨g, 0, none⟩) (0) (0)) rfl rfl ?_; refine ⟨.slice A3 n3 c3, W3, r3.out, ?_⟩))
          go_end0
          exact ⟨rfl, _, FIN.out.1, FIN.out.2.1, FIN.out.2.2⟩
        · have HP := puts H.out HBD.out x w.heap.size HXD.out (j + 1) (by rw [HL.out]; omega) (by rw [HL.out]; exact hl) (some ⟨g, 0, none⟩) (c) (fun a e => by cases e; exact cells_stay (w := w) (take_cells H.out (g := g) rfl (j + 1)) rfl ((HBD.out.block g (H.out.lt g (rft_iff.2 (.inr rfl)))))) (fun e => by cases e) (some ⟨g, (j + 1) * 3, none⟩) (n - (j + 1)) (c - (j + 1)) (by rw [List.length_drop, HL.out]) (fun a e => by cases e; exact ⟨cells_stay (w := w) (by have := drop_cells H.out (g := g) rfl (j + 1) (by rw [HL.out]; omega); rw [Nat.zero_add] at this; exact this) rfl ((HBD.out.block g (H.out.lt g (rft_iff.2 (.inr rfl))))), rfl, by have := H.out.lt g (rft_iff.2 (.inr rfl)); have := HBD.out.size; show g < _; omega⟩) (fun e => by cases e)
          obtain ⟨A1, n1, c1, W1, A2, n2, c2, W2, A3, n3, c3, W3, HP⟩ := HP
          have r1 := Lib.hid HP.run1
          have r2 := HP.run2
          unfold rcA at r2
          have r2 := Lib.hid r2
          have r3 := Lib.hid HP.run3
          have x1 := HP.top1.cell 1
          have x2 := HP.top2.cell 1
          have x3 := HP.top3.cell 1
          have z3 := HP.top3.free 1
          have y0 : W1.cell? ⟨w.heap.size, 0, none⟩ = some (.string (tx x.nm)) := HP.box1.cell 0
          have y1 : W1.cell? ⟨w.heap.size, 1, none⟩ = some (.string (bs (x.l.take x.k))) := HP.box1.cell 1
          have y2 : W1.cell? ⟨w.heap.size, 2, none⟩ = some (.string (bs (x.l.drop x.k))) := HP.box1.cell 2
          have FIN := Lib.hid (And.intro HP.ri (And.intro HP.tur HP.fre))
          rw [← hins] at FIN
          clear hins
          rw [HL.out] at x1 x2 x3
          clear HP
          go_wp2_with (first
            | (at_builtin; refine wpList_app rfl _ _ 65 65 rfl (.slice none 0 0) (.slice (some ⟨g, 0, none⟩) (j + 1) (c)) rfl rfl ?_; refine ⟨.slice A1 n1 c1, W1, r1.out, ?_⟩)
            | (at_builtin; refine wpList_app rfl _ _ 65 65 rfl (.slice A1 n1 c1) (.slice (some ⟨W1.heap.size, 0, none⟩) 1 1) rfl rfl ?_; refine ⟨.slice A2 n2 c2, W2, r2.out, ?_⟩)
            | (at_builtin; refine wpList_app rfl _ _ 65 65 rfl (.slice A2 n2 c2) (.slice (some ⟨g, (j + 1) * 3, none⟩) (n - (j + 1)) (c - (j + 1))) rfl rfl ?_; refine ⟨.slice A3 n3 c3, W3, r3.out, ?_⟩))
          go_end0
          exact ⟨rfl, _, FIN.out.1, FIN.out.2.1, FIN.out.2.2⟩
    · obtain rfl : k = 0 := by omega
      have hins : insP x S.fs = S.fs.take 0 ++ x :: S.fs.drop 0 := insP_split x [] S.fs (fun y hy => by cases hy) HD.out
      have hS0 : Hid (wr.drew.heap = wr.heap) := rfl
      go_wp2_with fail
      refine wp_region_held_drew (S := fun X => Hid (X.heap = wr.heap)) (by kernel_rfl) hS0 (fun _ => ?_)
      (refine wpAnyH_take (i := 0) (v := ?_) rfl (by kernel_rfl) (by kernel_rfl) (by kernel_rfl) (fun _ _ _ h => h) (Or.inl ⟨by rfl, ?_⟩) (by assumption) ?_; rotate_left; (intro w hSw; (try dsimp only at hSw); go_simp; try with_reducible rfl); ((try simp only [List.getElem_toArray]); (try simp only [List.getElem_cons_succ]); (try simp only [List.getElem_cons_zero]); (try simp only [Act.put]); (try simp only [List.setIfInBounds_toArray]); (try simp only [List.set_cons_succ]); (try simp only [List.set_cons_zero])))
      (refine wpAnyH_take (i := 1) (v := ?_) rfl (by kernel_rfl) (by kernel_rfl) (by kernel_rfl) (fun _ _ _ h => h) (Or.inl ⟨by rfl, ?_⟩) (by assumption) ?_; rotate_left; (intro w hSw; (try dsimp only at hSw); go_simp; try with_reducible rfl); ((try simp only [List.getElem_toArray]); (try simp only [List.getElem_cons_succ]); (try simp only [List.getElem_cons_zero]); (try simp only [Act.put]); (try simp only [List.setIfInBounds_toArray]); (try simp only [List.set_cons_succ]); (try simp only [List.set_cons_zero])))
      (refine wpAnyH_take (i := 2) (v := ?_) rfl (by kernel_rfl) (by kernel_rfl) (by kernel_rfl) (fun _ _ _ h => h) (Or.inl ⟨by rfl, ?_⟩) (by assumption) ?_; rotate_left; (intro w hSw; (try dsimp only at hSw); go_simp; try with_reducible rfl); ((try simp only [List.getElem_toArray]); (try simp only [List.getElem_cons_succ]); (try simp only [List.getElem_cons_zero]); (try simp only [Act.put]); (try simp only [List.setIfInBounds_toArray]); (try simp only [List.set_cons_succ]); (try simp only [List.set_cons_zero])))
      (refine wpAnyH_take (i := 3) (v := undef) rfl (by kernel_rfl) (by kernel_rfl) (by kernel_rfl) (fun _ _ _ h => h) (Or.inr ⟨by rfl, rfl⟩) (by assumption) ?_; ((try simp only [List.getElem_toArray]); (try simp only [List.getElem_cons_succ]); (try simp only [List.getElem_cons_zero]); (try simp only [Act.put]); (try simp only [List.setIfInBounds_toArray]); (try simp only [List.set_cons_succ]); (try simp only [List.set_cons_zero])))
      (refine wpAnyH_take (i := 4) (v := undef) rfl (by kernel_rfl) (by kernel_rfl) (by kernel_rfl) (fun _ _ _ h => h) (Or.inr ⟨by rfl, rfl⟩) (by assumption) ?_; ((try simp only [List.getElem_toArray]); (try simp only [List.getElem_cons_succ]); (try simp only [List.getElem_cons_zero]); (try simp only [Act.put]); (try simp only [List.setIfInBounds_toArray]); (try simp only [List.set_cons_succ]); (try simp only [List.set_cons_zero])))
      (refine wpAnyH_take (i := 5) (v := undef) rfl (by kernel_rfl) (by kernel_rfl) (by kernel_rfl) (fun _ _ _ h => h) (Or.inr ⟨by rfl, rfl⟩) (by assumption) ?_; ((try simp only [List.getElem_toArray]); (try simp only [List.getElem_cons_succ]); (try simp only [List.getElem_cons_zero]); (try simp only [Act.put]); (try simp only [List.setIfInBounds_toArray]); (try simp only [List.set_cons_succ]); (try simp only [List.set_cons_zero])))
      (refine wpAnyH_take (i := 6) (v := undef) rfl (by kernel_rfl) (by kernel_rfl) (by kernel_rfl) (fun _ _ _ h => h) (Or.inr ⟨by rfl, rfl⟩) (by assumption) ?_; ((try simp only [List.getElem_toArray]); (try simp only [List.getElem_cons_succ]); (try simp only [List.getElem_cons_zero]); (try simp only [Act.put]); (try simp only [List.setIfInBounds_toArray]); (try simp only [List.set_cons_succ]); (try simp only [List.set_cons_zero])))
      (refine wpAnyH_take (i := 7) (v := undef) rfl (by kernel_rfl) (by kernel_rfl) (by kernel_rfl) (fun _ _ _ h => h) (Or.inr ⟨by rfl, rfl⟩) (by assumption) ?_; ((try simp only [List.getElem_toArray]); (try simp only [List.getElem_cons_succ]); (try simp only [List.getElem_cons_zero]); (try simp only [Act.put]); (try simp only [List.setIfInBounds_toArray]); (try simp only [List.set_cons_succ]); (try simp only [List.set_cons_zero])))
      (refine wpAnyH_take (i := 8) (v := undef) rfl (by kernel_rfl) (by kernel_rfl) (by kernel_rfl) (fun _ _ _ h => h) (Or.inr ⟨by rfl, rfl⟩) (by assumption) ?_; ((try simp only [List.getElem_toArray]); (try simp only [List.getElem_cons_succ]); (try simp only [List.getElem_cons_zero]); (try simp only [Act.put]); (try simp only [List.setIfInBounds_toArray]); (try simp only [List.set_cons_succ]); (try simp only [List.set_cons_zero])))
      (refine wpAnyH_take (i := 9) (v := undef) rfl (by kernel_rfl) (by kernel_rfl) (by kernel_rfl) (fun _ _ _ h => h) (Or.inr ⟨by rfl, rfl⟩) (by assumption) ?_; ((try simp only [List.getElem_toArray]); (try simp only [List.getElem_cons_succ]); (try simp only [List.getElem_cons_zero]); (try simp only [Act.put]); (try simp only [List.setIfInBounds_toArray]); (try simp only [List.set_cons_succ]); (try simp only [List.set_cons_zero])))
      (refine wpAnyH_take (i := 10) (v := undef) rfl (by kernel_rfl) (by kernel_rfl) (by kernel_rfl) (fun _ _ _ h => h) (Or.inr ⟨by rfl, rfl⟩) (by assumption) ?_; ((try simp only [List.getElem_toArray]); (try simp only [List.getElem_cons_succ]); (try simp only [List.getElem_cons_zero]); (try simp only [Act.put]); (try simp only [List.setIfInBounds_toArray]); (try simp only [List.set_cons_succ]); (try simp only [List.set_cons_zero])))
      (refine wpAnyH_take (i := 11) (v := undef) rfl (by kernel_rfl) (by kernel_rfl) (by kernel_rfl) (fun _ _ _ h => h) (Or.inr ⟨by rfl, rfl⟩) (by assumption) ?_; ((try simp only [List.getElem_toArray]); (try simp only [List.getElem_cons_succ]); (try simp only [List.getElem_cons_zero]); (try simp only [Act.put]); (try simp only [List.setIfInBounds_toArray]); (try simp only [List.set_cons_succ]); (try simp only [List.set_cons_zero])))
      (refine wpAnyH_take (i := 12) (v := undef) rfl (by kernel_rfl) (by kernel_rfl) (by kernel_rfl) (fun _ _ _ h => h) (Or.inr ⟨by rfl, rfl⟩) (by assumption) ?_; ((try simp only [List.getElem_toArray]); (try simp only [List.getElem_cons_succ]); (try simp only [List.getElem_cons_zero]); (try simp only [Act.put]); (try simp only [List.setIfInBounds_toArray]); (try simp only [List.set_cons_succ]); (try simp only [List.set_cons_zero])))
      (refine wpAnyH_take (i := 13) (v := undef) rfl (by kernel_rfl) (by kernel_rfl) (by kernel_rfl) (fun _ _ _ h => h) (Or.inr ⟨by rfl, rfl⟩) (by assumption) ?_; ((try simp only [List.getElem_toArray]); (try simp only [List.getElem_cons_succ]); (try simp only [List.getElem_cons_zero]); (try simp only [Act.put]); (try simp only [List.setIfInBounds_toArray]); (try simp only [List.set_cons_succ]); (try simp only [List.set_cons_zero])))
      (refine wpAnyH_take (i := 14) (v := undef) rfl (by kernel_rfl) (by kernel_rfl) (by kernel_rfl) (fun _ _ _ h => h) (Or.inr ⟨by rfl, rfl⟩) (by assumption) ?_; ((try simp only [List.getElem_toArray]); (try simp only [List.getElem_cons_succ]); (try simp only [List.getElem_cons_zero]); (try simp only [Act.put]); (try simp only [List.setIfInBounds_toArray]); (try simp only [List.set_cons_succ]); (try simp only [List.set_cons_zero])))
      (refine wpAnyH_take (i := 15) (v := ?_) rfl (by kernel_rfl) (by kernel_rfl) (by kernel_rfl) (fun _ _ _ h => h) (Or.inl ⟨by rfl, ?_⟩) (by assumption) ?_; rotate_left; (intro w hSw; (try dsimp only at hSw); go_simp; try with_reducible rfl); ((try simp only [List.getElem_toArray]); (try simp only [List.getElem_cons_succ]); (try simp only [List.getElem_cons_zero]); (try simp only [Act.put]); (try simp only [List.setIfInBounds_toArray]); (try simp only [List.set_cons_succ]); (try simp only [List.set_cons_zero])))
      refine wpAnyH_done (by kernel_rfl) ?_ _
      rcases A with _ | a
      · have hc0 := HZ.out rfl
        subst hc0
        have hn0 : n = 0 := by omega
        subst hn0
        have HBD := Lib.hid HB.out.drew
        have HXD : Hid (Has wr.drew w.heap.size 81 (rcA x)) := HX.out
        have t1d : wr.drew.cell? ⟨r, 1, none⟩ = some (.slice none 0 0) := t1
        have HP := puts H.out HBD.out x w.heap.size HXD.out (0) (by rw [HL.out]; omega) (by rw [HL.out]; exact hl) (none) (0) (fun a e => by cases e) (fun _ => ⟨rfl, rfl⟩) (none) (0) (0) (by rw [List.length_drop, HL.out]) (fun a e => by cases e) (fun _ => ⟨rfl, rfl⟩)
        obtain ⟨A1, n1, c1, W1, A2, n2, c2, W2, A3, n3, c3, W3, HP⟩ := HP
        have r1 := Lib.hid HP.run1
        have r2 := HP.run2
        unfold rcA at r2
        have r2 := Lib.hid r2
        have r3 := Lib.hid HP.run3
        have x1 := HP.top1.cell 1
        have x2 := HP.top2.cell 1
        have x3 := HP.top3.cell 1
        have z3 := HP.top3.free 1
        have y0 : W1.cell? ⟨w.heap.size, 0, none⟩ = some (.string (tx x.nm)) := HP.box1.cell 0
        have y1 : W1.cell? ⟨w.heap.size, 1, none⟩ = some (.string (bs (x.l.take x.k))) := HP.box1.cell 1
        have y2 : W1.cell? ⟨w.heap.size, 2, none⟩ = some (.string (bs (x.l.drop x.k))) := HP.box1.cell 2
        have FIN := Lib.hid (And.intro HP.ri (And.intro HP.tur HP.fre))
        rw [← hins] at FIN
        clear hins
        rw [HL.out] at x1 x2 x3
        clear HP
        go_wp2_with (first
          | (at_builtin; refine wpList_app rfl _ _ 65 65 rfl (.slice none 0 0) (.slice (none) (0) (0)) rfl rfl ?_; refine ⟨.slice A1 n1 c1, W1, r1.out, ?_⟩)
          | (at_builtin; refine wpList_app rfl _ _ 65 65 rfl (.slice A1 n1 c1) (.slice (some ⟨W1.heap.size, 0, none⟩) 1 1) rfl rfl ?_; refine ⟨.slice A2 n2 c2, W2, r2.out, ?_⟩)
          | (at_builtin; refine wpList_app rfl _ _ 65 65 rfl (.slice A2 n2 c2) (.slice (none) (0) (0)) rfl rfl ?_; refine ⟨.slice A3 n3 c3, W3, r3.out, ?_⟩))
        go_end0
        exact ⟨rfl, _, FIN.out.1, FIN.out.2.1, FIN.out.2.2⟩
      · obtain ⟨g, hg⟩ : ∃ g, a = ⟨g, 0, none⟩ := ⟨_, (HAA.out a rfl).1⟩
        subst hg
        have HBD := Lib.hid HB.out.drew
        have HXD : Hid (Has wr.drew w.heap.size 81 (rcA x)) := HX.out
        have t1d : wr.drew.cell? ⟨r, 1, none⟩ = some (.slice (some ⟨g, 0, none⟩) n c) := t1
        have HP := puts H.out HBD.out x w.heap.size HXD.out (0) (by rw [HL.out]; omega) (by rw [HL.out]; exact hl) (some ⟨g, 0, none⟩) (c) (fun a e => by cases e; exact cells_stay (w := w) (take_cells H.out (g := g) rfl (0)) rfl ((HBD.out.block g (H.out.lt g (rft_iff.2 (.inr rfl)))))) (fun e => by cases e) (some ⟨g, 0, none⟩) (n) (c) (by rw [List.length_drop, HL.out]; omega) (fun a e => by cases e; exact ⟨cells_stay (w := w) (by have := drop_cells H.out (g := g) rfl (0) (by rw [HL.out]; omega); simpa using this) rfl ((HBD.out.block g (H.out.lt g (rft_iff.2 (.inr rfl))))), rfl, by have := H.out.lt g (rft_iff.2 (.inr rfl)); have := HBD.out.size; show g < _; omega⟩) (fun e => by cases e)
        obtain ⟨A1, n1, c1, W1, A2, n2, c2, W2, A3, n3, c3, W3, HP⟩ := HP
        have r1 := Lib.hid HP.run1
        have r2 := HP.run2
        unfold rcA at r2
        have r2 := Lib.hid r2
        have r3 := Lib.hid HP.run3
        have x1 := HP.top1.cell 1
        have x2 := HP.top2.cell 1
        have x3 := HP.top3.cell 1
        have z3 := HP.top3.free 1
        have y0 : W1.cell? ⟨w.heap.size, 0, none⟩ = some (.string (tx x.nm)) := HP.box1.cell 0
        have y1 : W1.cell? ⟨w.heap.size, 1, none⟩ = some (.string (bs (x.l.take x.k))) := HP.box1.cell 1
        have y2 : W1.cell? ⟨w.heap.size, 2, none⟩ = some (.string (bs (x.l.drop x.k))) := HP.box1.cell 2
        have FIN := Lib.hid (And.intro HP.ri (And.intro HP.tur HP.fre))
        rw [← hins] at FIN
        clear hins
        rw [HL.out] at x1 x2 x3
        clear HP
        go_wp2_with (first
          | (at_builtin; refine wpList_app rfl _ _ 65 65 rfl (.slice none 0 0) (.slice (some ⟨g, 0, none⟩) (0) (c)) rfl rfl ?_; refine ⟨.slice A1 n1 c1, W1, r1.out, ?_⟩)
          | (at_builtin; refine wpList_app rfl _ _ 65 65 rfl (.slice A1 n1 c1) (.slice (some ⟨W1.heap.size, 0, none⟩) 1 1) rfl rfl ?_; refine ⟨.slice A2 n2 c2, W2, r2.out, ?_⟩)
          | (at_builtin; refine wpList_app rfl _ _ 65 65 rfl (.slice A2 n2 c2) (.slice (some ⟨g, 0, none⟩) (n) (c)) rfl rfl ?_; refine ⟨.slice A3 n3 c3, W3, r3.out, ?_⟩))
        go_end0
        exact ⟨rfl, _, FIN.out.1, FIN.out.2.1, FIN.out.2.2⟩
end Go.Proofs.Ytoooainecoappaa
