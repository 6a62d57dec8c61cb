/-
  The document's disk: a file in its row, a file that is gone.
-/
import Derived.Test.YtoooainecoappaaRl
namespace Go.Proofs.Ytoooainecoappaa
open Go.RowKit Go.Maps Go.WideShapes
theorem info63 : (Try.prog.info? 81).map (fun i => (i.zero, i.size, i.bytes)) = some (some (.agg #[.string ⟨#[]⟩, .string ⟨#[]⟩, .string ⟨#[]⟩]), 3, 48) := by kernel_rfl
theorem rcs_one (l : List Pf) : ∀ u ∈ rcs l, u.oneCell' = true := by
  intro u hu
  obtain ⟨f, _, hu⟩ := List.mem_flatMap.1 hu
  unfold rc at hu
  simp only [List.mem_cons, List.not_mem_nil, or_false] at hu
  rcases hu with rfl | rfl | rfl <;> rfl
set_option maxRecDepth 100000 in
/-- An append of files onto a row of the call's own. -/
theorem own3_app (w : World) (v : Value) (n : Nat) (l m : List Pf) (h : w.ownsRow 0 81 3 v n (rcs l)) (A : Option Addr) (k c : Nat) (hk : m.length = k) (hc : ∀ a, A = some a → ∀ j u, (rcs m)[j]? = some u → w.cell? (a.add j) = some u) (hA : A = none → k = 0 ∧ c = 0) (hs : n + k ≤ 1000000) :
    ∃ AR nR cR W', (Builtin.append_ #[65, 65] 65 #[v, .slice A k c]).run Try.prog w = .ok (.slice AR nR cR) W' ∧ W'.ownsRow 0 81 3 (.slice AR nR cR) (n + k) (rcs (l ++ m)) ∧ w.grownBy W' v.ownBlock ∧ ((Value.slice AR nR cR).ownBlock = v.ownBlock ∨ (Value.slice AR nR cR).ownBlock = some w.heap.size) := by
  obtain ⟨i0, hi, hz0, hz1, hz2⟩ := info_parts info63
  have shape : ∀ (R : Value) (W' : World), W'.ownsRow 0 81 3 R (n + k) (rcs (l ++ m)) → ∃ AR nR cR, R = .slice AR nR cR := fun R W' hR => by
    rcases hR.2 with ⟨hv, _⟩ | ⟨g, cap, cur, hv, _⟩
    · exact ⟨_, _, _, hv⟩
    · exact ⟨_, _, _, hv⟩
  rcases A with _ | a
  · obtain ⟨hk0, rfl⟩ := hA rfl
    have hm : m = [] := List.eq_nil_of_length_eq_zero (by omega)
    subst hm; subst hk0
    have hR : w.ownsRow 0 81 3 v (n + 0) (rcs (l ++ [])) := by rw [List.append_nil]; exact h
    obtain ⟨AR, nR, cR, rfl⟩ := shape v w hR
    exact ⟨AR, nR, cR, w, run_append_owned_none w 0 65 65 81 i0 3 Try.underlying65 hi _ _ _ h, hR, ⟨rfl, rfl, rfl, Nat.le_refl _, fun _ _ _ => rfl⟩, .inl rfl⟩
  · obtain ⟨R, W', hrun, hown, hg, _, ho⟩ := run_append_own_at (P := Try.prog) w 0 65 65 81 i0 (.agg #[.string ⟨#[]⟩, .string ⟨#[]⟩, .string ⟨#[]⟩]) 3 48 Try.underlying65 hi hz0 hz1 hz2 rfl (by decide) v n (rcs l) h a k c (rcs m) (by rw [rcs_len, hk]) (hc a rfl) (rcs_one m) (by unfold maxLen; omega) (by omega) (Nat.zero_le _)
    rw [← rcs_append] at hown
    obtain ⟨AR, nR, cR, rfl⟩ := shape R W' hown
    exact ⟨AR, nR, cR, W', hrun, hown, hg, ho⟩
theorem insP_split (x : Pf) : ∀ (p q : List Pf), (∀ y ∈ p, bytesBefore x.nm y.nm = false) → (∀ y ∈ q, bytesBefore x.nm y.nm = true) → insP x (p ++ q) = p ++ x :: q
  | [], [], _, _ => rfl
  | [], y :: q, _, h => by
    show (if bytesBefore x.nm y.nm then x :: y :: q else y :: insP x q) = _
    rw [if_pos (h y (by simp))]
    rfl
  | y :: p, q, h1, h2 => by
    show (if bytesBefore x.nm y.nm then x :: y :: (p ++ q) else y :: insP x (p ++ q)) = _
    rw [if_neg (by rw [h1 y (by simp)]; decide), insP_split x p q (fun z hz => h1 z (by simp [hz])) h2]
    rfl
/-- The files from a place on, as cells. -/
theorem drop_cells {w : World} {r : Nat} {S : Ds} {v : Value} {ra : Int} (h : RIn r w S v ra) {g : Nat} (hv : v.ownBlock = some g) (k : Nat) (hk : k ≤ S.fs.length) : ∀ j u, (rcs (S.fs.drop k))[j]? = some u → w.cell? ((⟨g, 0 + k * 3, none⟩ : Addr).add j) = some u := by
  intro j u hj
  have e : rcs S.fs = rcs (S.fs.take k) ++ rcs (S.fs.drop k) := by rw [← rcs_append, List.take_append_drop]
  have hl : (rcs (S.fs.take k)).length = k * 3 := by rw [rcs_len, List.length_take]; congr 1; omega
  have h1 : (rcs S.fs)[k * 3 + j]? = some u := by
    rw [e, List.getElem?_append_right (by rw [hl]; omega), hl]
    rw [← hj]; congr 1; omega
  have := World.ownsRow.cells h.own hv _ _ h1
  rw [Addr.add_lit] at this ⊢
  rw [Nat.zero_add, ← this, Nat.zero_add]
theorem take_cells {w : World} {r : Nat} {S : Ds} {v : Value} {ra : Int} (h : RIn r w S v ra) {g : Nat} (hv : v.ownBlock = some g) (k : Nat) : ∀ j u, (rcs (S.fs.take k))[j]? = some u → w.cell? ((⟨g, 0, none⟩ : Addr).add j) = some u := by
  intro j u hj
  have e : rcs S.fs = rcs (S.fs.take k) ++ rcs (S.fs.drop k) := by rw [← rcs_append, List.take_append_drop]
  have h1 : (rcs S.fs)[j]? = some u := by
    have hjl := (List.getElem?_eq_some_iff.1 hj).1
    rw [e, List.getElem?_append_left hjl]
    exact hj
  exact World.ownsRow.cells h.own hv _ _ h1
/-- Cells of a block that stays. -/
theorem cells_stay {w w' : World} {a : Addr} {l : List Value} (h : ∀ j u, l[j]? = some u → w.cell? (a.add j) = some u) (hs : a.spot = none) (hb : w'.heap[a.block]? = w.heap[a.block]?) : ∀ j u, l[j]? = some u → w'.cell? (a.add j) = some u := by
  intro j u hj
  have h1 := h j u hj
  obtain ⟨b, o, s⟩ := a
  obtain rfl : s = none := hs
  rw [Addr.add_lit] at h1 ⊢
  exact (World.cell?_of_block (w := w) (a := ⟨b, o + j, none⟩) hb).trans h1
set_option maxHeartbeats 4000000 in
set_option maxRecDepth 100000 in
theorem cut_any {r : Nat} {w : World} {S : Ds} {v : Value} {ra : Int} (h : RIn r w S v ra) (i : Nat) (hi : i < S.fs.length) (hl : S.fs.length ≤ 100000) :
    Calls Try.prog 64 #[.pointer (some ⟨r, 0, none⟩), .int .i64 i] w fun e w' => e = .returned (.tuple #[]) ∧ ∃ v', Hid (RIn r w' { S with fs := S.fs.take i ++ S.fs.drop (i + 1) } v' ra) ∧ Hid (Tur (rft r v) w w') ∧ Hid (Fre (rft r v) (rft r v') w) := by
  obtain ⟨A, c, rfl, hnc, hcm, hz, hA, _⟩ := h.row
  obtain ⟨g, rfl⟩ : ∃ g, A = some ⟨g, 0, none⟩ := by
    rcases A with _ | a
    · have := hz rfl; omega
    · exact ⟨a.block, by rw [← (hA a rfl).1]⟩
  have hv : (Value.slice (some ⟨g, 0, none⟩) S.fs.length c).ownBlock = some g := rfl
  have hgr : g ≠ r := h.ne g rfl
  have hgl := h.lt g (rft_iff.2 (.inr rfl))
  have hrl := h.top.lt
  have H := Lib.hid h
  -- the first append
  obtain ⟨A1, n1, c1, W1, hrun1, hown1, hg1, ho1⟩ := own3_app w (.slice none 0 0) 0 [] (S.fs.take i) (World.ownsRow_nil _ _ _ _) (some ⟨g, 0, none⟩) i c (by rw [List.length_take]; omega) (fun a e => by cases e; exact take_cells h hv i) (fun e => by cases e) (by omega)
  have hb1 : ∀ b, b < w.heap.size → W1.heap[b]? = w.heap[b]? := fun b hb => hg1.block b hb (by simp [Value.ownBlock])
  have hdr := cells_stay (w' := W1) (drop_cells h hv (i + 1) (by omega)) rfl (hb1 g hgl)
  by_cases hci : c = i + 1
  · have hdr2 : ∀ j u, (rcs (S.fs.drop (i + 1)))[j]? = some u → W1.cell? ((⟨g, 0, none⟩ : Addr).add j) = some u := fun j u hj => by
      rw [List.drop_eq_nil_of_le (show S.fs.length ≤ i + 1 by omega)] at hj; simp [rcs] at hj
    have hni : S.fs.length = i + 1 := by omega
    obtain ⟨A2, n2, c2, W2, hrun2, hown2, hg2, ho2⟩ := own3_app W1 (.slice A1 n1 c1) (0 + i) (S.fs.take i) (S.fs.drop (i + 1)) (by simpa using hown1) (some ⟨g, 0, none⟩) (S.fs.length - (i + 1)) (0) (List.length_drop) (fun a e => by cases e; exact hdr2) (fun e => by cases e) (by omega)
    have hn1 : ∀ b, (Value.slice A1 n1 c1).ownBlock = some b → w.heap.size ≤ b := by
      intro b hb
      rcases ho1 with ho | ho
      · rw [ho] at hb; simp [Value.ownBlock] at hb
      · rw [ho] at hb; injection hb with hb; omega
    have hn2 : ∀ b, (Value.slice A2 n2 c2).ownBlock = some b → w.heap.size ≤ b := by
      intro b hb
      rcases ho2 with ho | ho
      · exact hn1 b (ho ▸ hb)
      · rw [ho] at hb; injection hb with hb; have := hg1.size; omega
    have hb2 : ∀ b, b < w.heap.size → W2.heap[b]? = w.heap[b]? := fun b hb => (hg2.block b (by have := hg1.size; omega) fun e => by have := hn1 b e.symm; omega).trans (hb1 b hb)
    have ht2 : Has W2 r 67 #[.int .i64 S.room, .slice (some ⟨g, 0, none⟩) S.fs.length c, .int .i64 ra, .bool S.down] := (hb2 r hrl).trans h.top
    have ht1 : Has W1 r 67 #[.int .i64 S.room, .slice (some ⟨g, 0, none⟩) S.fs.length c, .int .i64 ra, .bool S.down] := (hb1 r hrl).trans h.top
    have hlen : 0 + i + (S.fs.length - (i + 1)) = (S.fs.take i ++ S.fs.drop (i + 1)).length := by rw [List.length_append, List.length_take, List.length_drop]; omega
    have HI : Hid (RIn r (W2.setCell ⟨r, 1, none⟩ (.slice A2 n2 c2)) { S with fs := S.fs.take i ++ S.fs.drop (i + 1) } (.slice A2 n2 c2) ra) := by
      refine ⟨ht2.put 1 _, ?_, h.arm, h.rng, fun b hb => by have := hn2 b hb; omega⟩
      refine row_keep (w := W2) ?_ fun b hb => Below.heap_setCell W2 ⟨r, 1, none⟩ _ _ (by have := hn2 b hb; show b ≠ r; omega)
      rw [← hlen]
      exact hown2
    have HT : Hid (Tur (rft r (.slice (some ⟨g, 0, none⟩) S.fs.length c)) w (W2.setCell ⟨r, 1, none⟩ (.slice A2 n2 c2))) :=
      (Tur.trans (X := rft r (.slice (some ⟨g, 0, none⟩) S.fs.length c)) (X' := rft r (.slice (some ⟨g, 0, none⟩) S.fs.length c)) ⟨hg2.os.trans hg1.os, hg2.tape.trans hg1.tape, hg2.output.trans hg1.output, Nat.le_trans hg1.size hg2.size, fun b hb _ => hb2 b hb⟩ (Tur.setCell W2 (p := ⟨r, 1, none⟩) (by simp [rft]) _) (Fre.refl _ _))
    have HF : Hid (Fre (rft r (.slice (some ⟨g, 0, none⟩) S.fs.length c)) (rft r (.slice A2 n2 c2)) w) := fun b hb => by
      rcases rft_iff.1 hb with rfl | hb
      · exact .inl (by simp [rft])
      · exact .inr (hn2 b hb)
    have x0 := h.top.cell 1
    have x1 := ht1.cell 1
    have x2 := ht2.cell 1
    have z2 := ht2.free 1
    have HR1 := Lib.hid hrun1
    have HR2 := Lib.hid hrun2
    clear h hrun1 hown1 hg1 ho1 hb1 hdr hdr2 hrun2 hown2 hg2 ho2 hn1 hn2 hb2 ht1 ht2 hlen hA hz hv hgl hrl hgr
    obtain ⟨n, hn⟩ : ∃ n, S.fs.length = n := ⟨_, rfl⟩
    rw [hn] at hni
    rw [hn] at hi hl hnc x0 x1 x2 HR2 HT HF ⊢
    clear hn
    subst hni
    subst hci
    rw [Nat.sub_self] at HR2
    go_enter Try.func64, Try.ntmps64
    go_wp2_with (first
      | (at_builtin; refine wpList_app rfl _ _ 65 65 rfl (.slice none 0 0) (.slice (some ⟨g, 0, none⟩) i (i + 1)) rfl rfl ?_; refine ⟨.slice A1 n1 c1, W1, HR1.out, ?_⟩)
      | (at_builtin; refine wpList_app rfl _ _ 65 65 rfl (.slice A1 n1 c1) (.slice (some ⟨g, 0, none⟩) (0) (0)) rfl rfl ?_; refine ⟨.slice A2 n2 c2, W2, HR2.out, ?_⟩))
    go_end0
    exact ⟨rfl, _, HI, HT, HF⟩
  · have hdr2 : ∀ j u, (rcs (S.fs.drop (i + 1)))[j]? = some u → W1.cell? ((⟨g, (i + 1) * 3, none⟩ : Addr).add j) = some u := by
      rw [Nat.zero_add] at hdr
      exact hdr
    obtain ⟨A2, n2, c2, W2, hrun2, hown2, hg2, ho2⟩ := own3_app W1 (.slice A1 n1 c1) (0 + i) (S.fs.take i) (S.fs.drop (i + 1)) (by simpa using hown1) (some ⟨g, (i + 1) * 3, none⟩) (S.fs.length - (i + 1)) (c - (i + 1)) (List.length_drop) (fun a e => by cases e; exact hdr2) (fun e => by cases e) (by omega)
    have hn1 : ∀ b, (Value.slice A1 n1 c1).ownBlock = some b → w.heap.size ≤ b := by
      intro b hb
      rcases ho1 with ho | ho
      · rw [ho] at hb; simp [Value.ownBlock] at hb
      · rw [ho] at hb; injection hb with hb; omega
    have hn2 : ∀ b, (Value.slice A2 n2 c2).ownBlock = some b → w.heap.size ≤ b := by
      intro b hb
      rcases ho2 with ho | ho
      · exact hn1 b (ho ▸ hb)
      · rw [ho] at hb; injection hb with hb; have := hg1.size; omega
    have hb2 : ∀ b, b < w.heap.size → W2.heap[b]? = w.heap[b]? := fun b hb => (hg2.block b (by have := hg1.size; omega) fun e => by have := hn1 b e.symm; omega).trans (hb1 b hb)
    have ht2 : Has W2 r 67 #[.int .i64 S.room, .slice (some ⟨g, 0, none⟩) S.fs.length c, .int .i64 ra, .bool S.down] := (hb2 r hrl).trans h.top
    have ht1 : Has W1 r 67 #[.int .i64 S.room, .slice (some ⟨g, 0, none⟩) S.fs.length c, .int .i64 ra, .bool S.down] := (hb1 r hrl).trans h.top
    have hlen : 0 + i + (S.fs.length - (i + 1)) = (S.fs.take i ++ S.fs.drop (i + 1)).length := by rw [List.length_append, List.length_take, List.length_drop]; omega
    have HI : Hid (RIn r (W2.setCell ⟨r, 1, none⟩ (.slice A2 n2 c2)) { S with fs := S.fs.take i ++ S.fs.drop (i + 1) } (.slice A2 n2 c2) ra) := by
      refine ⟨ht2.put 1 _, ?_, h.arm, h.rng, fun b hb => by have := hn2 b hb; omega⟩
      refine row_keep (w := W2) ?_ fun b hb => Below.heap_setCell W2 ⟨r, 1, none⟩ _ _ (by have := hn2 b hb; show b ≠ r; omega)
      rw [← hlen]
      exact hown2
    have HT : Hid (Tur (rft r (.slice (some ⟨g, 0, none⟩) S.fs.length c)) w (W2.setCell ⟨r, 1, none⟩ (.slice A2 n2 c2))) :=
      (Tur.trans (X := rft r (.slice (some ⟨g, 0, none⟩) S.fs.length c)) (X' := rft r (.slice (some ⟨g, 0, none⟩) S.fs.length c)) ⟨hg2.os.trans hg1.os, hg2.tape.trans hg1.tape, hg2.output.trans hg1.output, Nat.le_trans hg1.size hg2.size, fun b hb _ => hb2 b hb⟩ (Tur.setCell W2 (p := ⟨r, 1, none⟩) (by simp [rft]) _) (Fre.refl _ _))
    have HF : Hid (Fre (rft r (.slice (some ⟨g, 0, none⟩) S.fs.length c)) (rft r (.slice A2 n2 c2)) w) := fun b hb => by
      rcases rft_iff.1 hb with rfl | hb
      · exact .inl (by simp [rft])
      · exact .inr (hn2 b hb)
    have x0 := h.top.cell 1
    have x1 := ht1.cell 1
    have x2 := ht2.cell 1
    have z2 := ht2.free 1
    have HR1 := Lib.hid hrun1
    have HR2 := Lib.hid hrun2
    clear h hrun1 hown1 hg1 ho1 hb1 hdr hdr2 hrun2 hown2 hg2 ho2 hn1 hn2 hb2 ht1 ht2 hlen hA hz hv hgl hrl hgr
    obtain ⟨n, hn⟩ : ∃ n, S.fs.length = n := ⟨_, rfl⟩
    rw [hn] at hi hl hnc x0 x1 x2 HR2 HT HF ⊢
    clear hn
    go_enter Try.func64, Try.ntmps64
    go_wp2_with (first
      | (at_builtin; refine wpList_app rfl _ _ 65 65 rfl (.slice none 0 0) (.slice (some ⟨g, 0, none⟩) i c) rfl rfl ?_; refine ⟨.slice A1 n1 c1, W1, HR1.out, ?_⟩)
      | (at_builtin; refine wpList_app rfl _ _ 65 65 rfl (.slice A1 n1 c1) (.slice (some ⟨g, (i + 1) * 3, none⟩) (n - (i + 1)) (c - (i + 1))) rfl rfl ?_; refine ⟨.slice A2 n2 c2, W2, HR2.out, ?_⟩))
    go_end0
    exact ⟨rfl, _, HI, HT, HF⟩
end Go.Proofs.Ytoooainecoappaa
