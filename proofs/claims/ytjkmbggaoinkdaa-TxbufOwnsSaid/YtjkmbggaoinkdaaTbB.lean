/-
  The program's buffer: what it is, New, Open, Len, Number, Clear, and what a kind of events does.
-/
import Derived.Test.YtjkmbggaoinkdaaTbC
namespace Go.Proofs.Ytjkmbggaoinkdaa
open Go.RowKit Go.Maps Dg
set_option maxRecDepth 100000
set_option linter.unusedVariables false
/-- The blocks that a buffer turns: its own, and its row's. -/
def bfoot (b : Nat) (hv : Value) : List Nat := b :: hv.ownBlock.toList
/-- A buffer: its limit, its number, its events; F: the blocks that it has. -/
structure BufAt (b : Nat) (w : World) (lim num : Int) (E : List Ev) (F : List Nat) : Prop where
  known : ∃ hv T, Has w b 55 #[.int .i64 lim, .int .i64 num, hv] ∧ OwnE (b + 1) w hv T ∧ T.map Er.x = E ∧ (∀ r ∈ T, r.ok w ∧ r.off w (bfoot b hv) F) ∧ (∀ k ∈ bfoot b hv, k ∈ F)
  lt : ∀ k ∈ F, k < w.heap.size
  low : ∀ k ∈ F, b ≤ k
theorem BufAt.tur {b : Nat} {w w' : World} {lim num : Int} {E : List Ev} {F Z : List Nat} (h : BufAt b w lim num E F) (ht : Tur Z w w') (hz : ∀ z ∈ Z, z ∉ F) : BufAt b w' lim num E F := by
  obtain ⟨⟨hv, T, h1, h2, h3, h4, h5⟩, h6, h7⟩ := h
  have hx : ∀ k ∈ bfoot b hv, k ∉ Z := fun k hk hh => hz k hh (h5 k hk)
  refine ⟨⟨hv, T, h1.tur ht (hx b (by simp [bfoot])), h2.tur ht (fun g hg => hx g (by simp [bfoot, hg])), h3, fun r hr => ⟨(h4 r hr).1.tur (h4 r hr).2 ht (fun k hk => .inr (hz k hk)), (h4 r hr).2.next ht.size (Fre.refl _ _) (fun _ h => h)⟩, h5⟩, fun k hk => Nat.lt_of_lt_of_le (h6 k hk) ht.size, h7⟩
theorem BufAt.below {b : Nat} {w w' : World} {lim num : Int} {E : List Ev} {F : List Nat} (h : BufAt b w lim num E F) (hb : Below w.heap.size w w') : BufAt b w' lim num E F :=
  h.tur (Z := []) (Tur.of_below hb) (fun z hz => by cases hz)
theorem BufAt.has {b : Nat} {w : World} {lim num : Int} {E : List Ev} {F : List Nat} (h : BufAt b w lim num E F) : ∃ A n c, Hid (Has w b 55 #[.int .i64 lim, .int .i64 num, .slice A n c]) ∧ E.length = n := by
  obtain ⟨⟨hv, T, h1, h2, h3, h4, h5⟩, h6, h7⟩ := h
  obtain ⟨A, n, c, rfl, hn, _⟩ := ownE_open h2
  exact ⟨A, n, c, h1, by rw [← h3, List.length_map]; exact hn.out⟩
set_option maxHeartbeats 1000000 in
theorem open_any {b : Nat} {w : World} {lim num : Int} {E : List Ev} {F : List Nat} (h : BufAt b w lim num E F) :
    Calls Try.prog 16 #[.pointer (some ⟨b, 0, none⟩)] w fun e w' => e = .returned (.bool (num != -1)) ∧ w' = w := by
  obtain ⟨A, n, c, HH, hn⟩ := h.has
  have x1 := HH.out.cell 1
  clear h
  simp at x1
  go_enter Try.func16, Try.ntmps16
  go_wp2_with fail
  go_ret
  exact ⟨rfl, by trivial⟩
set_option maxHeartbeats 1000000 in
theorem number_any {b : Nat} {w : World} {lim num : Int} {E : List Ev} {F : List Nat} (h : BufAt b w lim num E F) :
    Calls Try.prog 17 #[.pointer (some ⟨b, 0, none⟩)] w fun e w' => e = .returned (.int .i64 num) ∧ w' = w := by
  obtain ⟨A, n, c, HH, hn⟩ := h.has
  have x1 := HH.out.cell 1
  clear h
  simp at x1
  go_enter Try.func17, Try.ntmps17
  go_wp2_with fail
  go_ret
  exact ⟨rfl, by trivial⟩
set_option maxHeartbeats 1000000 in
theorem len_any {b : Nat} {w : World} {lim num : Int} {E : List Ev} {F : List Nat} (h : BufAt b w lim num E F) :
    Calls Try.prog 15 #[.pointer (some ⟨b, 0, none⟩)] w fun e w' => e = .returned (.int .i64 E.length) ∧ w' = w := by
  obtain ⟨A, n, c, HH, hn⟩ := h.has
  have x1 := HH.out.cell 2
  clear h
  simp at x1
  rw [hn]
  clear hn
  go_enter Try.func15, Try.ntmps15
  go_wp2_with fail
  go_ret
  exact ⟨rfl, by trivial⟩
theorem buf_new (w : World) (lim : Int) : BufAt w.heap.size (w.alloc (.cells #[.int .i64 lim, .int .i64 (-1), .slice none 0 0] 55)) lim (-1) [] [w.heap.size] :=
  ⟨⟨.slice none 0 0, [], Has.new _ _ _, ownE_nil _ _, rfl, fun r hr => (by cases hr), fun k hk => hk⟩, fun k hk => by simp at hk; simp [hk], fun k hk => by simp at hk; simp [hk]⟩
theorem new_any (lim : Int) (w : World) :
    Calls Try.prog 8 #[.int .i64 lim] w fun e w' => e = .returned (.pointer (some ⟨w.heap.size, 0, none⟩)) ∧ w' = w.alloc (.cells #[.int .i64 (max lim 1), .int .i64 (-1), .slice none 0 0] 55) := by
  by_cases hl : 1 ≤ lim
  · have h1 : max lim 1 = lim := by omega
    have h2 : (1 : Int) < lim ∨ lim = 1 := by omega
    rw [h1]
    go_enter Try.func8, Try.ntmps8
    go_wp2_with fail
    go_ret
    exact ⟨rfl, by first | rfl | trivial⟩
  · have h1 : max lim 1 = 1 := by omega
    rw [h1]
    go_enter Try.func8, Try.ntmps8
    go_wp2_with fail
    go_ret
    exact ⟨rfl, by first | rfl | trivial⟩
theorem buf_clear {b : Nat} {W : World} {a0 a1 a2 : Value} (lim : Int) (h : Has W b 55 #[a0, a1, a2]) : BufAt b (((W.setCell ⟨b, 0, none⟩ (.int .i64 lim)).setCell ⟨b, 1, none⟩ (.int .i64 (-1))).setCell ⟨b, 2, none⟩ (.slice none 0 0)) lim (-1) [] [b] ∧ Tur [b] W (((W.setCell ⟨b, 0, none⟩ (.int .i64 lim)).setCell ⟨b, 1, none⟩ (.int .i64 (-1))).setCell ⟨b, 2, none⟩ (.slice none 0 0)) := by
  have h3 : Has (((W.setCell ⟨b, 0, none⟩ (.int .i64 lim)).setCell ⟨b, 1, none⟩ (.int .i64 (-1))).setCell ⟨b, 2, none⟩ (.slice none 0 0)) b 55 #[.int .i64 lim, .int .i64 (-1), .slice none 0 0] := ((h.put 0 _).put 1 _).put 2 _
  have hl := h3.lt
  refine ⟨⟨⟨.slice none 0 0, [], h3, ownE_nil _ _, rfl, fun r hr => (by cases hr), fun k hk => hk⟩, fun k hk => by simp at hk; rw [hk]; exact hl, fun k hk => by simp at hk; rw [hk]; exact Nat.le_refl _⟩, ?_⟩
  exact ((Tur.setCell W (p := ⟨b, 0, none⟩) (by simp) _).trans (Tur.setCell _ (p := ⟨b, 1, none⟩) (by simp) _) (Fre.refl _ _)).trans (Tur.setCell _ (p := ⟨b, 2, none⟩) (by simp) _) (Fre.refl _ _)
set_option maxHeartbeats 1000000 in
theorem clear_any {b : Nat} {w : World} {lim num : Int} {E : List Ev} {F : List Nat} (h : BufAt b w lim num E F) (hl : 1 ≤ lim) :
    Calls Try.prog 11 #[.pointer (some ⟨b, 0, none⟩)] w fun e w' => e = .returned (.tuple #[]) ∧ Hid (BufAt b w' lim (-1) [] [b]) ∧ Hid (Tur [b] w w') := by
  obtain ⟨A, n, c, HH, hn⟩ := h.has
  have x0 : w.cell? ⟨b, 0, none⟩ = some (.int .i64 lim) := HH.out.cell 0
  have HC := Lib.hid (new_any lim w)
  rw [show max lim 1 = lim by omega] at HC
  have hlt := HH.out.lt
  clear h hn
  go_enter Try.func11, Try.ntmps11
  go_wp2_with fail
  refine HC.out.mono ?_
  rintro e w1 ⟨rfl, hw1⟩
  have HN := Lib.hid (Has.new w 55 #[.int .i64 lim, .int .i64 (-1), .slice none 0 0])
  have HH1 := Lib.hid (HH.out.alloc (.cells #[.int .i64 lim, .int .i64 (-1), .slice none 0 0] 55))
  have HB1 : Hid (Below w.heap.size w w1) := by rw [hw1]; exact (Below.refl _ w).alloc (Nat.le_refl _) _
  rw [← hw1] at HN HH1
  clear hw1 HC x0
  have n0 := HN.out.cell 0
  have n1 := HN.out.cell 1
  have n2 := HN.out.cell 2
  have m0 := HH1.out.cell 0
  have m1 := HH1.out.cell 1
  have m2 := HH1.out.cell 2
  have f0 := HH1.out.free 0
  have f1 := HH1.out.free 1
  have f2 := HH1.out.free 2
  simp only [List.getElem?_toArray, List.getElem?_cons_zero, List.getElem?_cons_succ] at n0 n1 n2 m0 m1 m2
  go_wp2_with fail
  obtain ⟨q1, q2⟩ := buf_clear lim HH1.out
  have q3 := (Tur.of_below (X := [b]) HB1.out).trans q2 (Fre.refl _ _)
  go_end0
  exact ⟨rfl, q1, q3⟩
/-- What a kind of events does. -/
def deedG (k : Int) : Nat := if k = 2 then 21 else if k = 3 ∨ k = 4 ∨ k = 5 ∨ k = 6 then 22 else if k = 7 then 23 else if k = 8 then 24 else 25
set_option maxHeartbeats 2000000 in
theorem deed_any (b : Nat) (k : Int) (w : World) :
    Calls Try.prog 19 #[.pointer (some ⟨b, 0, none⟩), .int .i64 k] w fun e w' => e = .returned (.func (.func (deedG k)) #[.pointer (some ⟨b, 0, none⟩)] #[]) ∧ w' = w := by
  by_cases h : k = 2 ∨ k = 3 ∨ k = 4 ∨ k = 5 ∨ k = 6 ∨ k = 7 ∨ k = 8
  · rcases h with rfl | rfl | rfl | rfl | rfl | rfl | rfl
    all_goals
      go_enter Try.func19, Try.ntmps19
      go_wp2_with fail
      go_ret
      exact ⟨by rfl, by trivial⟩
  · have hd : deedG k = 25 := by
      unfold deedG
      rw [if_neg (by omega), if_neg (by omega), if_neg (by omega), if_neg (by omega)]
    have g2 : (k == 2) = false := by simp; omega
    have g3 : (k == 3) = false := by simp; omega
    have g4 : (k == 4) = false := by simp; omega
    have g5 : (k == 5) = false := by simp; omega
    have g6 : (k == 6) = false := by simp; omega
    have g7 : (k == 7) = false := by simp; omega
    have g8 : (k == 8) = false := by simp; omega
    rw [hd]
    clear hd h
    go_enter Try.func19, Try.ntmps19
    go_wp2_with fail
    go_ret
    exact ⟨by rfl, by trivial⟩
set_option maxHeartbeats 2000000 in
theorem end_no {b : Nat} {w : World} {lim num : Int} {E : List Ev} {F : List Nat} (h : BufAt b w lim num E F) (r : Er) (hn : r.x.n ≠ num) :
    Calls Try.prog 29 #[.pointer (some ⟨b, 0, none⟩), r.val] w fun e w' => e = .returned (.tuple #[.slice none 0 0, .int .i64 14]) ∧ Hid (Below w.heap.size w w') := by
  obtain ⟨A0, n0, c0, HH, _⟩ := h.has
  clear h
  obtain ⟨⟨k, m, t, B, AA, ck, ct, L, K, ⟨cn, cq, cb⟩⟩, Ab, nb, zb, Aa, na, za, A, n, c⟩ := r
  unfold Er.val
  dsimp only at hn ⊢
  have hq : (m != num) = true := by simp; exact hn
  have HB := Lib.hid ((Below.refl w.heap.size w).alloc (Nat.le_refl _) (.cells #[.int .i64 k, .int .i64 m, .string t, .slice Ab nb zb, .slice Aa na za, .int .i64 ck, .string ct, .slice A n c, .int .i64 K, .string cn, .int .i64 cq, .bool cb] 38))
  have x1 : (w.alloc (.cells #[.int .i64 k, .int .i64 m, .string t, .slice Ab nb zb, .slice Aa na za, .int .i64 ck, .string ct, .slice A n c, .int .i64 K, .string cn, .int .i64 cq, .bool cb] 38)).cell? ⟨b, 1, none⟩ = some (.int .i64 num) := (HH.out.alloc _).cell 1
  have y1 : (w.alloc (.cells #[.int .i64 k, .int .i64 m, .string t, .slice Ab nb zb, .slice Aa na za, .int .i64 ck, .string ct, .slice A n c, .int .i64 K, .string cn, .int .i64 cq, .bool cb] 38)).cell? ⟨w.heap.size, 1, none⟩ = some (.int .i64 m) := (Has.new _ _ _).cell 1
  clear hn
  go_enter Try.func29, Try.ntmps29
  go_wp2_with fail
  go_region
  all_goals
    go_wp2_with fail
    go_ret2
    exact ⟨by rfl, HB.out.drew⟩
set_option maxHeartbeats 2000000 in
theorem end_yes {b : Nat} {w : World} {lim num : Int} {E : List Ev} {F : List Nat} (h : BufAt b w lim num E F) (hl : 1 ≤ lim) (r : Er) (hn : r.x.n = num) :
    Calls Try.prog 29 #[.pointer (some ⟨b, 0, none⟩), r.val] w fun e w' => ∃ A n c T, e = .returned (.tuple #[.slice A n c, .int .i64 0]) ∧ Hid (OwnE b w' (.slice A n c) T ∧ T.map Er.x = E ∧ (∀ r ∈ T, r.ok w' ∧ r.off w' [] F) ∧ (∀ a, A = some a → a.block ∈ F)) ∧ Hid (BufAt b w' lim (-1) [] [b]) ∧ Hid (Tur [b] w w') := by
  obtain ⟨⟨hv, T, h1, h2, h3, h4, h5⟩, h6, h7⟩ := id h
  obtain ⟨A0, n0, c0, rfl, hn0, _, _, hr0, hz0, hg0⟩ := ownE_open h2
  have HF := Lib.hid h
  have HH := Lib.hid h1
  have HT : Hid (OwnE (b + 1) w (.slice A0 n0 c0) T ∧ T.map Er.x = E ∧ (∀ r ∈ T, r.ok w ∧ r.off w (bfoot b (.slice A0 n0 c0)) F)) := ⟨h2, h3, h4⟩
  have hgF : ∀ a, A0 = some a → a.block ∈ F := fun a e => h5 _ (by subst e; simp [bfoot, Value.ownBlock])
  clear h1 h2 h3 h4 h5 h6 h7 hn0 hr0 hz0
  obtain ⟨⟨k, m, t, B, AA, ck, ct, L, K, ⟨cn, cq, cb⟩⟩, Ab, nb, zb, Aa, na, za, A, n, c⟩ := r
  unfold Er.val
  dsimp only at hn ⊢
  subst hn
  have hq : (m != m) = false := by simp
  obtain ⟨w1, hw1⟩ : ∃ W, w.alloc (.cells #[.int .i64 k, .int .i64 m, .string t, .slice Ab nb zb, .slice Aa na za, .int .i64 ck, .string ct, .slice A n c, .int .i64 K, .string cn, .int .i64 cq, .bool cb] 38) = W := ⟨_, rfl⟩
  have HB : Hid (Below w.heap.size w w1) := by rw [← hw1]; exact ((Below.refl w.heap.size w).alloc (Nat.le_refl _) (.cells #[.int .i64 k, .int .i64 m, .string t, .slice Ab nb zb, .slice Aa na za, .int .i64 ck, .string ct, .slice A n c, .int .i64 K, .string cn, .int .i64 cq, .bool cb] 38))
  have HE : Hid (Has w1 w.heap.size 38 #[.int .i64 k, .int .i64 m, .string t, .slice Ab nb zb, .slice Aa na za, .int .i64 ck, .string ct, .slice A n c, .int .i64 K, .string cn, .int .i64 cq, .bool cb]) := by rw [← hw1]; exact Has.new _ _ _
  have HH1 := Lib.hid (HH.out.below HB.out HH.out.lt)
  have HC := Lib.hid (fun (W : World) (hb : Below w.heap.size w W) => clear_any (HF.out.below hb) hl)
  have x1 : w1.cell? ⟨b, 1, none⟩ = some (.int .i64 m) := HH1.out.cell 1
  have x2 : w1.drew.cell? ⟨b, 2, none⟩ = some (.slice A0 n0 c0) := HH1.out.cell 2
  have y1 : w1.cell? ⟨w.heap.size, 1, none⟩ = some (.int .i64 m) := HE.out.cell 1
  go_enter Try.func29, Try.ntmps29
  go_wp2_with fail
  go_region
  all_goals
    go_wp2_with fail
    refine (HC.out _ HB.out.drew).mono ?_
    rintro e w2 ⟨rfl, hb2, ht2⟩
    have ht : Tur [b] w w2 := (Tur.of_below HB.out.drew).trans ht2.out (Fre.refl _ _)
    go_wp2_with fail
    go_ret2
    refine ⟨A0, n0, c0, T, by rfl, ⟨(HT.out.1.mono (Nat.le_succ _)).tur ht fun g hg hh => ?_, HT.out.2.1, fun r hr => ⟨(HT.out.2.2 r hr).1.tur (HT.out.2.2 r hr).2 ht (fun k hk => .inl (by simp at hk; simp [bfoot, hk])), (HT.out.2.2 r hr).2.next ht.size (fun k hk => by cases hk) (fun _ h => h)⟩, hgF⟩, hb2, ht⟩
    have := (World.ownsRow.lt HT.out.1 g hg).1
    simp at hh
    omega
end Go.Proofs.Ytjkmbggaoinkdaa
