/-
  The program's Put of an event.
-/
import Derived.Test.YtjkmbggaoinkdaaTbB
import Derived.Deep.RegionHeld3
namespace Go.Proofs.Ytjkmbggaoinkdaa
open Go.RowKit Go.Maps Dg
set_option maxRecDepth 100000
set_option linter.unusedVariables false
/-- What is told: events that can be read. -/
def Told (w : World) (tv : Value) (L : List Ev) (F : List Nat) : Prop := ∃ A n c T, tv = .slice A n c ∧ T.length = n ∧ ERow w A T ∧ T.map Er.x = L ∧ (∀ r ∈ T, r.ok w ∧ r.off w [] F) ∧ ∀ a, A = some a → a.block ∈ F
theorem Told.tur {Z F : List Nat} {w w' : World} {tv : Value} {L : List Ev} (h : Told w tv L F) (ht : Tur Z w w') (hz : ∀ z ∈ Z, z ∉ F) : Told w' tv L F := by
  obtain ⟨A, n, c, T, h1, h2, h3, h4, h5, h6⟩ := h
  exact ⟨A, n, c, T, h1, h2, h3.tur ht (fun a e hh => hz _ hh (h6 a e)), h4, fun r hr => ⟨(h5 r hr).1.tur (h5 r hr).2 ht (fun k hk => .inr (hz k hk)), (h5 r hr).2.next ht.size (fun k hk => by cases hk) (fun _ h => h)⟩, h6⟩
theorem told_nil (w : World) (F : List Nat) : Told w (.slice none 0 0) [] F := ⟨none, 0, 0, [], rfl, rfl, ERow.nil _ _, rfl, fun r hr => (by cases hr), fun a e => (by cases e)⟩
/-- What an event does: the number and the events then; what is told. -/
def putF (lim num : Int) (E : List Ev) (x : Ev) : Int × List Ev × List Ev × Bool × Int :=
  if x.k = 2 then (if num = -1 then (x.n, E, [], false, 0) else (num, E, [], false, 14))
  else if x.k = 3 ∨ x.k = 4 ∨ x.k = 5 ∨ x.k = 6 then
    (if num = -1 then (num, E, [], false, 14) else if lim ≤ (E.length : Int) then (num, E, [], false, 13) else (num, E ++ [x], [], false, 0))
  else if x.k = 7 then (if x.n = num then (-1, [], E, true, 0) else (num, E, [], false, 14))
  else if x.k = 8 then (if x.n = num then (-1, [], [], false, 0) else (num, E, [], false, 14))
  else (num, E, [], false, 0)
def POut (b : Nat) (w : World) (lim : Int) (F : List Nat) (o : Int × List Ev × List Ev × Bool × Int) (e : Ending) (w' : World) : Prop :=
  ∃ tv F', e = .returned (.tuple #[tv, .bool o.2.2.2.1, .int .i64 o.2.2.2.2]) ∧ Hid (Told w' tv o.2.2.1 F) ∧ Hid (BufAt b w' lim o.1 o.2.1 F') ∧ Hid (Tur F w w') ∧ Hid (Fre F F' w)
theorem BufAt.has2 {b : Nat} {w : World} {lim num : Int} {E : List Ev} {F : List Nat} (h : BufAt b w lim num E F) : b ∈ F := by
  obtain ⟨⟨hv, T, h1, h2, h3, h4, h5⟩, h6, h7⟩ := h
  exact h5 b (by simp [bfoot])
theorem buf_num {b : Nat} {w : World} {lim num : Int} {E : List Ev} {F : List Nat} (h : BufAt b w lim num E F) (m : Int) : BufAt b (w.setCell ⟨b, 1, none⟩ (.int .i64 m)) lim m E F ∧ Tur F w (w.setCell ⟨b, 1, none⟩ (.int .i64 m)) := by
  have hb := h.has2
  obtain ⟨⟨hv, T, h1, h2, h3, h4, h5⟩, h6, h7⟩ := h
  have ht : Tur [b] w (w.setCell ⟨b, 1, none⟩ (.int .i64 m)) := Tur.setCell w (p := ⟨b, 1, none⟩) (by simp) _
  refine ⟨⟨⟨hv, T, h1.put 1 _, h2.tur ht (fun g hg hh => ?_), h3, fun r hr => ⟨(h4 r hr).1.tur (h4 r hr).2 ht (fun k hk => .inl (by simp at hk; simp [bfoot, hk])), (h4 r hr).2.next ht.size (Fre.refl _ _) (fun _ h => h)⟩, h5⟩, fun k hk => Nat.lt_of_lt_of_le (h6 k hk) ht.size, h7⟩, Tur.setCell w (p := ⟨b, 1, none⟩) hb _⟩
  have := (World.ownsRow.lt h2 g hg).1
  simp at hh
  omega
theorem pout_same {b : Nat} {w w' : World} {lim num : Int} {E : List Ev} {F : List Nat} (h : BufAt b w lim num E F) (hb : Below w.heap.size w w') (er : Int) : POut b w lim F (num, E, [], false, er) (.returned (.tuple #[.slice none 0 0, .bool false, .int .i64 er])) w' :=
  ⟨_, F, rfl, told_nil _ _, h.below hb, Tur.of_below hb, Fre.refl _ _⟩
set_option maxHeartbeats 2000000 in
theorem pass_any {b : Nat} {w : World} {lim num : Int} {E : List Ev} {F : List Nat} (h : BufAt b w lim num E F) (hl : 1 ≤ lim) (r : Er) (hr : r.ok w) :
    Calls Try.prog 25 #[.pointer (some ⟨b, 0, none⟩), r.val] w fun e w' => POut b w lim F (num, E, [], false, 0) e w' := by
  have HF := Lib.hid h
  clear h hr
  obtain ⟨⟨k, m, t, B, AA, ck, ct, L, K, ⟨cn, cq, cb⟩⟩, Ab, nb, zb, Aa, na, za, A, n, c⟩ := r
  unfold Er.val
  dsimp only
  obtain ⟨w1, hw1⟩ : ∃ W, w.alloc (.cells #[.int .i64 k, .int .i64 m, .string t, .slice Ab nb zb, .slice Aa na za, .int .i64 ck, .string ct, .slice A n c, .int .i64 K, .string cn, .int .i64 cq, .bool cb] 38) = W := ⟨_, rfl⟩
  have HB : Hid (Below w.heap.size w w1) := by rw [← hw1]; exact ((Below.refl w.heap.size w).alloc (Nat.le_refl _) (.cells #[.int .i64 k, .int .i64 m, .string t, .slice Ab nb zb, .slice Aa na za, .int .i64 ck, .string ct, .slice A n c, .int .i64 K, .string cn, .int .i64 cq, .bool cb] 38))
  have HE : Hid (Has w1 w.heap.size 38 #[.int .i64 k, .int .i64 m, .string t, .slice Ab nb zb, .slice Aa na za, .int .i64 ck, .string ct, .slice A n c, .int .i64 K, .string cn, .int .i64 cq, .bool cb]) := by rw [← hw1]; exact Has.new _ _ _
  go_enter Try.func25, Try.ntmps25
  go_wp2_with fail
  go_ret3
  exact pout_same HF.out HB.out 0
set_option maxHeartbeats 2000000 in
theorem begin_any {b : Nat} {w : World} {lim num : Int} {E : List Ev} {F : List Nat} (h : BufAt b w lim num E F) (hl : 1 ≤ lim) (r : Er) (hr : r.ok w) :
    Calls Try.prog 21 #[.pointer (some ⟨b, 0, none⟩), r.val] w fun e w' => POut b w lim F (if num = -1 then (r.x.n, E, [], false, 0) else (num, E, [], false, 14)) e w' := by
  have HF := Lib.hid h
  obtain ⟨A0, n0, c0, HH, _⟩ := h.has
  clear h hr
  obtain ⟨⟨k, m, t, B, AA, ck, ct, L, K, ⟨cn, cq, cb⟩⟩, Ab, nb, zb, Aa, na, za, A, n, c⟩ := r
  unfold Er.val
  dsimp only
  obtain ⟨w1, hw1⟩ : ∃ W, w.alloc (.cells #[.int .i64 k, .int .i64 m, .string t, .slice Ab nb zb, .slice Aa na za, .int .i64 ck, .string ct, .slice A n c, .int .i64 K, .string cn, .int .i64 cq, .bool cb] 38) = W := ⟨_, rfl⟩
  have HB : Hid (Below w.heap.size w w1) := by rw [← hw1]; exact ((Below.refl w.heap.size w).alloc (Nat.le_refl _) (.cells #[.int .i64 k, .int .i64 m, .string t, .slice Ab nb zb, .slice Aa na za, .int .i64 ck, .string ct, .slice A n c, .int .i64 K, .string cn, .int .i64 cq, .bool cb] 38))
  have HE : Hid (Has w1 w.heap.size 38 #[.int .i64 k, .int .i64 m, .string t, .slice Ab nb zb, .slice Aa na za, .int .i64 ck, .string ct, .slice A n c, .int .i64 K, .string cn, .int .i64 cq, .bool cb]) := by rw [← hw1]; exact Has.new _ _ _
  have HO := Lib.hid (open_any (HF.out.below HB.out))
  have HH1 := Lib.hid (HH.out.below HB.out HH.out.lt)
  have y1 : w1.cell? ⟨w.heap.size, 1, none⟩ = some (.int .i64 m) := HE.out.cell 1
  have x1 : w1.cell? ⟨b, 1, none⟩ = some (.int .i64 num) := HH1.out.cell 1
  have f1 := HH1.out.free 1
  by_cases hn : num = -1
  · rw [if_pos hn]
    subst hn
    go_enter Try.func21, Try.ntmps21
    go_wp2_with fail
    refine HO.out.mono ?_
    rintro e w2 ⟨rfl, rfl⟩
    go_wp2_with fail
    obtain ⟨q1, q2⟩ := buf_num (HF.out.below HB.out) m
    go_ret3
    exact ⟨_, F, rfl, told_nil _ _, q1, (Tur.of_below HB.out).trans q2 (Fre.refl _ _), Fre.refl _ _⟩
  · rw [if_neg hn]
    have hq : (num != -1) = true := by simp; exact hn
    rw [hq] at HO
    clear hn hq
    go_enter Try.func21, Try.ntmps21
    go_wp2_with fail
    refine HO.out.mono ?_
    rintro e w2 ⟨rfl, rfl⟩
    go_wp2_with fail
    go_ret3
    exact pout_same HF.out HB.out 14
set_option maxHeartbeats 2000000 in
theorem commit_any {b : Nat} {w : World} {lim num : Int} {E : List Ev} {F : List Nat} (h : BufAt b w lim num E F) (hl : 1 ≤ lim) (r : Er) (hr : r.ok w) :
    Calls Try.prog 23 #[.pointer (some ⟨b, 0, none⟩), r.val] w fun e w' => POut b w lim F (if r.x.n = num then (-1, [], E, true, 0) else (num, E, [], false, 14)) e w' := by
  have HF := Lib.hid h
  have HR := Lib.hid hr
  have hbF := h.has2
  clear h hr
  by_cases hn : r.x.n = num
  · rw [if_pos hn]
    have HC := Lib.hid (fun (W : World) (hb : Below w.heap.size w W) => end_yes (HF.out.below hb) hl r hn)
    clear hn
    obtain ⟨⟨k, m, t, B, AA, ck, ct, L, K, ⟨cn, cq, cb⟩⟩, Ab, nb, zb, Aa, na, za, A, n, c⟩ := r
    unfold Er.val at HC ⊢
    dsimp only at HC ⊢
    obtain ⟨w1, hw1⟩ : ∃ W, w.alloc (.cells #[.int .i64 k, .int .i64 m, .string t, .slice Ab nb zb, .slice Aa na za, .int .i64 ck, .string ct, .slice A n c, .int .i64 K, .string cn, .int .i64 cq, .bool cb] 38) = W := ⟨_, rfl⟩
    have HB : Hid (Below w.heap.size w w1) := by rw [← hw1]; exact ((Below.refl w.heap.size w).alloc (Nat.le_refl _) (.cells #[.int .i64 k, .int .i64 m, .string t, .slice Ab nb zb, .slice Aa na za, .int .i64 ck, .string ct, .slice A n c, .int .i64 K, .string cn, .int .i64 cq, .bool cb] 38))
    have HE : Hid (Has w1 w.heap.size 38 #[.int .i64 k, .int .i64 m, .string t, .slice Ab nb zb, .slice Aa na za, .int .i64 ck, .string ct, .slice A n c, .int .i64 K, .string cn, .int .i64 cq, .bool cb]) := by rw [← hw1]; exact Has.new _ _ _
    have y0 := HE.out.cell 0
    have y1 := HE.out.cell 1
    have y2 := HE.out.cell 2
    have y3 := HE.out.cell 3
    have y4 := HE.out.cell 4
    have y5 := HE.out.cell 5
    have y6 := HE.out.cell 6
    have y7 := HE.out.cell 7
    have y8 := HE.out.cell 8
    have y9 := HE.out.cell 9
    have y10 := HE.out.cell 10
    have y11 := HE.out.cell 11
    simp only [List.getElem?_toArray, List.getElem?_cons_zero, List.getElem?_cons_succ] at y0 y1 y2 y3 y4 y5 y6 y7 y8 y9 y10 y11
    go_enter Try.func23, Try.ntmps23
    go_wp2_with fail
    refine (HC.out _ HB.out).mono ?_
    rintro e w2 ⟨A1, n1, c1, T, rfl, HT, HBf, HTu⟩
    go_wp2_with fail
    go_ret3
    have ht : Tur F w w2 := ((Tur.of_below (X := [b]) HB.out).trans HTu.out (Fre.refl _ _)).sub (fun x hx => by simp at hx; rw [hx]; exact hbF)
    refine ⟨_, [b], rfl, ?_, HBf, ht, fun x hx => .inl (by simp at hx; rw [hx]; exact hbF)⟩
    exact ⟨A1, n1, c1, T, rfl, by obtain ⟨A5, c5, e5, _⟩ := ownE_row HT.out.1; injection e5 with e5 e6; exact e6.symm, by obtain ⟨A5, c5, e5, _, _, h5, _⟩ := ownE_row HT.out.1; injection e5 with e5 e6; subst e5; exact h5, HT.out.2.1, HT.out.2.2.1, HT.out.2.2.2⟩
  · rw [if_neg hn]
    have HC := Lib.hid (fun (W : World) (hb : Below w.heap.size w W) => end_no (HF.out.below hb) r hn)
    clear hn
    obtain ⟨⟨k, m, t, B, AA, ck, ct, L, K, ⟨cn, cq, cb⟩⟩, Ab, nb, zb, Aa, na, za, A, n, c⟩ := r
    unfold Er.val at HC ⊢
    dsimp only at HC ⊢
    obtain ⟨w1, hw1⟩ : ∃ W, w.alloc (.cells #[.int .i64 k, .int .i64 m, .string t, .slice Ab nb zb, .slice Aa na za, .int .i64 ck, .string ct, .slice A n c, .int .i64 K, .string cn, .int .i64 cq, .bool cb] 38) = W := ⟨_, rfl⟩
    have HB : Hid (Below w.heap.size w w1) := by rw [← hw1]; exact ((Below.refl w.heap.size w).alloc (Nat.le_refl _) (.cells #[.int .i64 k, .int .i64 m, .string t, .slice Ab nb zb, .slice Aa na za, .int .i64 ck, .string ct, .slice A n c, .int .i64 K, .string cn, .int .i64 cq, .bool cb] 38))
    have HE : Hid (Has w1 w.heap.size 38 #[.int .i64 k, .int .i64 m, .string t, .slice Ab nb zb, .slice Aa na za, .int .i64 ck, .string ct, .slice A n c, .int .i64 K, .string cn, .int .i64 cq, .bool cb]) := by rw [← hw1]; exact Has.new _ _ _
    have y0 := HE.out.cell 0
    have y1 := HE.out.cell 1
    have y2 := HE.out.cell 2
    have y3 := HE.out.cell 3
    have y4 := HE.out.cell 4
    have y5 := HE.out.cell 5
    have y6 := HE.out.cell 6
    have y7 := HE.out.cell 7
    have y8 := HE.out.cell 8
    have y9 := HE.out.cell 9
    have y10 := HE.out.cell 10
    have y11 := HE.out.cell 11
    simp only [List.getElem?_toArray, List.getElem?_cons_zero, List.getElem?_cons_succ] at y0 y1 y2 y3 y4 y5 y6 y7 y8 y9 y10 y11
    go_enter Try.func23, Try.ntmps23
    go_wp2_with fail
    refine (HC.out _ HB.out).mono ?_
    rintro e w2 ⟨rfl, hb2⟩
    have HB2 := Lib.hid (HB.out.trans (hb2.out.mono HB.out.size))
    go_wp2_with fail
    go_ret3
    exact pout_same HF.out HB2.out 14
set_option maxHeartbeats 2000000 in
theorem abort_any {b : Nat} {w : World} {lim num : Int} {E : List Ev} {F : List Nat} (h : BufAt b w lim num E F) (hl : 1 ≤ lim) (r : Er) (hr : r.ok w) :
    Calls Try.prog 24 #[.pointer (some ⟨b, 0, none⟩), r.val] w fun e w' => POut b w lim F (if r.x.n = num then (-1, [], [], false, 0) else (num, E, [], false, 14)) e w' := by
  have HF := Lib.hid h
  have HR := Lib.hid hr
  have hbF := h.has2
  clear h hr
  by_cases hn : r.x.n = num
  · rw [if_pos hn]
    have HC := Lib.hid (fun (W : World) (hb : Below w.heap.size w W) => end_yes (HF.out.below hb) hl r hn)
    clear hn
    obtain ⟨⟨k, m, t, B, AA, ck, ct, L, K, ⟨cn, cq, cb⟩⟩, Ab, nb, zb, Aa, na, za, A, n, c⟩ := r
    unfold Er.val at HC ⊢
    dsimp only at HC ⊢
    obtain ⟨w1, hw1⟩ : ∃ W, w.alloc (.cells #[.int .i64 k, .int .i64 m, .string t, .slice Ab nb zb, .slice Aa na za, .int .i64 ck, .string ct, .slice A n c, .int .i64 K, .string cn, .int .i64 cq, .bool cb] 38) = W := ⟨_, rfl⟩
    have HB : Hid (Below w.heap.size w w1) := by rw [← hw1]; exact ((Below.refl w.heap.size w).alloc (Nat.le_refl _) (.cells #[.int .i64 k, .int .i64 m, .string t, .slice Ab nb zb, .slice Aa na za, .int .i64 ck, .string ct, .slice A n c, .int .i64 K, .string cn, .int .i64 cq, .bool cb] 38))
    have HE : Hid (Has w1 w.heap.size 38 #[.int .i64 k, .int .i64 m, .string t, .slice Ab nb zb, .slice Aa na za, .int .i64 ck, .string ct, .slice A n c, .int .i64 K, .string cn, .int .i64 cq, .bool cb]) := by rw [← hw1]; exact Has.new _ _ _
    have y0 := HE.out.cell 0
    have y1 := HE.out.cell 1
    have y2 := HE.out.cell 2
    have y3 := HE.out.cell 3
    have y4 := HE.out.cell 4
    have y5 := HE.out.cell 5
    have y6 := HE.out.cell 6
    have y7 := HE.out.cell 7
    have y8 := HE.out.cell 8
    have y9 := HE.out.cell 9
    have y10 := HE.out.cell 10
    have y11 := HE.out.cell 11
    simp only [List.getElem?_toArray, List.getElem?_cons_zero, List.getElem?_cons_succ] at y0 y1 y2 y3 y4 y5 y6 y7 y8 y9 y10 y11
    go_enter Try.func24, Try.ntmps24
    go_wp2_with fail
    refine (HC.out _ HB.out).mono ?_
    rintro e w2 ⟨A1, n1, c1, T, rfl, HT, HBf, HTu⟩
    go_wp2_with fail
    go_ret3
    have ht : Tur F w w2 := ((Tur.of_below (X := [b]) HB.out).trans HTu.out (Fre.refl _ _)).sub (fun x hx => by simp at hx; rw [hx]; exact hbF)
    refine ⟨_, [b], rfl, told_nil _ _, HBf, ht, fun x hx => .inl (by simp at hx; rw [hx]; exact hbF)⟩
  · rw [if_neg hn]
    have HC := Lib.hid (fun (W : World) (hb : Below w.heap.size w W) => end_no (HF.out.below hb) r hn)
    clear hn
    obtain ⟨⟨k, m, t, B, AA, ck, ct, L, K, ⟨cn, cq, cb⟩⟩, Ab, nb, zb, Aa, na, za, A, n, c⟩ := r
    unfold Er.val at HC ⊢
    dsimp only at HC ⊢
    obtain ⟨w1, hw1⟩ : ∃ W, w.alloc (.cells #[.int .i64 k, .int .i64 m, .string t, .slice Ab nb zb, .slice Aa na za, .int .i64 ck, .string ct, .slice A n c, .int .i64 K, .string cn, .int .i64 cq, .bool cb] 38) = W := ⟨_, rfl⟩
    have HB : Hid (Below w.heap.size w w1) := by rw [← hw1]; exact ((Below.refl w.heap.size w).alloc (Nat.le_refl _) (.cells #[.int .i64 k, .int .i64 m, .string t, .slice Ab nb zb, .slice Aa na za, .int .i64 ck, .string ct, .slice A n c, .int .i64 K, .string cn, .int .i64 cq, .bool cb] 38))
    have HE : Hid (Has w1 w.heap.size 38 #[.int .i64 k, .int .i64 m, .string t, .slice Ab nb zb, .slice Aa na za, .int .i64 ck, .string ct, .slice A n c, .int .i64 K, .string cn, .int .i64 cq, .bool cb]) := by rw [← hw1]; exact Has.new _ _ _
    have y0 := HE.out.cell 0
    have y1 := HE.out.cell 1
    have y2 := HE.out.cell 2
    have y3 := HE.out.cell 3
    have y4 := HE.out.cell 4
    have y5 := HE.out.cell 5
    have y6 := HE.out.cell 6
    have y7 := HE.out.cell 7
    have y8 := HE.out.cell 8
    have y9 := HE.out.cell 9
    have y10 := HE.out.cell 10
    have y11 := HE.out.cell 11
    simp only [List.getElem?_toArray, List.getElem?_cons_zero, List.getElem?_cons_succ] at y0 y1 y2 y3 y4 y5 y6 y7 y8 y9 y10 y11
    go_enter Try.func24, Try.ntmps24
    go_wp2_with fail
    refine (HC.out _ HB.out).mono ?_
    rintro e w2 ⟨rfl, hb2⟩
    have HB2 := Lib.hid (HB.out.trans (hb2.out.mono HB.out.size))
    go_wp2_with fail
    go_ret3
    exact pout_same HF.out HB2.out 14
end Go.Proofs.Ytjkmbggaoinkdaa
