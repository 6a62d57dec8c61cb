/-
  The document's New and Put.
-/
import Derived.Test.YtjkmbggaoinkdaaTbH
import Derived.Test.YtjkmbggaoinkdaaTbS
import Derived.Laws.ResultCell
namespace Go.Proofs.Ytjkmbggaoinkdaa
open Go.RowKit Go.Maps Dg
set_option maxRecDepth 100000
set_option linter.unusedVariables false
/-- What an event does to the document's buffer: the number and the events then; what is told. -/
def rputF (lim num : Int) (T : List Er) (r : Er) : Int × List Er × List Er × Bool × Int :=
  if r.x.k = 2 then (if 0 ≤ num then (num, T, [], false, 14) else (r.x.n, [], [], false, 0))
  else if r.x.k = 3 ∨ r.x.k = 4 ∨ r.x.k = 5 ∨ r.x.k = 6 then
    (if 0 ≤ num then (if lim ≤ (T.length : Int) then (num, T, [], false, 13) else (num, T ++ [r], [], false, 0)) else (num, T, [], false, 14))
  else if r.x.k = 7 then (if 0 ≤ num ∧ r.x.n = num then (-1, [], T, true, 0) else (num, T, [], false, 14))
  else if r.x.k = 8 then (if 0 ≤ num ∧ r.x.n = num then (-1, [], [], false, 0) else (num, T, [], false, 14))
  else (num, T, [], false, 0)
/-- Both buffers do the same. -/
theorem rput_put (lim num : Int) (T : List Er) (r : Er) (h : -1 ≤ num) (hn : 0 ≤ r.x.n) (he : num = -1 → T = []) :
    putF lim num (T.map Er.x) r.x = ((rputF lim num T r).1, (rputF lim num T r).2.1.map Er.x, (rputF lim num T r).2.2.1.map Er.x, (rputF lim num T r).2.2.2.1, (rputF lim num T r).2.2.2.2) ∧ -1 ≤ (rputF lim num T r).1 ∧ ((rputF lim num T r).1 = -1 → (rputF lim num T r).2.1 = []) := by
  unfold putF rputF
  by_cases h2 : r.x.k = 2
  · rw [if_pos h2, if_pos h2]
    by_cases h0 : num = -1
    · rw [if_pos h0, if_neg (by omega), he h0]
      exact ⟨rfl, by show -1 ≤ r.x.n; omega, fun _ => rfl⟩
    · rw [if_neg h0, if_pos (by omega)]
      exact ⟨rfl, h, he⟩
  · rw [if_neg h2, if_neg h2]
    by_cases h3 : r.x.k = 3 ∨ r.x.k = 4 ∨ r.x.k = 5 ∨ r.x.k = 6
    · rw [if_pos h3, if_pos h3]
      by_cases h0 : num = -1
      · rw [if_pos h0, if_neg (by omega)]
        exact ⟨rfl, h, he⟩
      · have hp : 0 ≤ num := by omega
        rw [if_neg h0, if_pos hp, List.length_map]
        by_cases hl : lim ≤ (T.length : Int)
        · rw [if_pos hl, if_pos hl]
          exact ⟨rfl, h, he⟩
        · rw [if_neg hl, if_neg hl]
          exact ⟨by simp, h, fun e => absurd e h0⟩
    · rw [if_neg h3, if_neg h3]
      by_cases h7 : r.x.k = 7
      · rw [if_pos h7, if_pos h7]
        by_cases hq : r.x.n = num
        · rw [if_pos hq, if_pos ⟨by omega, hq⟩]
          exact ⟨rfl, by show (-1 : Int) ≤ -1; omega, fun _ => rfl⟩
        · rw [if_neg hq, if_neg (fun e => hq e.2)]
          exact ⟨rfl, h, he⟩
      · rw [if_neg h7, if_neg h7]
        by_cases h8 : r.x.k = 8
        · rw [if_pos h8, if_pos h8]
          by_cases hq : r.x.n = num
          · rw [if_pos hq, if_pos ⟨by omega, hq⟩]
            exact ⟨rfl, by show (-1 : Int) ≤ -1; omega, fun _ => rfl⟩
          · rw [if_neg hq, if_neg (fun e => hq e.2)]
            exact ⟨rfl, h, he⟩
        · rw [if_neg h8, if_neg h8]
          exact ⟨rfl, h, he⟩
theorem rputF_len (lim num : Int) (T : List Er) (r : Er) : (rputF lim num T r).2.1.length ≤ T.length + 1 ∧ (rputF lim num T r).2.2.1.length ≤ T.length ∧ (∀ y ∈ (rputF lim num T r).2.1, y ∈ T ∨ y = r) ∧ (∀ y ∈ (rputF lim num T r).2.2.1, y ∈ T) := by
  unfold rputF
  repeat' split
  all_goals simp
  all_goals (try (intro y hy; first | exact .inl hy | (rcases hy with h | h <;> simp [h])))
def put3 (W : World) (g : Nat) (u0 u1 u2 : Value) : World := ((W.setCell ⟨g, 0, none⟩ u0).setCell ⟨g, 1, none⟩ u1).setCell ⟨g, 2, none⟩ u2
theorem put3_has {W : World} {g : Nat} {t : TypeId} {a0 a1 a2 : Value} (h : Has W g t #[a0, a1, a2]) (u0 u1 u2 : Value) : Has (put3 W g u0 u1 u2) g t #[u0, u1, u2] := ((h.put 0 u0).put 1 u1).put 2 u2
theorem put3_tur (W : World) (g : Nat) (u0 u1 u2 : Value) : Tur [g] W (put3 W g u0 u1 u2) :=
  ((Tur.setCell W (p := ⟨g, 0, none⟩) (by simp) u0).trans (Tur.setCell _ (p := ⟨g, 1, none⟩) (by simp) u1) (Fre.refl _ _)).trans (Tur.setCell _ (p := ⟨g, 2, none⟩) (by simp) u2) (Fre.refl _ _)
theorem res4 {fn : Func} {p u v x : Tmp} (h : fn.results = #[.cell p 26, .tmp u, .tmp v, .tmp x]) (w' : World) (g : Nat) (c0 c1 c2 : Value) (tmps : Array Value) (hp : tmps.getD p undef = .pointer (some ⟨g, 0, none⟩)) (hh : Has w' g 26 #[c0, c1, c2]) :
    (results fn tmps).run Try.prog w' = .ok (.tuple #[.agg #[c0, c1, c2], tmps.getD u undef, tmps.getD v undef, tmps.getD x undef]) w' := by
  have hp' : tmps[p]?.getD undef = .pointer (some ⟨g, 0, none⟩) := by simpa using hp
  simp only [results, h]
  simp [hp', asAddr, Result.andThen, run_loadVar_row w' g 26 26 #[c0, c1, c2] (0, 0) _ hh Try.underlying26 rfl (by kernel_rfl)]
/-- What the document's Put comes to. -/
def ROut (w : World) (A0 : Option Addr) (lim : Int) (o : Int × List Er × List Er × Bool × Int) (e : Ending) (w' : World) : Prop :=
  ∃ A1 n1 c1 A2 n2 c2, e = .returned (.tuple #[.agg #[.int .i64 lim, .int .i64 o.1, .slice A1 n1 c1], .slice A2 n2 c2, .bool o.2.2.2.1, .int .i64 o.2.2.2.2]) ∧ Hid (o.2.1.length = n1 ∧ ERow w' A1 o.2.1 ∧ (A1 = none → c1 = 0)) ∧ Hid (o.2.2.1.length = n2 ∧ ERow w' A2 o.2.2.1) ∧ Hid (Below w.heap.size w w') ∧ Hid ((∀ a, A1 = some a → A0 = some a ∨ (w.heap.size ≤ a.block ∧ a.block < w'.heap.size)) ∧ ∀ a, A2 = some a → A0 = some a)
set_option maxHeartbeats 2000000 in
theorem rnew_any (lim : Int) (w : World) :
    Calls Try.prog 9 #[.int .i64 lim] w fun e w' => e = .returned (.agg #[.int .i64 (max lim 1), .int .i64 (-1), .slice none 0 0]) ∧ Hid (Below w.heap.size w w') := by
  obtain ⟨w1, hw1⟩ : ∃ W, W = w.alloc (.cells #[.int .i64 0, .int .i64 0, .slice none 0 0] 26) := ⟨_, rfl⟩
  have HB : Hid (Below w.heap.size w w1) := by rw [hw1]; exact (Below.refl w.heap.size w).alloc (Nat.le_refl _) _
  have HR : Hid (Has w1 w.heap.size 26 #[.int .i64 0, .int .i64 0, .slice none 0 0]) := by rw [hw1]; exact Has.new _ _ _
  replace hw1 := hw1.symm
  have v0 := HR.out.cell 0
  have g0 := HR.out.free 0
  have v1 := HR.out.cell 1
  have g1 := HR.out.free 1
  have v2 := HR.out.cell 2
  have g2 := HR.out.free 2
  simp only [List.getElem?_toArray, List.getElem?_cons_zero, List.getElem?_cons_succ] at v0 v1 v2
  by_cases hl : lim < 1
  · have h1 : max lim 1 = 1 := by omega
    rw [h1]
    go_enter Try.func9, Try.ntmps9
    go_wp2_with fail
    have HF := Lib.hid (put3_has HR.out (.int .i64 1) (.int .i64 (-1)) (.slice none 0 0))
    have ht := put3_tur w1 w.heap.size (.int .i64 1) (.int .i64 (-1)) (.slice none 0 0)
    have hbe := ((Tur.of_below (X := [w.heap.size]) HB.out).trans ht (Fre.refl _ _)).below (B := w.heap.size) (fun k hk => by simp at hk; omega) (Nat.le_refl _)
    exact bodyPost_ret (v := .agg #[.int .i64 1, .int .i64 (-1), .slice none 0 0]) (results_cell_row rfl _ _ w.heap.size 26 _ (0, 0) _ rfl HF.out Try.underlying26 rfl (by kernel_rfl)) rfl ⟨rfl, hbe⟩
  · have h1 : max lim 1 = lim := by omega
    rw [h1]
    go_enter Try.func9, Try.ntmps9
    go_wp2_with fail
    have HF := Lib.hid (put3_has HR.out (.int .i64 lim) (.int .i64 (-1)) (.slice none 0 0))
    have ht := put3_tur w1 w.heap.size (.int .i64 lim) (.int .i64 (-1)) (.slice none 0 0)
    have hbe := ((Tur.of_below (X := [w.heap.size]) HB.out).trans ht (Fre.refl _ _)).below (B := w.heap.size) (fun k hk => by simp at hk; omega) (Nat.le_refl _)
    exact bodyPost_ret (v := .agg #[.int .i64 lim, .int .i64 (-1), .slice none 0 0]) (results_cell_row rfl _ _ w.heap.size 26 _ (0, 0) _ rfl HF.out Try.underlying26 rfl (by kernel_rfl)) rfl ⟨rfl, hbe⟩
set_option maxHeartbeats 8000000 in
theorem rput12_any (lim num : Int) (A0 : Option Addr) (n0 c0 : Nat) (T : List Er) (r : Er) (w : World) (hT : T.length = n0) (hA : ERow w A0 T) (hz : A0 = none → c0 = 0) (hfew : n0 ≤ 1000) :
    Calls Try.prog 13 #[.agg #[.int .i64 lim, .int .i64 num, .slice A0 n0 c0], r.val] w fun e w' => ROut w A0 lim (rputF lim num T r) e w' := by
  have HT : Hid (T.length = n0 ∧ ERow w A0 T ∧ (A0 = none → c0 = 0)) := ⟨hT, hA, hz⟩
  clear hT hA hz
  obtain ⟨⟨k, m, t, B, AA, ck, ct, L, K, ⟨cn, cq, cb⟩⟩, Ab, nb, zb, Aa, na, za, A, n, c⟩ := r
  unfold Er.val
  dsimp only
  obtain ⟨w1, hw1⟩ : ∃ W, W = ((w.alloc (.cells #[.int .i64 lim, .int .i64 num, .slice A0 n0 c0] 26)).alloc (.cells #[.int .i64 k, .int .i64 m, .string t, .slice Ab nb zb, .slice Aa na za, .int .i64 ck, .string ct, .slice A n c, .int .i64 K, .string cn, .int .i64 cq, .bool cb] 38)).alloc (.cells #[.int .i64 0, .int .i64 0, .slice none 0 0] 26) := ⟨_, rfl⟩
  have h1 : Has w1 w.heap.size 26 #[.int .i64 lim, .int .i64 num, .slice A0 n0 c0] := by rw [hw1]; exact ((Has.new _ _ _).alloc _).alloc _
  have h2 : Has w1 (w.heap.size + 1) 38 #[.int .i64 k, .int .i64 m, .string t, .slice Ab nb zb, .slice Aa na za, .int .i64 ck, .string ct, .slice A n c, .int .i64 K, .string cn, .int .i64 cq, .bool cb] := by
    have q := Has.new (w.alloc (.cells #[.int .i64 lim, .int .i64 num, .slice A0 n0 c0] 26)) 38 #[.int .i64 k, .int .i64 m, .string t, .slice Ab nb zb, .slice Aa na za, .int .i64 ck, .string ct, .slice A n c, .int .i64 K, .string cn, .int .i64 cq, .bool cb]
    rw [World.size_alloc] at q
    rw [hw1]; exact q.alloc _
  have h3 : Has w1 (w.heap.size + 2) 26 #[.int .i64 0, .int .i64 0, .slice none 0 0] := by
    have q := Has.new ((w.alloc (.cells #[.int .i64 lim, .int .i64 num, .slice A0 n0 c0] 26)).alloc (.cells #[.int .i64 k, .int .i64 m, .string t, .slice Ab nb zb, .slice Aa na za, .int .i64 ck, .string ct, .slice A n c, .int .i64 K, .string cn, .int .i64 cq, .bool cb] 38)) 26 #[.int .i64 0, .int .i64 0, .slice none 0 0]
    rw [World.size_alloc, World.size_alloc] at q
    rw [hw1]; exact q
  have hs1 : w1.heap.size = w.heap.size + 3 := by rw [hw1]; simp
  have hb1 : Below w.heap.size w w1 := by rw [hw1]; exact (((Below.refl w.heap.size w).alloc (Nat.le_refl _) _).alloc (by simp) _).alloc (by simp; omega) _
  obtain ⟨w1a, hw1a⟩ : ∃ W, W = w1.alloc (.cells #[.int .i64 0, .int .i64 0, .slice none 0 0] 26) := ⟨_, rfl⟩
  have h4 : Has w1a (w.heap.size + 3) 26 #[.int .i64 0, .int .i64 0, .slice none 0 0] := by rw [hw1a, ← hs1]; exact Has.new _ _ _
  have hba : Below w1.heap.size w1 w1a := by rw [hw1a]; exact (Below.refl _ _).alloc (Nat.le_refl _) _
  obtain ⟨w2, hw2⟩ : ∃ W, W = put3 w1a (w.heap.size + 3) (.int .i64 lim) (.int .i64 (-1)) (.slice none 0 0) := ⟨_, rfl⟩
  have ht2 : Tur [w.heap.size + 3] w1a w2 := by rw [hw2]; exact put3_tur _ _ _ _ _
  have HE0 : Hid (Has w2 (w.heap.size + 3) 26 #[.int .i64 lim, .int .i64 (-1), .slice none 0 0]) := by rw [hw2]; exact put3_has h4 _ _ _
  have HB0 : Hid (Has w2 w.heap.size 26 #[.int .i64 lim, .int .i64 num, .slice A0 n0 c0]) := (h1.below hba h1.lt).tur ht2 (by simp)
  have HV0 : Hid (Has w2 (w.heap.size + 1) 38 #[.int .i64 k, .int .i64 m, .string t, .slice Ab nb zb, .slice Aa na za, .int .i64 ck, .string ct, .slice A n c, .int .i64 K, .string cn, .int .i64 cq, .bool cb]) := (h2.below hba h2.lt).tur ht2 (by simp)
  have HR2 : Hid (Has w2 (w.heap.size + 2) 26 #[.int .i64 0, .int .i64 0, .slice none 0 0]) := (h3.below hba h3.lt).tur ht2 (by simp)
  have HB2 : Hid (Below w.heap.size w w2) := ((Tur.of_below (X := [w.heap.size + 3]) (hb1.trans (hba.mono hb1.size))).trans ht2 (Fre.refl _ _)).below (B := w.heap.size) (fun k hk => by simp at hk; omega) (Nat.le_refl _)
  have b0 : w1.cell? ⟨w.heap.size, 0, none⟩ = some (.int .i64 lim) := h1.cell 0
  have b1 : w1.cell? ⟨w.heap.size, 1, none⟩ = some (.int .i64 num) := h1.cell 1
  have f0 := h4.cell 0
  have f1 := h4.cell 1
  have f2 := h4.cell 2
  have k0 := h4.free 0
  have k1 := h4.free 1
  have k2 := h4.free 2
  have p0 := HB0.out.cell 0
  have p1 := HB0.out.cell 1
  have p2 := HB0.out.cell 2
  have v0 := HR2.out.cell 0
  have v1 := HR2.out.cell 1
  have v2 := HR2.out.cell 2
  have g0 := HR2.out.free 0
  have g1 := HR2.out.free 1
  have g2 := HR2.out.free 2
  have z0 := HE0.out.cell 0
  have z1 := HE0.out.cell 1
  have z2 := HE0.out.cell 2
  have y0 := HV0.out.cell 0
  have y1 := HV0.out.cell 1
  simp only [List.getElem?_toArray, List.getElem?_cons_zero, List.getElem?_cons_succ] at f0 f1 f2 p0 p1 p2 v0 v1 v2 z0 z1 z2 y0 y1
  have hsz : w1.heap.size = w.heap.size + 3 := hs1
  have hw1' := hw1.symm
  have hw1a' := hw1a.symm
  have hw2' : ((w1a.setCell ⟨w.heap.size + 3, 0, none⟩ (.int .i64 lim)).setCell ⟨w.heap.size + 3, 1, none⟩ (.int .i64 (-1))).setCell ⟨w.heap.size + 3, 2, none⟩ (.slice none 0 0) = w2 := hw2.symm
  clear h1 h2 h3 h4 hs1 hb1 hba ht2 hw1 hw1a hw2
  by_cases hnum : 0 ≤ num
  · by_cases hc : k = 2 ∨ k = 3 ∨ k = 4 ∨ k = 5 ∨ k = 6 ∨ k = 7 ∨ k = 8
    · rcases hc with rfl | hc
      · rw [show rputF lim num T ⟨⟨2, m, t, B, AA, ck, ct, L, K, ⟨cn, cq, cb⟩⟩, Ab, nb, zb, Aa, na, za, A, n, c⟩ = (num, T, [], false, 14) by unfold rputF; simp [hnum]]
        go_enter Try.func13, Try.ntmps13
        go_wp2_with fail
        have HF := Lib.hid (put3_has HR2.out (.int .i64 lim) (.int .i64 num) (.slice A0 n0 c0))
        have ht := put3_tur w2 (w.heap.size + 2) (.int .i64 lim) (.int .i64 num) (.slice A0 n0 c0)
        have hbe : Below w.heap.size w (put3 w2 (w.heap.size + 2) (.int .i64 lim) (.int .i64 num) (.slice A0 n0 c0)) := ((Tur.of_below (X := [w.heap.size + 2]) HB2.out).trans ht (Fre.refl _ _)).below (B := w.heap.size) (fun k hk => by simp at hk; omega) (Nat.le_refl _)
        refine bodyPost_ret (res4 rfl _ (w.heap.size + 2) _ _ _ _ rfl HF.out) rfl ?_
        exact ⟨_, _, _, _, _, _, rfl, ⟨HT.out.1, HT.out.2.1.below hbe, HT.out.2.2⟩, ⟨rfl, ERow.nil _ _⟩, hbe, (fun a e => .inl e), fun a e => (by cases e)⟩
      · by_cases hc2 : k = 3 ∨ k = 4 ∨ k = 5 ∨ k = 6
        · by_cases hlm : lim ≤ (n0 : Int)
          · rw [show rputF lim num T ⟨⟨k, m, t, B, AA, ck, ct, L, K, ⟨cn, cq, cb⟩⟩, Ab, nb, zb, Aa, na, za, A, n, c⟩ = (num, T, [], false, 13) by unfold rputF; rw [HT.out.1]; rcases hc2 with rfl | rfl | rfl | rfl <;> simp [hnum, hlm]]
            clear hc
            rcases hc2 with rfl | rfl | rfl | rfl
            all_goals
              go_enter Try.func13, Try.ntmps13
              go_wp2_with fail
              have HF := Lib.hid (put3_has HR2.out (.int .i64 lim) (.int .i64 num) (.slice A0 n0 c0))
              have ht := put3_tur w2 (w.heap.size + 2) (.int .i64 lim) (.int .i64 num) (.slice A0 n0 c0)
              have hbe : Below w.heap.size w (put3 w2 (w.heap.size + 2) (.int .i64 lim) (.int .i64 num) (.slice A0 n0 c0)) := ((Tur.of_below (X := [w.heap.size + 2]) HB2.out).trans ht (Fre.refl _ _)).below (B := w.heap.size) (fun k hk => by simp at hk; omega) (Nat.le_refl _)
              refine bodyPost_ret (res4 rfl _ (w.heap.size + 2) _ _ _ _ rfl HF.out) rfl ?_
              exact ⟨_, _, _, _, _, _, rfl, ⟨HT.out.1, HT.out.2.1.below hbe, HT.out.2.2⟩, ⟨rfl, ERow.nil _ _⟩, hbe, (fun a e => .inl e), fun a e => (by cases e)⟩
          · rw [show rputF lim num T ⟨⟨k, m, t, B, AA, ck, ct, L, K, ⟨cn, cq, cb⟩⟩, Ab, nb, zb, Aa, na, za, A, n, c⟩ = (num, T ++ [⟨⟨k, m, t, B, AA, ck, ct, L, K, ⟨cn, cq, cb⟩⟩, Ab, nb, zb, Aa, na, za, A, n, c⟩], [], false, 0) by unfold rputF; rw [HT.out.1]; rcases hc2 with rfl | rfl | rfl | rfl <;> simp [hnum, hlm]]
            clear hc
            rcases hc2 with rfl | rfl | rfl | rfl
            · have HA1 := Lib.hid (appEs w2 w2.heap.size (.slice none 0 0) [] A0 n0 c0 T (ownE_nil _ _) (Nat.le_refl _) HT.out.1 (HT.out.2.1.below HB2.out) HT.out.2.2 (by simp; omega))
              obtain ⟨R1, W1, hrun1, ho1, ht1, hq1⟩ := HA1.out
              obtain ⟨A1, n1, c1, rfl, hn1, hnc1, hcm1, hrr1, hzz1, hgg1⟩ := ownE_open ho1
              have HRUN1 := Lib.hid hrun1
              have hb1 : Below w2.heap.size w2 W1 := ht1.below (fun k hk => by cases hk) (Nat.le_refl _)
              have HB0w := Lib.hid (HB0.out.below hb1 HB0.out.lt)
              have HV0w := Lib.hid (HV0.out.below hb1 HV0.out.lt)
              have HR2w := Lib.hid (HR2.out.below hb1 HR2.out.lt)
              have HB2w := Lib.hid (HB2.out.trans (hb1.mono HB2.out.size))
              have h3w : w.heap.size + 3 < w2.heap.size := HE0.out.lt
              have HOW := Lib.hid (show OwnE w2.heap.size W1 (.slice A1 n1 c1) ([] ++ T) from ho1)
              have HT1 : Hid (([] ++ T).length ≤ 1000000) := by show _ ≤ _; simp; have := HT.out.1; omega
              have hsz1 := hb1.size
              clear HA1 ho1 ht1 hq1 hn1 hnc1 hcm1 hrr1 hzz1 hgg1 hrun1
              go_enter Try.func13, Try.ntmps13
              go_wp2_with (at_builtin; refine wpList_app rfl _ _ 22 22 rfl (.slice none 0 0) (.slice A0 n0 c0) rfl rfl ⟨_, W1, HRUN1.out, ?_⟩)
              refine wp_region_held_drew (S := (fun X => X.cell? ⟨w.heap.size, 0, none⟩ = some (.int .i64 lim) ∧ X.cell? ⟨w.heap.size, 1, none⟩ = some (.int .i64 num) ∧ X.cell? ⟨w.heap.size + 1, 0, none⟩ = some (.int .i64 3) ∧ X.cell? ⟨w.heap.size + 1, 1, none⟩ = some (.int .i64 m) ∧ X.cell? ⟨w.heap.size + 1, 2, none⟩ = some (.string t) ∧ X.cell? ⟨w.heap.size + 1, 3, none⟩ = some (.slice Ab nb zb) ∧ X.cell? ⟨w.heap.size + 1, 4, none⟩ = some (.slice Aa na za) ∧ X.cell? ⟨w.heap.size + 1, 5, none⟩ = some (.int .i64 ck) ∧ X.cell? ⟨w.heap.size + 1, 6, none⟩ = some (.string ct) ∧ X.cell? ⟨w.heap.size + 1, 7, none⟩ = some (.slice A n c) ∧ X.cell? ⟨w.heap.size + 1, 8, none⟩ = some (.int .i64 K) ∧ X.cell? ⟨w.heap.size + 1, 9, none⟩ = some (.string cn) ∧ X.cell? ⟨w.heap.size + 1, 10, none⟩ = some (.int .i64 cq) ∧ X.cell? ⟨w.heap.size + 1, 11, none⟩ = some (.bool cb))) (by kernel_rfl) ⟨HB0w.out.cell 0, HB0w.out.cell 1, HV0w.out.cell 0, HV0w.out.cell 1, HV0w.out.cell 2, HV0w.out.cell 3, HV0w.out.cell 4, HV0w.out.cell 5, HV0w.out.cell 6, HV0w.out.cell 7, HV0w.out.cell 8, HV0w.out.cell 9, HV0w.out.cell 10, HV0w.out.cell 11⟩ (fun _ => ?_)
              (refine wpAnyH_take (i := 0) (v := ?_) rfl (by kernel_rfl) (by kernel_rfl) (by kernel_rfl) (fun _ _ _ h => h) (Or.inl ⟨by rfl, ?_⟩) (by assumption) ?_; rotate_left; (intro w hSw; (try dsimp only at hSw); go_simp; try with_reducible rfl); ((try simp only [List.getElem_toArray]); (try simp only [List.getElem_cons_succ]); (try simp only [List.getElem_cons_zero]); (try simp only [Act.put]); (try simp only [List.setIfInBounds_toArray]); (try simp only [List.set_cons_succ]); (try simp only [List.set_cons_zero])))
              (refine wpAnyH_take (i := 1) (v := ?_) rfl (by kernel_rfl) (by kernel_rfl) (by kernel_rfl) (fun _ _ _ h => h) (Or.inl ⟨by rfl, ?_⟩) (by assumption) ?_; rotate_left; (intro w hSw; (try dsimp only at hSw); go_simp; try with_reducible rfl); ((try simp only [List.getElem_toArray]); (try simp only [List.getElem_cons_succ]); (try simp only [List.getElem_cons_zero]); (try simp only [Act.put]); (try simp only [List.setIfInBounds_toArray]); (try simp only [List.set_cons_succ]); (try simp only [List.set_cons_zero])))
              (refine wpAnyH_take (i := 2) (v := ?_) rfl (by kernel_rfl) (by kernel_rfl) (by kernel_rfl) (fun _ _ _ h => h) (Or.inl ⟨by rfl, ?_⟩) (by assumption) ?_; rotate_left; (intro w hSw; (try dsimp only at hSw); go_simp; try with_reducible rfl); ((try simp only [List.getElem_toArray]); (try simp only [List.getElem_cons_succ]); (try simp only [List.getElem_cons_zero]); (try simp only [Act.put]); (try simp only [List.setIfInBounds_toArray]); (try simp only [List.set_cons_succ]); (try simp only [List.set_cons_zero])))
              (refine wpAnyH_take (i := 3) (v := ?_) rfl (by kernel_rfl) (by kernel_rfl) (by kernel_rfl) (fun _ _ _ h => h) (Or.inl ⟨by rfl, ?_⟩) (by assumption) ?_; rotate_left; (intro w hSw; (try dsimp only at hSw); go_simp; try with_reducible rfl); ((try simp only [List.getElem_toArray]); (try simp only [List.getElem_cons_succ]); (try simp only [List.getElem_cons_zero]); (try simp only [Act.put]); (try simp only [List.setIfInBounds_toArray]); (try simp only [List.set_cons_succ]); (try simp only [List.set_cons_zero])))
              (refine wpAnyH_take (i := 4) (v := ?_) rfl (by kernel_rfl) (by kernel_rfl) (by kernel_rfl) (fun _ _ _ h => h) (Or.inl ⟨by rfl, ?_⟩) (by assumption) ?_; rotate_left; (intro w hSw; (try dsimp only at hSw); go_simp; try with_reducible rfl); ((try simp only [List.getElem_toArray]); (try simp only [List.getElem_cons_succ]); (try simp only [List.getElem_cons_zero]); (try simp only [Act.put]); (try simp only [List.setIfInBounds_toArray]); (try simp only [List.set_cons_succ]); (try simp only [List.set_cons_zero])))
              (refine wpAnyH_take (i := 5) (v := ?_) rfl (by kernel_rfl) (by kernel_rfl) (by kernel_rfl) (fun _ _ _ h => h) (Or.inl ⟨by rfl, ?_⟩) (by assumption) ?_; rotate_left; (intro w hSw; (try dsimp only at hSw); go_simp; try with_reducible rfl); ((try simp only [List.getElem_toArray]); (try simp only [List.getElem_cons_succ]); (try simp only [List.getElem_cons_zero]); (try simp only [Act.put]); (try simp only [List.setIfInBounds_toArray]); (try simp only [List.set_cons_succ]); (try simp only [List.set_cons_zero])))
              have HZ := Lib.hid (show Has ((W1.drew).alloc (.cells #[.int .i64 3, .int .i64 m, .string t, .slice Ab nb zb, .slice Aa na za, .int .i64 ck, .string ct, .slice A n c, .int .i64 K, .string cn, .int .i64 cq, .bool cb] 38)) (w.heap.size + 1) 38 #[.int .i64 3, .int .i64 m, .string t, .slice Ab nb zb, .slice Aa na za, .int .i64 ck, .string ct, .slice A n c, .int .i64 K, .string cn, .int .i64 cq, .bool cb] from (show Has W1.drew (w.heap.size + 1) 38 #[.int .i64 3, .int .i64 m, .string t, .slice Ab nb zb, .slice Aa na za, .int .i64 ck, .string ct, .slice A n c, .int .i64 K, .string cn, .int .i64 cq, .bool cb] from HV0w.out).alloc _)
              have HZb := Lib.hid (show Has ((W1.drew).alloc (.cells #[.int .i64 3, .int .i64 m, .string t, .slice Ab nb zb, .slice Aa na za, .int .i64 ck, .string ct, .slice A n c, .int .i64 K, .string cn, .int .i64 cq, .bool cb] 38)) w.heap.size 26 #[.int .i64 lim, .int .i64 num, .slice A0 n0 c0] from (show Has W1.drew w.heap.size 26 #[.int .i64 lim, .int .i64 num, .slice A0 n0 c0] from HB0w.out).alloc _)
              refine wpAnyH_ready (rs := [6]) (by kernel_rfl) (by simp) ?_
              refine AllReadyH.cons rfl (fun K2 hK2 => ?_) AllReadyH.nil
              go_simp
              refine hK2.out _ _ (by (try dsimp only); exact ⟨HZb.out.cell 0, HZb.out.cell 1, HZ.out.cell 0, HZ.out.cell 1, HZ.out.cell 2, HZ.out.cell 3, HZ.out.cell 4, HZ.out.cell 5, HZ.out.cell 6, HZ.out.cell 7, HZ.out.cell 8, HZ.out.cell 9, HZ.out.cell 10, HZ.out.cell 11⟩) (fun _ => ?_)
              clear hK2 K2
              (try simp only [List.getElem_toArray]); (try simp only [List.getElem_cons_succ]); (try simp only [List.getElem_cons_zero]); (try simp only [Act.put]); (try simp only [List.setIfInBounds_toArray]); (try simp only [List.set_cons_succ]); (try simp only [List.set_cons_zero])
              have HA2 := Lib.hid (appE W1.drew W1.drew.heap.size rfl w2.heap.size (.slice A1 n1 c1) ([] ++ T) ⟨⟨3, m, t, B, AA, ck, ct, L, K, ⟨cn, cq, cb⟩⟩, Ab, nb, zb, Aa, na, za, A, n, c⟩ (show OwnE w2.heap.size W1.drew (.slice A1 n1 c1) ([] ++ T) from HOW.out) hsz1 HT1.out)
              obtain ⟨R2, W2, hrun2, ho2, ht2, hq2⟩ := HA2.out
              obtain ⟨A2, n2, c2, rfl, hn2, hnc2, hcm2, hrr2, hzz2, hgg2⟩ := ownE_open ho2
              have hb2 : Below w2.heap.size W1 W2 := (show Tur _ W1 W2 from ⟨ht2.os, ht2.tape, ht2.output, ht2.size, ht2.block⟩).below (fun k hk => (World.ownsRow.lt HOW.out k (by simpa using hk)).1) hsz1
              have HB0x := Lib.hid (HB0w.out.below hb2 HB0.out.lt)
              have HV0x := Lib.hid (HV0w.out.below hb2 HV0.out.lt)
              have HR2x := Lib.hid (HR2w.out.below hb2 HR2.out.lt)
              have HB2x := Lib.hid (HB2w.out.trans (hb2.mono HB2.out.size))
              refine wpAnyH_ready (rs := [7]) (by kernel_rfl) (by simp) ?_
              refine AllReadyH.cons rfl (fun K2 hK2 => ?_) (AllReadyH.nil)
              refine wstep_app (by rfl) _ _ _ _ (by rfl) (.slice A1 n1 c1) (.slice (some ⟨W1.drew.heap.size, 0, none⟩) 1 1) (by rfl) (by rfl) ⟨_, W2, hrun2, ?_⟩
              refine hK2.out _ _ (by (try dsimp only); exact ⟨HB0x.out.cell 0, HB0x.out.cell 1, HV0x.out.cell 0, HV0x.out.cell 1, HV0x.out.cell 2, HV0x.out.cell 3, HV0x.out.cell 4, HV0x.out.cell 5, HV0x.out.cell 6, HV0x.out.cell 7, HV0x.out.cell 8, HV0x.out.cell 9, HV0x.out.cell 10, HV0x.out.cell 11⟩) (fun _ => ?_)
              clear hK2 K2
              (try simp only [List.getElem_toArray]); (try simp only [List.getElem_cons_succ]); (try simp only [List.getElem_cons_zero]); (try simp only [Act.put]); (try simp only [List.setIfInBounds_toArray]); (try simp only [List.set_cons_succ]); (try simp only [List.set_cons_zero])
              (refine wpAnyH_take (i := 8) (v := ?_) rfl (by kernel_rfl) (by kernel_rfl) (by kernel_rfl) (fun _ _ _ h => h) (Or.inl ⟨by rfl, ?_⟩) (by assumption) ?_; rotate_left; (intro w hSw; (try dsimp only at hSw); go_simp; try with_reducible rfl); ((try simp only [List.getElem_toArray]); (try simp only [List.getElem_cons_succ]); (try simp only [List.getElem_cons_zero]); (try simp only [Act.put]); (try simp only [List.setIfInBounds_toArray]); (try simp only [List.set_cons_succ]); (try simp only [List.set_cons_zero])))
              have d0 := HR2x.out.cell 0
              have d1 := HR2x.out.cell 1
              have d2 := HR2x.out.cell 2
              have e0 := HR2x.out.free 0
              have e1 := HR2x.out.free 1
              have e2 := HR2x.out.free 2
              simp only [List.getElem?_toArray, List.getElem?_cons_zero, List.getElem?_cons_succ] at d0 d1 d2
              have HF := Lib.hid (put3_has HR2x.out (.int .i64 lim) (.int .i64 num) (.slice A2 n2 c2))
              have ht := put3_tur W2 (w.heap.size + 2) (.int .i64 lim) (.int .i64 num) (.slice A2 n2 c2)
              have hbe : Below w.heap.size w (put3 W2 (w.heap.size + 2) (.int .i64 lim) (.int .i64 num) (.slice A2 n2 c2)) := ((Tur.of_below (X := [w.heap.size + 2]) HB2x.out).trans ht (Fre.refl _ _)).below (B := w.heap.size) (fun k hk => by simp at hk; omega) (Nat.le_refl _)
              have HXb := Lib.hid (HB0x.out.tur ht (by simp))
              have HXv := Lib.hid (HV0x.out.tur ht (by simp))
              have hre : ERow (put3 W2 (w.heap.size + 2) (.int .i64 lim) (.int .i64 num) (.slice A2 n2 c2)) A2 ([] ++ T ++ [⟨⟨3, m, t, B, AA, ck, ct, L, K, ⟨cn, cq, cb⟩⟩, Ab, nb, zb, Aa, na, za, A, n, c⟩]) := hrr2.out.tur ht (fun a e hh => by have := (hgg2.out a e).2.1; simp at hh; omega)
              refine wpAnyH_ready (rs := [9]) (by kernel_rfl) (by simp) ?_
              refine AllReadyH.cons rfl (fun K2 hK2 => ?_) (AllReadyH.nil)
              go_simp
              refine hK2.out _ _ (by (try dsimp only); exact ⟨HXb.out.cell 0, HXb.out.cell 1, HXv.out.cell 0, HXv.out.cell 1, HXv.out.cell 2, HXv.out.cell 3, HXv.out.cell 4, HXv.out.cell 5, HXv.out.cell 6, HXv.out.cell 7, HXv.out.cell 8, HXv.out.cell 9, HXv.out.cell 10, HXv.out.cell 11⟩) (fun _ => ?_)
              clear hK2 K2
              (try simp only [List.getElem_toArray]); (try simp only [List.getElem_cons_succ]); (try simp only [List.getElem_cons_zero]); (try simp only [Act.put]); (try simp only [List.setIfInBounds_toArray]); (try simp only [List.set_cons_succ]); (try simp only [List.set_cons_zero])
              (refine wpAnyH_take (i := 10) (v := ?_) rfl (by kernel_rfl) (by kernel_rfl) (by kernel_rfl) (fun _ _ _ h => h) (Or.inl ⟨by rfl, ?_⟩) (by assumption) ?_; rotate_left; (intro w hSw; (try dsimp only at hSw); go_simp; try with_reducible rfl); ((try simp only [List.getElem_toArray]); (try simp only [List.getElem_cons_succ]); (try simp only [List.getElem_cons_zero]); (try simp only [Act.put]); (try simp only [List.setIfInBounds_toArray]); (try simp only [List.set_cons_succ]); (try simp only [List.set_cons_zero])))
              (refine wpAnyH_take (i := 11) (v := ?_) rfl (by kernel_rfl) (by kernel_rfl) (by kernel_rfl) (fun _ _ _ h => h) (Or.inl ⟨by rfl, ?_⟩) (by assumption) ?_; rotate_left; (intro w hSw; (try dsimp only at hSw); go_simp; try with_reducible rfl); ((try simp only [List.getElem_toArray]); (try simp only [List.getElem_cons_succ]); (try simp only [List.getElem_cons_zero]); (try simp only [Act.put]); (try simp only [List.setIfInBounds_toArray]); (try simp only [List.set_cons_succ]); (try simp only [List.set_cons_zero])))
              (refine wpAnyH_take (i := 12) (v := ?_) rfl (by kernel_rfl) (by kernel_rfl) (by kernel_rfl) (fun _ _ _ h => h) (Or.inl ⟨by rfl, ?_⟩) (by assumption) ?_; rotate_left; (intro w hSw; (try dsimp only at hSw); go_simp; try with_reducible rfl); ((try simp only [List.getElem_toArray]); (try simp only [List.getElem_cons_succ]); (try simp only [List.getElem_cons_zero]); (try simp only [Act.put]); (try simp only [List.setIfInBounds_toArray]); (try simp only [List.set_cons_succ]); (try simp only [List.set_cons_zero])))
              refine wpAnyH_done (by kernel_rfl) ?_ _
              clear d0 d1 d2 e0 e1 e2
              go_wp2_with fail
              refine bodyPost_ret (res4 rfl _ (w.heap.size + 2) _ _ _ _ rfl HF.out) rfl ?_
              rw [List.nil_append] at hre hn2
              exact ⟨_, _, _, _, _, _, rfl, ⟨hn2.out, hre, hzz2.out⟩, ⟨rfl, ERow.nil _ _⟩, hbe, (fun a e => .inr ⟨by have q1 := (hgg2.out a e).2.1; have q2 := HB2.out.size; omega, Nat.lt_of_lt_of_le (hgg2.out a e).2.2 ht.size⟩), fun a e => (by cases e)⟩
            · have HA1 := Lib.hid (appEs w2 w2.heap.size (.slice none 0 0) [] A0 n0 c0 T (ownE_nil _ _) (Nat.le_refl _) HT.out.1 (HT.out.2.1.below HB2.out) HT.out.2.2 (by simp; omega))
              obtain ⟨R1, W1, hrun1, ho1, ht1, hq1⟩ := HA1.out
              obtain ⟨A1, n1, c1, rfl, hn1, hnc1, hcm1, hrr1, hzz1, hgg1⟩ := ownE_open ho1
              have HRUN1 := Lib.hid hrun1
              have hb1 : Below w2.heap.size w2 W1 := ht1.below (fun k hk => by cases hk) (Nat.le_refl _)
              have HB0w := Lib.hid (HB0.out.below hb1 HB0.out.lt)
              have HV0w := Lib.hid (HV0.out.below hb1 HV0.out.lt)
              have HR2w := Lib.hid (HR2.out.below hb1 HR2.out.lt)
              have HB2w := Lib.hid (HB2.out.trans (hb1.mono HB2.out.size))
              have h3w : w.heap.size + 3 < w2.heap.size := HE0.out.lt
              have HOW := Lib.hid (show OwnE w2.heap.size W1 (.slice A1 n1 c1) ([] ++ T) from ho1)
              have HT1 : Hid (([] ++ T).length ≤ 1000000) := by show _ ≤ _; simp; have := HT.out.1; omega
              have hsz1 := hb1.size
              clear HA1 ho1 ht1 hq1 hn1 hnc1 hcm1 hrr1 hzz1 hgg1 hrun1
              go_enter Try.func13, Try.ntmps13
              go_wp2_with (at_builtin; refine wpList_app rfl _ _ 22 22 rfl (.slice none 0 0) (.slice A0 n0 c0) rfl rfl ⟨_, W1, HRUN1.out, ?_⟩)
              refine wp_region_held_drew (S := (fun X => X.cell? ⟨w.heap.size, 0, none⟩ = some (.int .i64 lim) ∧ X.cell? ⟨w.heap.size, 1, none⟩ = some (.int .i64 num) ∧ X.cell? ⟨w.heap.size + 1, 0, none⟩ = some (.int .i64 4) ∧ X.cell? ⟨w.heap.size + 1, 1, none⟩ = some (.int .i64 m) ∧ X.cell? ⟨w.heap.size + 1, 2, none⟩ = some (.string t) ∧ X.cell? ⟨w.heap.size + 1, 3, none⟩ = some (.slice Ab nb zb) ∧ X.cell? ⟨w.heap.size + 1, 4, none⟩ = some (.slice Aa na za) ∧ X.cell? ⟨w.heap.size + 1, 5, none⟩ = some (.int .i64 ck) ∧ X.cell? ⟨w.heap.size + 1, 6, none⟩ = some (.string ct) ∧ X.cell? ⟨w.heap.size + 1, 7, none⟩ = some (.slice A n c) ∧ X.cell? ⟨w.heap.size + 1, 8, none⟩ = some (.int .i64 K) ∧ X.cell? ⟨w.heap.size + 1, 9, none⟩ = some (.string cn) ∧ X.cell? ⟨w.heap.size + 1, 10, none⟩ = some (.int .i64 cq) ∧ X.cell? ⟨w.heap.size + 1, 11, none⟩ = some (.bool cb))) (by kernel_rfl) ⟨HB0w.out.cell 0, HB0w.out.cell 1, HV0w.out.cell 0, HV0w.out.cell 1, HV0w.out.cell 2, HV0w.out.cell 3, HV0w.out.cell 4, HV0w.out.cell 5, HV0w.out.cell 6, HV0w.out.cell 7, HV0w.out.cell 8, HV0w.out.cell 9, HV0w.out.cell 10, HV0w.out.cell 11⟩ (fun _ => ?_)
              (refine wpAnyH_take (i := 0) (v := ?_) rfl (by kernel_rfl) (by kernel_rfl) (by kernel_rfl) (fun _ _ _ h => h) (Or.inl ⟨by rfl, ?_⟩) (by assumption) ?_; rotate_left; (intro w hSw; (try dsimp only at hSw); go_simp; try with_reducible rfl); ((try simp only [List.getElem_toArray]); (try simp only [List.getElem_cons_succ]); (try simp only [List.getElem_cons_zero]); (try simp only [Act.put]); (try simp only [List.setIfInBounds_toArray]); (try simp only [List.set_cons_succ]); (try simp only [List.set_cons_zero])))
              (refine wpAnyH_take (i := 1) (v := ?_) rfl (by kernel_rfl) (by kernel_rfl) (by kernel_rfl) (fun _ _ _ h => h) (Or.inl ⟨by rfl, ?_⟩) (by assumption) ?_; rotate_left; (intro w hSw; (try dsimp only at hSw); go_simp; try with_reducible rfl); ((try simp only [List.getElem_toArray]); (try simp only [List.getElem_cons_succ]); (try simp only [List.getElem_cons_zero]); (try simp only [Act.put]); (try simp only [List.setIfInBounds_toArray]); (try simp only [List.set_cons_succ]); (try simp only [List.set_cons_zero])))
              (refine wpAnyH_take (i := 2) (v := ?_) rfl (by kernel_rfl) (by kernel_rfl) (by kernel_rfl) (fun _ _ _ h => h) (Or.inl ⟨by rfl, ?_⟩) (by assumption) ?_; rotate_left; (intro w hSw; (try dsimp only at hSw); go_simp; try with_reducible rfl); ((try simp only [List.getElem_toArray]); (try simp only [List.getElem_cons_succ]); (try simp only [List.getElem_cons_zero]); (try simp only [Act.put]); (try simp only [List.setIfInBounds_toArray]); (try simp only [List.set_cons_succ]); (try simp only [List.set_cons_zero])))
              (refine wpAnyH_take (i := 3) (v := ?_) rfl (by kernel_rfl) (by kernel_rfl) (by kernel_rfl) (fun _ _ _ h => h) (Or.inl ⟨by rfl, ?_⟩) (by assumption) ?_; rotate_left; (intro w hSw; (try dsimp only at hSw); go_simp; try with_reducible rfl); ((try simp only [List.getElem_toArray]); (try simp only [List.getElem_cons_succ]); (try simp only [List.getElem_cons_zero]); (try simp only [Act.put]); (try simp only [List.setIfInBounds_toArray]); (try simp only [List.set_cons_succ]); (try simp only [List.set_cons_zero])))
              (refine wpAnyH_take (i := 4) (v := ?_) rfl (by kernel_rfl) (by kernel_rfl) (by kernel_rfl) (fun _ _ _ h => h) (Or.inl ⟨by rfl, ?_⟩) (by assumption) ?_; rotate_left; (intro w hSw; (try dsimp only at hSw); go_simp; try with_reducible rfl); ((try simp only [List.getElem_toArray]); (try simp only [List.getElem_cons_succ]); (try simp only [List.getElem_cons_zero]); (try simp only [Act.put]); (try simp only [List.setIfInBounds_toArray]); (try simp only [List.set_cons_succ]); (try simp only [List.set_cons_zero])))
              (refine wpAnyH_take (i := 5) (v := ?_) rfl (by kernel_rfl) (by kernel_rfl) (by kernel_rfl) (fun _ _ _ h => h) (Or.inl ⟨by rfl, ?_⟩) (by assumption) ?_; rotate_left; (intro w hSw; (try dsimp only at hSw); go_simp; try with_reducible rfl); ((try simp only [List.getElem_toArray]); (try simp only [List.getElem_cons_succ]); (try simp only [List.getElem_cons_zero]); (try simp only [Act.put]); (try simp only [List.setIfInBounds_toArray]); (try simp only [List.set_cons_succ]); (try simp only [List.set_cons_zero])))
              have HZ := Lib.hid (show Has ((W1.drew).alloc (.cells #[.int .i64 4, .int .i64 m, .string t, .slice Ab nb zb, .slice Aa na za, .int .i64 ck, .string ct, .slice A n c, .int .i64 K, .string cn, .int .i64 cq, .bool cb] 38)) (w.heap.size + 1) 38 #[.int .i64 4, .int .i64 m, .string t, .slice Ab nb zb, .slice Aa na za, .int .i64 ck, .string ct, .slice A n c, .int .i64 K, .string cn, .int .i64 cq, .bool cb] from (show Has W1.drew (w.heap.size + 1) 38 #[.int .i64 4, .int .i64 m, .string t, .slice Ab nb zb, .slice Aa na za, .int .i64 ck, .string ct, .slice A n c, .int .i64 K, .string cn, .int .i64 cq, .bool cb] from HV0w.out).alloc _)
              have HZb := Lib.hid (show Has ((W1.drew).alloc (.cells #[.int .i64 4, .int .i64 m, .string t, .slice Ab nb zb, .slice Aa na za, .int .i64 ck, .string ct, .slice A n c, .int .i64 K, .string cn, .int .i64 cq, .bool cb] 38)) w.heap.size 26 #[.int .i64 lim, .int .i64 num, .slice A0 n0 c0] from (show Has W1.drew w.heap.size 26 #[.int .i64 lim, .int .i64 num, .slice A0 n0 c0] from HB0w.out).alloc _)
              refine wpAnyH_ready (rs := [6]) (by kernel_rfl) (by simp) ?_
              refine AllReadyH.cons rfl (fun K2 hK2 => ?_) AllReadyH.nil
              go_simp
              refine hK2.out _ _ (by (try dsimp only); exact ⟨HZb.out.cell 0, HZb.out.cell 1, HZ.out.cell 0, HZ.out.cell 1, HZ.out.cell 2, HZ.out.cell 3, HZ.out.cell 4, HZ.out.cell 5, HZ.out.cell 6, HZ.out.cell 7, HZ.out.cell 8, HZ.out.cell 9, HZ.out.cell 10, HZ.out.cell 11⟩) (fun _ => ?_)
              clear hK2 K2
              (try simp only [List.getElem_toArray]); (try simp only [List.getElem_cons_succ]); (try simp only [List.getElem_cons_zero]); (try simp only [Act.put]); (try simp only [List.setIfInBounds_toArray]); (try simp only [List.set_cons_succ]); (try simp only [List.set_cons_zero])
              have HA2 := Lib.hid (appE W1.drew W1.drew.heap.size rfl w2.heap.size (.slice A1 n1 c1) ([] ++ T) ⟨⟨4, m, t, B, AA, ck, ct, L, K, ⟨cn, cq, cb⟩⟩, Ab, nb, zb, Aa, na, za, A, n, c⟩ (show OwnE w2.heap.size W1.drew (.slice A1 n1 c1) ([] ++ T) from HOW.out) hsz1 HT1.out)
              obtain ⟨R2, W2, hrun2, ho2, ht2, hq2⟩ := HA2.out
              obtain ⟨A2, n2, c2, rfl, hn2, hnc2, hcm2, hrr2, hzz2, hgg2⟩ := ownE_open ho2
              have hb2 : Below w2.heap.size W1 W2 := (show Tur _ W1 W2 from ⟨ht2.os, ht2.tape, ht2.output, ht2.size, ht2.block⟩).below (fun k hk => (World.ownsRow.lt HOW.out k (by simpa using hk)).1) hsz1
              have HB0x := Lib.hid (HB0w.out.below hb2 HB0.out.lt)
              have HV0x := Lib.hid (HV0w.out.below hb2 HV0.out.lt)
              have HR2x := Lib.hid (HR2w.out.below hb2 HR2.out.lt)
              have HB2x := Lib.hid (HB2w.out.trans (hb2.mono HB2.out.size))
              refine wpAnyH_ready (rs := [7]) (by kernel_rfl) (by simp) ?_
              refine AllReadyH.cons rfl (fun K2 hK2 => ?_) (AllReadyH.nil)
              refine wstep_app (by rfl) _ _ _ _ (by rfl) (.slice A1 n1 c1) (.slice (some ⟨W1.drew.heap.size, 0, none⟩) 1 1) (by rfl) (by rfl) ⟨_, W2, hrun2, ?_⟩
              refine hK2.out _ _ (by (try dsimp only); exact ⟨HB0x.out.cell 0, HB0x.out.cell 1, HV0x.out.cell 0, HV0x.out.cell 1, HV0x.out.cell 2, HV0x.out.cell 3, HV0x.out.cell 4, HV0x.out.cell 5, HV0x.out.cell 6, HV0x.out.cell 7, HV0x.out.cell 8, HV0x.out.cell 9, HV0x.out.cell 10, HV0x.out.cell 11⟩) (fun _ => ?_)
              clear hK2 K2
              (try simp only [List.getElem_toArray]); (try simp only [List.getElem_cons_succ]); (try simp only [List.getElem_cons_zero]); (try simp only [Act.put]); (try simp only [List.setIfInBounds_toArray]); (try simp only [List.set_cons_succ]); (try simp only [List.set_cons_zero])
              (refine wpAnyH_take (i := 8) (v := ?_) rfl (by kernel_rfl) (by kernel_rfl) (by kernel_rfl) (fun _ _ _ h => h) (Or.inl ⟨by rfl, ?_⟩) (by assumption) ?_; rotate_left; (intro w hSw; (try dsimp only at hSw); go_simp; try with_reducible rfl); ((try simp only [List.getElem_toArray]); (try simp only [List.getElem_cons_succ]); (try simp only [List.getElem_cons_zero]); (try simp only [Act.put]); (try simp only [List.setIfInBounds_toArray]); (try simp only [List.set_cons_succ]); (try simp only [List.set_cons_zero])))
              have d0 := HR2x.out.cell 0
              have d1 := HR2x.out.cell 1
              have d2 := HR2x.out.cell 2
              have e0 := HR2x.out.free 0
              have e1 := HR2x.out.free 1
              have e2 := HR2x.out.free 2
              simp only [List.getElem?_toArray, List.getElem?_cons_zero, List.getElem?_cons_succ] at d0 d1 d2
              have HF := Lib.hid (put3_has HR2x.out (.int .i64 lim) (.int .i64 num) (.slice A2 n2 c2))
              have ht := put3_tur W2 (w.heap.size + 2) (.int .i64 lim) (.int .i64 num) (.slice A2 n2 c2)
              have hbe : Below w.heap.size w (put3 W2 (w.heap.size + 2) (.int .i64 lim) (.int .i64 num) (.slice A2 n2 c2)) := ((Tur.of_below (X := [w.heap.size + 2]) HB2x.out).trans ht (Fre.refl _ _)).below (B := w.heap.size) (fun k hk => by simp at hk; omega) (Nat.le_refl _)
              have HXb := Lib.hid (HB0x.out.tur ht (by simp))
              have HXv := Lib.hid (HV0x.out.tur ht (by simp))
              have hre : ERow (put3 W2 (w.heap.size + 2) (.int .i64 lim) (.int .i64 num) (.slice A2 n2 c2)) A2 ([] ++ T ++ [⟨⟨4, m, t, B, AA, ck, ct, L, K, ⟨cn, cq, cb⟩⟩, Ab, nb, zb, Aa, na, za, A, n, c⟩]) := hrr2.out.tur ht (fun a e hh => by have := (hgg2.out a e).2.1; simp at hh; omega)
              refine wpAnyH_ready (rs := [9]) (by kernel_rfl) (by simp) ?_
              refine AllReadyH.cons rfl (fun K2 hK2 => ?_) (AllReadyH.nil)
              go_simp
              refine hK2.out _ _ (by (try dsimp only); exact ⟨HXb.out.cell 0, HXb.out.cell 1, HXv.out.cell 0, HXv.out.cell 1, HXv.out.cell 2, HXv.out.cell 3, HXv.out.cell 4, HXv.out.cell 5, HXv.out.cell 6, HXv.out.cell 7, HXv.out.cell 8, HXv.out.cell 9, HXv.out.cell 10, HXv.out.cell 11⟩) (fun _ => ?_)
              clear hK2 K2
              (try simp only [List.getElem_toArray]); (try simp only [List.getElem_cons_succ]); (try simp only [List.getElem_cons_zero]); (try simp only [Act.put]); (try simp only [List.setIfInBounds_toArray]); (try simp only [List.set_cons_succ]); (try simp only [List.set_cons_zero])
              (refine wpAnyH_take (i := 10) (v := ?_) rfl (by kernel_rfl) (by kernel_rfl) (by kernel_rfl) (fun _ _ _ h => h) (Or.inl ⟨by rfl, ?_⟩) (by assumption) ?_; rotate_left; (intro w hSw; (try dsimp only at hSw); go_simp; try with_reducible rfl); ((try simp only [List.getElem_toArray]); (try simp only [List.getElem_cons_succ]); (try simp only [List.getElem_cons_zero]); (try simp only [Act.put]); (try simp only [List.setIfInBounds_toArray]); (try simp only [List.set_cons_succ]); (try simp only [List.set_cons_zero])))
              (refine wpAnyH_take (i := 11) (v := ?_) rfl (by kernel_rfl) (by kernel_rfl) (by kernel_rfl) (fun _ _ _ h => h) (Or.inl ⟨by rfl, ?_⟩) (by assumption) ?_; rotate_left; (intro w hSw; (try dsimp only at hSw); go_simp; try with_reducible rfl); ((try simp only [List.getElem_toArray]); (try simp only [List.getElem_cons_succ]); (try simp only [List.getElem_cons_zero]); (try simp only [Act.put]); (try simp only [List.setIfInBounds_toArray]); (try simp only [List.set_cons_succ]); (try simp only [List.set_cons_zero])))
              (refine wpAnyH_take (i := 12) (v := ?_) rfl (by kernel_rfl) (by kernel_rfl) (by kernel_rfl) (fun _ _ _ h => h) (Or.inl ⟨by rfl, ?_⟩) (by assumption) ?_; rotate_left; (intro w hSw; (try dsimp only at hSw); go_simp; try with_reducible rfl); ((try simp only [List.getElem_toArray]); (try simp only [List.getElem_cons_succ]); (try simp only [List.getElem_cons_zero]); (try simp only [Act.put]); (try simp only [List.setIfInBounds_toArray]); (try simp only [List.set_cons_succ]); (try simp only [List.set_cons_zero])))
              refine wpAnyH_done (by kernel_rfl) ?_ _
              clear d0 d1 d2 e0 e1 e2
              go_wp2_with fail
              refine bodyPost_ret (res4 rfl _ (w.heap.size + 2) _ _ _ _ rfl HF.out) rfl ?_
              rw [List.nil_append] at hre hn2
              exact ⟨_, _, _, _, _, _, rfl, ⟨hn2.out, hre, hzz2.out⟩, ⟨rfl, ERow.nil _ _⟩, hbe, (fun a e => .inr ⟨by have q1 := (hgg2.out a e).2.1; have q2 := HB2.out.size; omega, Nat.lt_of_lt_of_le (hgg2.out a e).2.2 ht.size⟩), fun a e => (by cases e)⟩
            · have HA1 := Lib.hid (appEs w2 w2.heap.size (.slice none 0 0) [] A0 n0 c0 T (ownE_nil _ _) (Nat.le_refl _) HT.out.1 (HT.out.2.1.below HB2.out) HT.out.2.2 (by simp; omega))
              obtain ⟨R1, W1, hrun1, ho1, ht1, hq1⟩ := HA1.out
              obtain ⟨A1, n1, c1, rfl, hn1, hnc1, hcm1, hrr1, hzz1, hgg1⟩ := ownE_open ho1
              have HRUN1 := Lib.hid hrun1
              have hb1 : Below w2.heap.size w2 W1 := ht1.below (fun k hk => by cases hk) (Nat.le_refl _)
              have HB0w := Lib.hid (HB0.out.below hb1 HB0.out.lt)
              have HV0w := Lib.hid (HV0.out.below hb1 HV0.out.lt)
              have HR2w := Lib.hid (HR2.out.below hb1 HR2.out.lt)
              have HB2w := Lib.hid (HB2.out.trans (hb1.mono HB2.out.size))
              have h3w : w.heap.size + 3 < w2.heap.size := HE0.out.lt
              have HOW := Lib.hid (show OwnE w2.heap.size W1 (.slice A1 n1 c1) ([] ++ T) from ho1)
              have HT1 : Hid (([] ++ T).length ≤ 1000000) := by show _ ≤ _; simp; have := HT.out.1; omega
              have hsz1 := hb1.size
              clear HA1 ho1 ht1 hq1 hn1 hnc1 hcm1 hrr1 hzz1 hgg1 hrun1
              go_enter Try.func13, Try.ntmps13
              go_wp2_with (at_builtin; refine wpList_app rfl _ _ 22 22 rfl (.slice none 0 0) (.slice A0 n0 c0) rfl rfl ⟨_, W1, HRUN1.out, ?_⟩)
              refine wp_region_held_drew (S := (fun X => X.cell? ⟨w.heap.size, 0, none⟩ = some (.int .i64 lim) ∧ X.cell? ⟨w.heap.size, 1, none⟩ = some (.int .i64 num) ∧ X.cell? ⟨w.heap.size + 1, 0, none⟩ = some (.int .i64 5) ∧ X.cell? ⟨w.heap.size + 1, 1, none⟩ = some (.int .i64 m) ∧ X.cell? ⟨w.heap.size + 1, 2, none⟩ = some (.string t) ∧ X.cell? ⟨w.heap.size + 1, 3, none⟩ = some (.slice Ab nb zb) ∧ X.cell? ⟨w.heap.size + 1, 4, none⟩ = some (.slice Aa na za) ∧ X.cell? ⟨w.heap.size + 1, 5, none⟩ = some (.int .i64 ck) ∧ X.cell? ⟨w.heap.size + 1, 6, none⟩ = some (.string ct) ∧ X.cell? ⟨w.heap.size + 1, 7, none⟩ = some (.slice A n c) ∧ X.cell? ⟨w.heap.size + 1, 8, none⟩ = some (.int .i64 K) ∧ X.cell? ⟨w.heap.size + 1, 9, none⟩ = some (.string cn) ∧ X.cell? ⟨w.heap.size + 1, 10, none⟩ = some (.int .i64 cq) ∧ X.cell? ⟨w.heap.size + 1, 11, none⟩ = some (.bool cb))) (by kernel_rfl) ⟨HB0w.out.cell 0, HB0w.out.cell 1, HV0w.out.cell 0, HV0w.out.cell 1, HV0w.out.cell 2, HV0w.out.cell 3, HV0w.out.cell 4, HV0w.out.cell 5, HV0w.out.cell 6, HV0w.out.cell 7, HV0w.out.cell 8, HV0w.out.cell 9, HV0w.out.cell 10, HV0w.out.cell 11⟩ (fun _ => ?_)
              (refine wpAnyH_take (i := 0) (v := ?_) rfl (by kernel_rfl) (by kernel_rfl) (by kernel_rfl) (fun _ _ _ h => h) (Or.inl ⟨by rfl, ?_⟩) (by assumption) ?_; rotate_left; (intro w hSw; (try dsimp only at hSw); go_simp; try with_reducible rfl); ((try simp only [List.getElem_toArray]); (try simp only [List.getElem_cons_succ]); (try simp only [List.getElem_cons_zero]); (try simp only [Act.put]); (try simp only [List.setIfInBounds_toArray]); (try simp only [List.set_cons_succ]); (try simp only [List.set_cons_zero])))
              (refine wpAnyH_take (i := 1) (v := ?_) rfl (by kernel_rfl) (by kernel_rfl) (by kernel_rfl) (fun _ _ _ h => h) (Or.inl ⟨by rfl, ?_⟩) (by assumption) ?_; rotate_left; (intro w hSw; (try dsimp only at hSw); go_simp; try with_reducible rfl); ((try simp only [List.getElem_toArray]); (try simp only [List.getElem_cons_succ]); (try simp only [List.getElem_cons_zero]); (try simp only [Act.put]); (try simp only [List.setIfInBounds_toArray]); (try simp only [List.set_cons_succ]); (try simp only [List.set_cons_zero])))
              (refine wpAnyH_take (i := 2) (v := ?_) rfl (by kernel_rfl) (by kernel_rfl) (by kernel_rfl) (fun _ _ _ h => h) (Or.inl ⟨by rfl, ?_⟩) (by assumption) ?_; rotate_left; (intro w hSw; (try dsimp only at hSw); go_simp; try with_reducible rfl); ((try simp only [List.getElem_toArray]); (try simp only [List.getElem_cons_succ]); (try simp only [List.getElem_cons_zero]); (try simp only [Act.put]); (try simp only [List.setIfInBounds_toArray]); (try simp only [List.set_cons_succ]); (try simp only [List.set_cons_zero])))
              (refine wpAnyH_take (i := 3) (v := ?_) rfl (by kernel_rfl) (by kernel_rfl) (by kernel_rfl) (fun _ _ _ h => h) (Or.inl ⟨by rfl, ?_⟩) (by assumption) ?_; rotate_left; (intro w hSw; (try dsimp only at hSw); go_simp; try with_reducible rfl); ((try simp only [List.getElem_toArray]); (try simp only [List.getElem_cons_succ]); (try simp only [List.getElem_cons_zero]); (try simp only [Act.put]); (try simp only [List.setIfInBounds_toArray]); (try simp only [List.set_cons_succ]); (try simp only [List.set_cons_zero])))
              (refine wpAnyH_take (i := 4) (v := ?_) rfl (by kernel_rfl) (by kernel_rfl) (by kernel_rfl) (fun _ _ _ h => h) (Or.inl ⟨by rfl, ?_⟩) (by assumption) ?_; rotate_left; (intro w hSw; (try dsimp only at hSw); go_simp; try with_reducible rfl); ((try simp only [List.getElem_toArray]); (try simp only [List.getElem_cons_succ]); (try simp only [List.getElem_cons_zero]); (try simp only [Act.put]); (try simp only [List.setIfInBounds_toArray]); (try simp only [List.set_cons_succ]); (try simp only [List.set_cons_zero])))
              (refine wpAnyH_take (i := 5) (v := ?_) rfl (by kernel_rfl) (by kernel_rfl) (by kernel_rfl) (fun _ _ _ h => h) (Or.inl ⟨by rfl, ?_⟩) (by assumption) ?_; rotate_left; (intro w hSw; (try dsimp only at hSw); go_simp; try with_reducible rfl); ((try simp only [List.getElem_toArray]); (try simp only [List.getElem_cons_succ]); (try simp only [List.getElem_cons_zero]); (try simp only [Act.put]); (try simp only [List.setIfInBounds_toArray]); (try simp only [List.set_cons_succ]); (try simp only [List.set_cons_zero])))
              have HZ := Lib.hid (show Has ((W1.drew).alloc (.cells #[.int .i64 5, .int .i64 m, .string t, .slice Ab nb zb, .slice Aa na za, .int .i64 ck, .string ct, .slice A n c, .int .i64 K, .string cn, .int .i64 cq, .bool cb] 38)) (w.heap.size + 1) 38 #[.int .i64 5, .int .i64 m, .string t, .slice Ab nb zb, .slice Aa na za, .int .i64 ck, .string ct, .slice A n c, .int .i64 K, .string cn, .int .i64 cq, .bool cb] from (show Has W1.drew (w.heap.size + 1) 38 #[.int .i64 5, .int .i64 m, .string t, .slice Ab nb zb, .slice Aa na za, .int .i64 ck, .string ct, .slice A n c, .int .i64 K, .string cn, .int .i64 cq, .bool cb] from HV0w.out).alloc _)
              have HZb := Lib.hid (show Has ((W1.drew).alloc (.cells #[.int .i64 5, .int .i64 m, .string t, .slice Ab nb zb, .slice Aa na za, .int .i64 ck, .string ct, .slice A n c, .int .i64 K, .string cn, .int .i64 cq, .bool cb] 38)) w.heap.size 26 #[.int .i64 lim, .int .i64 num, .slice A0 n0 c0] from (show Has W1.drew w.heap.size 26 #[.int .i64 lim, .int .i64 num, .slice A0 n0 c0] from HB0w.out).alloc _)
              refine wpAnyH_ready (rs := [6]) (by kernel_rfl) (by simp) ?_
              refine AllReadyH.cons rfl (fun K2 hK2 => ?_) AllReadyH.nil
              go_simp
              refine hK2.out _ _ (by (try dsimp only); exact ⟨HZb.out.cell 0, HZb.out.cell 1, HZ.out.cell 0, HZ.out.cell 1, HZ.out.cell 2, HZ.out.cell 3, HZ.out.cell 4, HZ.out.cell 5, HZ.out.cell 6, HZ.out.cell 7, HZ.out.cell 8, HZ.out.cell 9, HZ.out.cell 10, HZ.out.cell 11⟩) (fun _ => ?_)
              clear hK2 K2
              (try simp only [List.getElem_toArray]); (try simp only [List.getElem_cons_succ]); (try simp only [List.getElem_cons_zero]); (try simp only [Act.put]); (try simp only [List.setIfInBounds_toArray]); (try simp only [List.set_cons_succ]); (try simp only [List.set_cons_zero])
              have HA2 := Lib.hid (appE W1.drew W1.drew.heap.size rfl w2.heap.size (.slice A1 n1 c1) ([] ++ T) ⟨⟨5, m, t, B, AA, ck, ct, L, K, ⟨cn, cq, cb⟩⟩, Ab, nb, zb, Aa, na, za, A, n, c⟩ (show OwnE w2.heap.size W1.drew (.slice A1 n1 c1) ([] ++ T) from HOW.out) hsz1 HT1.out)
              obtain ⟨R2, W2, hrun2, ho2, ht2, hq2⟩ := HA2.out
              obtain ⟨A2, n2, c2, rfl, hn2, hnc2, hcm2, hrr2, hzz2, hgg2⟩ := ownE_open ho2
              have hb2 : Below w2.heap.size W1 W2 := (show Tur _ W1 W2 from ⟨ht2.os, ht2.tape, ht2.output, ht2.size, ht2.block⟩).below (fun k hk => (World.ownsRow.lt HOW.out k (by simpa using hk)).1) hsz1
              have HB0x := Lib.hid (HB0w.out.below hb2 HB0.out.lt)
              have HV0x := Lib.hid (HV0w.out.below hb2 HV0.out.lt)
              have HR2x := Lib.hid (HR2w.out.below hb2 HR2.out.lt)
              have HB2x := Lib.hid (HB2w.out.trans (hb2.mono HB2.out.size))
              refine wpAnyH_ready (rs := [7]) (by kernel_rfl) (by simp) ?_
              refine AllReadyH.cons rfl (fun K2 hK2 => ?_) (AllReadyH.nil)
              refine wstep_app (by rfl) _ _ _ _ (by rfl) (.slice A1 n1 c1) (.slice (some ⟨W1.drew.heap.size, 0, none⟩) 1 1) (by rfl) (by rfl) ⟨_, W2, hrun2, ?_⟩
              refine hK2.out _ _ (by (try dsimp only); exact ⟨HB0x.out.cell 0, HB0x.out.cell 1, HV0x.out.cell 0, HV0x.out.cell 1, HV0x.out.cell 2, HV0x.out.cell 3, HV0x.out.cell 4, HV0x.out.cell 5, HV0x.out.cell 6, HV0x.out.cell 7, HV0x.out.cell 8, HV0x.out.cell 9, HV0x.out.cell 10, HV0x.out.cell 11⟩) (fun _ => ?_)
              clear hK2 K2
              (try simp only [List.getElem_toArray]); (try simp only [List.getElem_cons_succ]); (try simp only [List.getElem_cons_zero]); (try simp only [Act.put]); (try simp only [List.setIfInBounds_toArray]); (try simp only [List.set_cons_succ]); (try simp only [List.set_cons_zero])
              (refine wpAnyH_take (i := 8) (v := ?_) rfl (by kernel_rfl) (by kernel_rfl) (by kernel_rfl) (fun _ _ _ h => h) (Or.inl ⟨by rfl, ?_⟩) (by assumption) ?_; rotate_left; (intro w hSw; (try dsimp only at hSw); go_simp; try with_reducible rfl); ((try simp only [List.getElem_toArray]); (try simp only [List.getElem_cons_succ]); (try simp only [List.getElem_cons_zero]); (try simp only [Act.put]); (try simp only [List.setIfInBounds_toArray]); (try simp only [List.set_cons_succ]); (try simp only [List.set_cons_zero])))
              have d0 := HR2x.out.cell 0
              have d1 := HR2x.out.cell 1
              have d2 := HR2x.out.cell 2
              have e0 := HR2x.out.free 0
              have e1 := HR2x.out.free 1
              have e2 := HR2x.out.free 2
              simp only [List.getElem?_toArray, List.getElem?_cons_zero, List.getElem?_cons_succ] at d0 d1 d2
              have HF := Lib.hid (put3_has HR2x.out (.int .i64 lim) (.int .i64 num) (.slice A2 n2 c2))
              have ht := put3_tur W2 (w.heap.size + 2) (.int .i64 lim) (.int .i64 num) (.slice A2 n2 c2)
              have hbe : Below w.heap.size w (put3 W2 (w.heap.size + 2) (.int .i64 lim) (.int .i64 num) (.slice A2 n2 c2)) := ((Tur.of_below (X := [w.heap.size + 2]) HB2x.out).trans ht (Fre.refl _ _)).below (B := w.heap.size) (fun k hk => by simp at hk; omega) (Nat.le_refl _)
              have HXb := Lib.hid (HB0x.out.tur ht (by simp))
              have HXv := Lib.hid (HV0x.out.tur ht (by simp))
              have hre : ERow (put3 W2 (w.heap.size + 2) (.int .i64 lim) (.int .i64 num) (.slice A2 n2 c2)) A2 ([] ++ T ++ [⟨⟨5, m, t, B, AA, ck, ct, L, K, ⟨cn, cq, cb⟩⟩, Ab, nb, zb, Aa, na, za, A, n, c⟩]) := hrr2.out.tur ht (fun a e hh => by have := (hgg2.out a e).2.1; simp at hh; omega)
              refine wpAnyH_ready (rs := [9]) (by kernel_rfl) (by simp) ?_
              refine AllReadyH.cons rfl (fun K2 hK2 => ?_) (AllReadyH.nil)
              go_simp
              refine hK2.out _ _ (by (try dsimp only); exact ⟨HXb.out.cell 0, HXb.out.cell 1, HXv.out.cell 0, HXv.out.cell 1, HXv.out.cell 2, HXv.out.cell 3, HXv.out.cell 4, HXv.out.cell 5, HXv.out.cell 6, HXv.out.cell 7, HXv.out.cell 8, HXv.out.cell 9, HXv.out.cell 10, HXv.out.cell 11⟩) (fun _ => ?_)
              clear hK2 K2
              (try simp only [List.getElem_toArray]); (try simp only [List.getElem_cons_succ]); (try simp only [List.getElem_cons_zero]); (try simp only [Act.put]); (try simp only [List.setIfInBounds_toArray]); (try simp only [List.set_cons_succ]); (try simp only [List.set_cons_zero])
              (refine wpAnyH_take (i := 10) (v := ?_) rfl (by kernel_rfl) (by kernel_rfl) (by kernel_rfl) (fun _ _ _ h => h) (Or.inl ⟨by rfl, ?_⟩) (by assumption) ?_; rotate_left; (intro w hSw; (try dsimp only at hSw); go_simp; try with_reducible rfl); ((try simp only [List.getElem_toArray]); (try simp only [List.getElem_cons_succ]); (try simp only [List.getElem_cons_zero]); (try simp only [Act.put]); (try simp only [List.setIfInBounds_toArray]); (try simp only [List.set_cons_succ]); (try simp only [List.set_cons_zero])))
              (refine wpAnyH_take (i := 11) (v := ?_) rfl (by kernel_rfl) (by kernel_rfl) (by kernel_rfl) (fun _ _ _ h => h) (Or.inl ⟨by rfl, ?_⟩) (by assumption) ?_; rotate_left; (intro w hSw; (try dsimp only at hSw); go_simp; try with_reducible rfl); ((try simp only [List.getElem_toArray]); (try simp only [List.getElem_cons_succ]); (try simp only [List.getElem_cons_zero]); (try simp only [Act.put]); (try simp only [List.setIfInBounds_toArray]); (try simp only [List.set_cons_succ]); (try simp only [List.set_cons_zero])))
              (refine wpAnyH_take (i := 12) (v := ?_) rfl (by kernel_rfl) (by kernel_rfl) (by kernel_rfl) (fun _ _ _ h => h) (Or.inl ⟨by rfl, ?_⟩) (by assumption) ?_; rotate_left; (intro w hSw; (try dsimp only at hSw); go_simp; try with_reducible rfl); ((try simp only [List.getElem_toArray]); (try simp only [List.getElem_cons_succ]); (try simp only [List.getElem_cons_zero]); (try simp only [Act.put]); (try simp only [List.setIfInBounds_toArray]); (try simp only [List.set_cons_succ]); (try simp only [List.set_cons_zero])))
              refine wpAnyH_done (by kernel_rfl) ?_ _
              clear d0 d1 d2 e0 e1 e2
              go_wp2_with fail
              refine bodyPost_ret (res4 rfl _ (w.heap.size + 2) _ _ _ _ rfl HF.out) rfl ?_
              rw [List.nil_append] at hre hn2
              exact ⟨_, _, _, _, _, _, rfl, ⟨hn2.out, hre, hzz2.out⟩, ⟨rfl, ERow.nil _ _⟩, hbe, (fun a e => .inr ⟨by have q1 := (hgg2.out a e).2.1; have q2 := HB2.out.size; omega, Nat.lt_of_lt_of_le (hgg2.out a e).2.2 ht.size⟩), fun a e => (by cases e)⟩
            · have HA1 := Lib.hid (appEs w2 w2.heap.size (.slice none 0 0) [] A0 n0 c0 T (ownE_nil _ _) (Nat.le_refl _) HT.out.1 (HT.out.2.1.below HB2.out) HT.out.2.2 (by simp; omega))
              obtain ⟨R1, W1, hrun1, ho1, ht1, hq1⟩ := HA1.out
              obtain ⟨A1, n1, c1, rfl, hn1, hnc1, hcm1, hrr1, hzz1, hgg1⟩ := ownE_open ho1
              have HRUN1 := Lib.hid hrun1
              have hb1 : Below w2.heap.size w2 W1 := ht1.below (fun k hk => by cases hk) (Nat.le_refl _)
              have HB0w := Lib.hid (HB0.out.below hb1 HB0.out.lt)
              have HV0w := Lib.hid (HV0.out.below hb1 HV0.out.lt)
              have HR2w := Lib.hid (HR2.out.below hb1 HR2.out.lt)
              have HB2w := Lib.hid (HB2.out.trans (hb1.mono HB2.out.size))
              have h3w : w.heap.size + 3 < w2.heap.size := HE0.out.lt
              have HOW := Lib.hid (show OwnE w2.heap.size W1 (.slice A1 n1 c1) ([] ++ T) from ho1)
              have HT1 : Hid (([] ++ T).length ≤ 1000000) := by show _ ≤ _; simp; have := HT.out.1; omega
              have hsz1 := hb1.size
              clear HA1 ho1 ht1 hq1 hn1 hnc1 hcm1 hrr1 hzz1 hgg1 hrun1
              go_enter Try.func13, Try.ntmps13
              go_wp2_with (at_builtin; refine wpList_app rfl _ _ 22 22 rfl (.slice none 0 0) (.slice A0 n0 c0) rfl rfl ⟨_, W1, HRUN1.out, ?_⟩)
              refine wp_region_held_drew (S := (fun X => X.cell? ⟨w.heap.size, 0, none⟩ = some (.int .i64 lim) ∧ X.cell? ⟨w.heap.size, 1, none⟩ = some (.int .i64 num) ∧ X.cell? ⟨w.heap.size + 1, 0, none⟩ = some (.int .i64 6) ∧ X.cell? ⟨w.heap.size + 1, 1, none⟩ = some (.int .i64 m) ∧ X.cell? ⟨w.heap.size + 1, 2, none⟩ = some (.string t) ∧ X.cell? ⟨w.heap.size + 1, 3, none⟩ = some (.slice Ab nb zb) ∧ X.cell? ⟨w.heap.size + 1, 4, none⟩ = some (.slice Aa na za) ∧ X.cell? ⟨w.heap.size + 1, 5, none⟩ = some (.int .i64 ck) ∧ X.cell? ⟨w.heap.size + 1, 6, none⟩ = some (.string ct) ∧ X.cell? ⟨w.heap.size + 1, 7, none⟩ = some (.slice A n c) ∧ X.cell? ⟨w.heap.size + 1, 8, none⟩ = some (.int .i64 K) ∧ X.cell? ⟨w.heap.size + 1, 9, none⟩ = some (.string cn) ∧ X.cell? ⟨w.heap.size + 1, 10, none⟩ = some (.int .i64 cq) ∧ X.cell? ⟨w.heap.size + 1, 11, none⟩ = some (.bool cb))) (by kernel_rfl) ⟨HB0w.out.cell 0, HB0w.out.cell 1, HV0w.out.cell 0, HV0w.out.cell 1, HV0w.out.cell 2, HV0w.out.cell 3, HV0w.out.cell 4, HV0w.out.cell 5, HV0w.out.cell 6, HV0w.out.cell 7, HV0w.out.cell 8, HV0w.out.cell 9, HV0w.out.cell 10, HV0w.out.cell 11⟩ (fun _ => ?_)
              (refine wpAnyH_take (i := 0) (v := ?_) rfl (by kernel_rfl) (by kernel_rfl) (by kernel_rfl) (fun _ _ _ h => h) (Or.inl ⟨by rfl, ?_⟩) (by assumption) ?_; rotate_left; (intro w hSw; (try dsimp only at hSw); go_simp; try with_reducible rfl); ((try simp only [List.getElem_toArray]); (try simp only [List.getElem_cons_succ]); (try simp only [List.getElem_cons_zero]); (try simp only [Act.put]); (try simp only [List.setIfInBounds_toArray]); (try simp only [List.set_cons_succ]); (try simp only [List.set_cons_zero])))
              (refine wpAnyH_take (i := 1) (v := ?_) rfl (by kernel_rfl) (by kernel_rfl) (by kernel_rfl) (fun _ _ _ h => h) (Or.inl ⟨by rfl, ?_⟩) (by assumption) ?_; rotate_left; (intro w hSw; (try dsimp only at hSw); go_simp; try with_reducible rfl); ((try simp only [List.getElem_toArray]); (try simp only [List.getElem_cons_succ]); (try simp only [List.getElem_cons_zero]); (try simp only [Act.put]); (try simp only [List.setIfInBounds_toArray]); (try simp only [List.set_cons_succ]); (try simp only [List.set_cons_zero])))
              (refine wpAnyH_take (i := 2) (v := ?_) rfl (by kernel_rfl) (by kernel_rfl) (by kernel_rfl) (fun _ _ _ h => h) (Or.inl ⟨by rfl, ?_⟩) (by assumption) ?_; rotate_left; (intro w hSw; (try dsimp only at hSw); go_simp; try with_reducible rfl); ((try simp only [List.getElem_toArray]); (try simp only [List.getElem_cons_succ]); (try simp only [List.getElem_cons_zero]); (try simp only [Act.put]); (try simp only [List.setIfInBounds_toArray]); (try simp only [List.set_cons_succ]); (try simp only [List.set_cons_zero])))
              (refine wpAnyH_take (i := 3) (v := ?_) rfl (by kernel_rfl) (by kernel_rfl) (by kernel_rfl) (fun _ _ _ h => h) (Or.inl ⟨by rfl, ?_⟩) (by assumption) ?_; rotate_left; (intro w hSw; (try dsimp only at hSw); go_simp; try with_reducible rfl); ((try simp only [List.getElem_toArray]); (try simp only [List.getElem_cons_succ]); (try simp only [List.getElem_cons_zero]); (try simp only [Act.put]); (try simp only [List.setIfInBounds_toArray]); (try simp only [List.set_cons_succ]); (try simp only [List.set_cons_zero])))
              (refine wpAnyH_take (i := 4) (v := ?_) rfl (by kernel_rfl) (by kernel_rfl) (by kernel_rfl) (fun _ _ _ h => h) (Or.inl ⟨by rfl, ?_⟩) (by assumption) ?_; rotate_left; (intro w hSw; (try dsimp only at hSw); go_simp; try with_reducible rfl); ((try simp only [List.getElem_toArray]); (try simp only [List.getElem_cons_succ]); (try simp only [List.getElem_cons_zero]); (try simp only [Act.put]); (try simp only [List.setIfInBounds_toArray]); (try simp only [List.set_cons_succ]); (try simp only [List.set_cons_zero])))
              (refine wpAnyH_take (i := 5) (v := ?_) rfl (by kernel_rfl) (by kernel_rfl) (by kernel_rfl) (fun _ _ _ h => h) (Or.inl ⟨by rfl, ?_⟩) (by assumption) ?_; rotate_left; (intro w hSw; (try dsimp only at hSw); go_simp; try with_reducible rfl); ((try simp only [List.getElem_toArray]); (try simp only [List.getElem_cons_succ]); (try simp only [List.getElem_cons_zero]); (try simp only [Act.put]); (try simp only [List.setIfInBounds_toArray]); (try simp only [List.set_cons_succ]); (try simp only [List.set_cons_zero])))
              have HZ := Lib.hid (show Has ((W1.drew).alloc (.cells #[.int .i64 6, .int .i64 m, .string t, .slice Ab nb zb, .slice Aa na za, .int .i64 ck, .string ct, .slice A n c, .int .i64 K, .string cn, .int .i64 cq, .bool cb] 38)) (w.heap.size + 1) 38 #[.int .i64 6, .int .i64 m, .string t, .slice Ab nb zb, .slice Aa na za, .int .i64 ck, .string ct, .slice A n c, .int .i64 K, .string cn, .int .i64 cq, .bool cb] from (show Has W1.drew (w.heap.size + 1) 38 #[.int .i64 6, .int .i64 m, .string t, .slice Ab nb zb, .slice Aa na za, .int .i64 ck, .string ct, .slice A n c, .int .i64 K, .string cn, .int .i64 cq, .bool cb] from HV0w.out).alloc _)
              have HZb := Lib.hid (show Has ((W1.drew).alloc (.cells #[.int .i64 6, .int .i64 m, .string t, .slice Ab nb zb, .slice Aa na za, .int .i64 ck, .string ct, .slice A n c, .int .i64 K, .string cn, .int .i64 cq, .bool cb] 38)) w.heap.size 26 #[.int .i64 lim, .int .i64 num, .slice A0 n0 c0] from (show Has W1.drew w.heap.size 26 #[.int .i64 lim, .int .i64 num, .slice A0 n0 c0] from HB0w.out).alloc _)
              refine wpAnyH_ready (rs := [6]) (by kernel_rfl) (by simp) ?_
              refine AllReadyH.cons rfl (fun K2 hK2 => ?_) AllReadyH.nil
              go_simp
              refine hK2.out _ _ (by (try dsimp only); exact ⟨HZb.out.cell 0, HZb.out.cell 1, HZ.out.cell 0, HZ.out.cell 1, HZ.out.cell 2, HZ.out.cell 3, HZ.out.cell 4, HZ.out.cell 5, HZ.out.cell 6, HZ.out.cell 7, HZ.out.cell 8, HZ.out.cell 9, HZ.out.cell 10, HZ.out.cell 11⟩) (fun _ => ?_)
              clear hK2 K2
              (try simp only [List.getElem_toArray]); (try simp only [List.getElem_cons_succ]); (try simp only [List.getElem_cons_zero]); (try simp only [Act.put]); (try simp only [List.setIfInBounds_toArray]); (try simp only [List.set_cons_succ]); (try simp only [List.set_cons_zero])
              have HA2 := Lib.hid (appE W1.drew W1.drew.heap.size rfl w2.heap.size (.slice A1 n1 c1) ([] ++ T) ⟨⟨6, m, t, B, AA, ck, ct, L, K, ⟨cn, cq, cb⟩⟩, Ab, nb, zb, Aa, na, za, A, n, c⟩ (show OwnE w2.heap.size W1.drew (.slice A1 n1 c1) ([] ++ T) from HOW.out) hsz1 HT1.out)
              obtain ⟨R2, W2, hrun2, ho2, ht2, hq2⟩ := HA2.out
              obtain ⟨A2, n2, c2, rfl, hn2, hnc2, hcm2, hrr2, hzz2, hgg2⟩ := ownE_open ho2
              have hb2 : Below w2.heap.size W1 W2 := (show Tur _ W1 W2 from ⟨ht2.os, ht2.tape, ht2.output, ht2.size, ht2.block⟩).below (fun k hk => (World.ownsRow.lt HOW.out k (by simpa using hk)).1) hsz1
              have HB0x := Lib.hid (HB0w.out.below hb2 HB0.out.lt)
              have HV0x := Lib.hid (HV0w.out.below hb2 HV0.out.lt)
              have HR2x := Lib.hid (HR2w.out.below hb2 HR2.out.lt)
              have HB2x := Lib.hid (HB2w.out.trans (hb2.mono HB2.out.size))
              refine wpAnyH_ready (rs := [7]) (by kernel_rfl) (by simp) ?_
              refine AllReadyH.cons rfl (fun K2 hK2 => ?_) (AllReadyH.nil)
              refine wstep_app (by rfl) _ _ _ _ (by rfl) (.slice A1 n1 c1) (.slice (some ⟨W1.drew.heap.size, 0, none⟩) 1 1) (by rfl) (by rfl) ⟨_, W2, hrun2, ?_⟩
              refine hK2.out _ _ (by (try dsimp only); exact ⟨HB0x.out.cell 0, HB0x.out.cell 1, HV0x.out.cell 0, HV0x.out.cell 1, HV0x.out.cell 2, HV0x.out.cell 3, HV0x.out.cell 4, HV0x.out.cell 5, HV0x.out.cell 6, HV0x.out.cell 7, HV0x.out.cell 8, HV0x.out.cell 9, HV0x.out.cell 10, HV0x.out.cell 11⟩) (fun _ => ?_)
              clear hK2 K2
              (try simp only [List.getElem_toArray]); (try simp only [List.getElem_cons_succ]); (try simp only [List.getElem_cons_zero]); (try simp only [Act.put]); (try simp only [List.setIfInBounds_toArray]); (try simp only [List.set_cons_succ]); (try simp only [List.set_cons_zero])
              (refine wpAnyH_take (i := 8) (v := ?_) rfl (by kernel_rfl) (by kernel_rfl) (by kernel_rfl) (fun _ _ _ h => h) (Or.inl ⟨by rfl, ?_⟩) (by assumption) ?_; rotate_left; (intro w hSw; (try dsimp only at hSw); go_simp; try with_reducible rfl); ((try simp only [List.getElem_toArray]); (try simp only [List.getElem_cons_succ]); (try simp only [List.getElem_cons_zero]); (try simp only [Act.put]); (try simp only [List.setIfInBounds_toArray]); (try simp only [List.set_cons_succ]); (try simp only [List.set_cons_zero])))
              have d0 := HR2x.out.cell 0
              have d1 := HR2x.out.cell 1
              have d2 := HR2x.out.cell 2
              have e0 := HR2x.out.free 0
              have e1 := HR2x.out.free 1
              have e2 := HR2x.out.free 2
              simp only [List.getElem?_toArray, List.getElem?_cons_zero, List.getElem?_cons_succ] at d0 d1 d2
              have HF := Lib.hid (put3_has HR2x.out (.int .i64 lim) (.int .i64 num) (.slice A2 n2 c2))
              have ht := put3_tur W2 (w.heap.size + 2) (.int .i64 lim) (.int .i64 num) (.slice A2 n2 c2)
              have hbe : Below w.heap.size w (put3 W2 (w.heap.size + 2) (.int .i64 lim) (.int .i64 num) (.slice A2 n2 c2)) := ((Tur.of_below (X := [w.heap.size + 2]) HB2x.out).trans ht (Fre.refl _ _)).below (B := w.heap.size) (fun k hk => by simp at hk; omega) (Nat.le_refl _)
              have HXb := Lib.hid (HB0x.out.tur ht (by simp))
              have HXv := Lib.hid (HV0x.out.tur ht (by simp))
              have hre : ERow (put3 W2 (w.heap.size + 2) (.int .i64 lim) (.int .i64 num) (.slice A2 n2 c2)) A2 ([] ++ T ++ [⟨⟨6, m, t, B, AA, ck, ct, L, K, ⟨cn, cq, cb⟩⟩, Ab, nb, zb, Aa, na, za, A, n, c⟩]) := hrr2.out.tur ht (fun a e hh => by have := (hgg2.out a e).2.1; simp at hh; omega)
              refine wpAnyH_ready (rs := [9]) (by kernel_rfl) (by simp) ?_
              refine AllReadyH.cons rfl (fun K2 hK2 => ?_) (AllReadyH.nil)
              go_simp
              refine hK2.out _ _ (by (try dsimp only); exact ⟨HXb.out.cell 0, HXb.out.cell 1, HXv.out.cell 0, HXv.out.cell 1, HXv.out.cell 2, HXv.out.cell 3, HXv.out.cell 4, HXv.out.cell 5, HXv.out.cell 6, HXv.out.cell 7, HXv.out.cell 8, HXv.out.cell 9, HXv.out.cell 10, HXv.out.cell 11⟩) (fun _ => ?_)
              clear hK2 K2
              (try simp only [List.getElem_toArray]); (try simp only [List.getElem_cons_succ]); (try simp only [List.getElem_cons_zero]); (try simp only [Act.put]); (try simp only [List.setIfInBounds_toArray]); (try simp only [List.set_cons_succ]); (try simp only [List.set_cons_zero])
              (refine wpAnyH_take (i := 10) (v := ?_) rfl (by kernel_rfl) (by kernel_rfl) (by kernel_rfl) (fun _ _ _ h => h) (Or.inl ⟨by rfl, ?_⟩) (by assumption) ?_; rotate_left; (intro w hSw; (try dsimp only at hSw); go_simp; try with_reducible rfl); ((try simp only [List.getElem_toArray]); (try simp only [List.getElem_cons_succ]); (try simp only [List.getElem_cons_zero]); (try simp only [Act.put]); (try simp only [List.setIfInBounds_toArray]); (try simp only [List.set_cons_succ]); (try simp only [List.set_cons_zero])))
              (refine wpAnyH_take (i := 11) (v := ?_) rfl (by kernel_rfl) (by kernel_rfl) (by kernel_rfl) (fun _ _ _ h => h) (Or.inl ⟨by rfl, ?_⟩) (by assumption) ?_; rotate_left; (intro w hSw; (try dsimp only at hSw); go_simp; try with_reducible rfl); ((try simp only [List.getElem_toArray]); (try simp only [List.getElem_cons_succ]); (try simp only [List.getElem_cons_zero]); (try simp only [Act.put]); (try simp only [List.setIfInBounds_toArray]); (try simp only [List.set_cons_succ]); (try simp only [List.set_cons_zero])))
              (refine wpAnyH_take (i := 12) (v := ?_) rfl (by kernel_rfl) (by kernel_rfl) (by kernel_rfl) (fun _ _ _ h => h) (Or.inl ⟨by rfl, ?_⟩) (by assumption) ?_; rotate_left; (intro w hSw; (try dsimp only at hSw); go_simp; try with_reducible rfl); ((try simp only [List.getElem_toArray]); (try simp only [List.getElem_cons_succ]); (try simp only [List.getElem_cons_zero]); (try simp only [Act.put]); (try simp only [List.setIfInBounds_toArray]); (try simp only [List.set_cons_succ]); (try simp only [List.set_cons_zero])))
              refine wpAnyH_done (by kernel_rfl) ?_ _
              clear d0 d1 d2 e0 e1 e2
              go_wp2_with fail
              refine bodyPost_ret (res4 rfl _ (w.heap.size + 2) _ _ _ _ rfl HF.out) rfl ?_
              rw [List.nil_append] at hre hn2
              exact ⟨_, _, _, _, _, _, rfl, ⟨hn2.out, hre, hzz2.out⟩, ⟨rfl, ERow.nil _ _⟩, hbe, (fun a e => .inr ⟨by have q1 := (hgg2.out a e).2.1; have q2 := HB2.out.size; omega, Nat.lt_of_lt_of_le (hgg2.out a e).2.2 ht.size⟩), fun a e => (by cases e)⟩
        · by_cases hm : m = num
          · subst hm
            have hmm : (m != m) = false := by simp
            by_cases hk : k = 7
            · subst hk
              rw [show rputF lim m T ⟨⟨7, m, t, B, AA, ck, ct, L, K, ⟨cn, cq, cb⟩⟩, Ab, nb, zb, Aa, na, za, A, n, c⟩ = (-1, [], T, true, 0) by unfold rputF; simp [hnum]]
              clear hc hc2
              go_enter Try.func13, Try.ntmps13
              go_wp2_with fail
              refine wp_region_held_drew (S := (fun X => X.cell? ⟨w.heap.size, 2, none⟩ = some (.slice A0 n0 c0) ∧ X.cell? ⟨w.heap.size + 3, 0, none⟩ = some (.int .i64 lim) ∧ X.cell? ⟨w.heap.size + 3, 1, none⟩ = some (.int .i64 (-1)) ∧ X.cell? ⟨w.heap.size + 3, 2, none⟩ = some (.slice none 0 0))) (by kernel_rfl) ⟨p2, z0, z1, z2⟩ (fun _ => ?_)
              (refine wpAnyH_take (i := 0) (v := ?_) rfl (by kernel_rfl) (by kernel_rfl) (by kernel_rfl) (fun _ _ _ h => h) (Or.inl ⟨by rfl, ?_⟩) (by assumption) ?_; rotate_left; (intro w hSw; (try dsimp only at hSw); go_simp; try with_reducible rfl); ((try simp only [List.getElem_toArray]); (try simp only [List.getElem_cons_succ]); (try simp only [List.getElem_cons_zero]); (try simp only [Act.put]); (try simp only [List.setIfInBounds_toArray]); (try simp only [List.set_cons_succ]); (try simp only [List.set_cons_zero])))
              (refine wpAnyH_take (i := 1) (v := ?_) rfl (by kernel_rfl) (by kernel_rfl) (by kernel_rfl) (fun _ _ _ h => h) (Or.inl ⟨by rfl, ?_⟩) (by assumption) ?_; rotate_left; (intro w hSw; (try dsimp only at hSw); go_simp; try with_reducible rfl); ((try simp only [List.getElem_toArray]); (try simp only [List.getElem_cons_succ]); (try simp only [List.getElem_cons_zero]); (try simp only [Act.put]); (try simp only [List.setIfInBounds_toArray]); (try simp only [List.set_cons_succ]); (try simp only [List.set_cons_zero])))
              (refine wpAnyH_take (i := 2) (v := ?_) rfl (by kernel_rfl) (by kernel_rfl) (by kernel_rfl) (fun _ _ _ h => h) (Or.inl ⟨by rfl, ?_⟩) (by assumption) ?_; rotate_left; (intro w hSw; (try dsimp only at hSw); go_simp; try with_reducible rfl); ((try simp only [List.getElem_toArray]); (try simp only [List.getElem_cons_succ]); (try simp only [List.getElem_cons_zero]); (try simp only [Act.put]); (try simp only [List.setIfInBounds_toArray]); (try simp only [List.set_cons_succ]); (try simp only [List.set_cons_zero])))
              have d0 : w2.drew.cell? ⟨w.heap.size + 2, 0, none⟩ = some (.int .i64 0) := v0
              have d1 : w2.drew.cell? ⟨w.heap.size + 2, 1, none⟩ = some (.int .i64 0) := v1
              have d2 : w2.drew.cell? ⟨w.heap.size + 2, 2, none⟩ = some (.slice none 0 0) := v2
              have e0 : w2.drew.frozen? ⟨w.heap.size + 2, 0, none⟩ = false := g0
              have e1 : w2.drew.frozen? ⟨w.heap.size + 2, 1, none⟩ = false := g1
              have e2 : w2.drew.frozen? ⟨w.heap.size + 2, 2, none⟩ = false := g2
              have hr7 : Has w2.drew (w.heap.size + 2) 26 #[.int .i64 0, .int .i64 0, .slice none 0 0] := HR2.out
              have HF := Lib.hid (put3_has hr7 (.int .i64 lim) (.int .i64 (-1)) (.slice none 0 0))
              have ht := put3_tur w2.drew (w.heap.size + 2) (.int .i64 lim) (.int .i64 (-1)) (.slice none 0 0)
              have hb7 : Below w.heap.size w w2.drew := HB2.out.drew
              have hbe : Below w.heap.size w (put3 w2.drew (w.heap.size + 2) (.int .i64 lim) (.int .i64 (-1)) (.slice none 0 0)) := ((Tur.of_below (X := [w.heap.size + 2]) hb7).trans ht (Fre.refl _ _)).below (B := w.heap.size) (fun k hk => by simp at hk; omega) (Nat.le_refl _)
              have HX : Hid (((put3 w2.drew (w.heap.size + 2) (.int .i64 lim) (.int .i64 (-1)) (.slice none 0 0))).cell? ⟨w.heap.size, 2, none⟩ = some (.slice A0 n0 c0) ∧ ((put3 w2.drew (w.heap.size + 2) (.int .i64 lim) (.int .i64 (-1)) (.slice none 0 0))).cell? ⟨w.heap.size + 3, 0, none⟩ = some (.int .i64 lim) ∧ ((put3 w2.drew (w.heap.size + 2) (.int .i64 lim) (.int .i64 (-1)) (.slice none 0 0))).cell? ⟨w.heap.size + 3, 1, none⟩ = some (.int .i64 (-1)) ∧ ((put3 w2.drew (w.heap.size + 2) (.int .i64 lim) (.int .i64 (-1)) (.slice none 0 0))).cell? ⟨w.heap.size + 3, 2, none⟩ = some (.slice none 0 0)) := by
                have q1 := (show Has w2.drew w.heap.size 26 _ from HB0.out).tur ht (by simp)
                have q2 := (show Has w2.drew (w.heap.size + 3) 26 _ from HE0.out).tur ht (by simp)
                exact ⟨q1.cell 2, q2.cell 0, q2.cell 1, q2.cell 2⟩
              refine wpAnyH_ready (rs := [3]) (by kernel_rfl) (by simp) ?_
              refine AllReadyH.cons rfl (fun K2 hK2 => ?_) (AllReadyH.nil)
              go_simp
              refine hK2.out _ _ (by (try dsimp only); exact HX.out) (fun _ => ?_)
              clear hK2 K2
              (try simp only [List.getElem_toArray]); (try simp only [List.getElem_cons_succ]); (try simp only [List.getElem_cons_zero]); (try simp only [Act.put]); (try simp only [List.setIfInBounds_toArray]); (try simp only [List.set_cons_succ]); (try simp only [List.set_cons_zero])
              (refine wpAnyH_take (i := 4) (v := ?_) rfl (by kernel_rfl) (by kernel_rfl) (by kernel_rfl) (fun _ _ _ h => h) (Or.inl ⟨by rfl, ?_⟩) (by assumption) ?_; rotate_left; (intro w hSw; (try dsimp only at hSw); go_simp; try with_reducible rfl); ((try simp only [List.getElem_toArray]); (try simp only [List.getElem_cons_succ]); (try simp only [List.getElem_cons_zero]); (try simp only [Act.put]); (try simp only [List.setIfInBounds_toArray]); (try simp only [List.set_cons_succ]); (try simp only [List.set_cons_zero])))
              (refine wpAnyH_take (i := 5) (v := ?_) rfl (by kernel_rfl) (by kernel_rfl) (by kernel_rfl) (fun _ _ _ h => h) (Or.inl ⟨by rfl, ?_⟩) (by assumption) ?_; rotate_left; (intro w hSw; (try dsimp only at hSw); go_simp; try with_reducible rfl); ((try simp only [List.getElem_toArray]); (try simp only [List.getElem_cons_succ]); (try simp only [List.getElem_cons_zero]); (try simp only [Act.put]); (try simp only [List.setIfInBounds_toArray]); (try simp only [List.set_cons_succ]); (try simp only [List.set_cons_zero])))
              (refine wpAnyH_take (i := 6) (v := ?_) rfl (by kernel_rfl) (by kernel_rfl) (by kernel_rfl) (fun _ _ _ h => h) (Or.inl ⟨by rfl, ?_⟩) (by assumption) ?_; rotate_left; (intro w hSw; (try dsimp only at hSw); go_simp; try with_reducible rfl); ((try simp only [List.getElem_toArray]); (try simp only [List.getElem_cons_succ]); (try simp only [List.getElem_cons_zero]); (try simp only [Act.put]); (try simp only [List.setIfInBounds_toArray]); (try simp only [List.set_cons_succ]); (try simp only [List.set_cons_zero])))
              refine wpAnyH_done (by kernel_rfl) ?_ _
              clear d0 d1 d2 e0 e1 e2 HX
              go_wp2_with fail
              refine bodyPost_ret (res4 rfl _ (w.heap.size + 2) _ _ _ _ rfl HF.out) rfl ?_
              exact ⟨_, _, _, _, _, _, rfl, ⟨rfl, ERow.nil _ _, fun _ => rfl⟩, ⟨HT.out.1, HT.out.2.1.below hbe⟩, hbe, (fun a e => (by cases e)), fun a e => e⟩
            · obtain rfl : k = 8 := by omega
              rw [show rputF lim m T ⟨⟨8, m, t, B, AA, ck, ct, L, K, ⟨cn, cq, cb⟩⟩, Ab, nb, zb, Aa, na, za, A, n, c⟩ = (-1, [], [], false, 0) by unfold rputF; simp [hnum]]
              clear hc hc2 hk
              go_enter Try.func13, Try.ntmps13
              go_wp2_with fail
              have HF := Lib.hid (put3_has HR2.out (.int .i64 lim) (.int .i64 (-1)) (.slice none 0 0))
              have ht := put3_tur w2 (w.heap.size + 2) (.int .i64 lim) (.int .i64 (-1)) (.slice none 0 0)
              have hbe : Below w.heap.size w (put3 w2 (w.heap.size + 2) (.int .i64 lim) (.int .i64 (-1)) (.slice none 0 0)) := ((Tur.of_below (X := [w.heap.size + 2]) HB2.out).trans ht (Fre.refl _ _)).below (B := w.heap.size) (fun k hk => by simp at hk; omega) (Nat.le_refl _)
              refine bodyPost_ret (res4 rfl _ (w.heap.size + 2) _ _ _ _ rfl HF.out) rfl ?_
              exact ⟨_, _, _, _, _, _, rfl, ⟨rfl, ERow.nil _ _, fun _ => rfl⟩, ⟨rfl, ERow.nil _ _⟩, hbe, (fun a e => (by cases e)), fun a e => (by cases e)⟩
          · have hmm : (m != num) = true := by simp; exact hm
            rw [show rputF lim num T ⟨⟨k, m, t, B, AA, ck, ct, L, K, ⟨cn, cq, cb⟩⟩, Ab, nb, zb, Aa, na, za, A, n, c⟩ = (num, T, [], false, 14) by unfold rputF; have h78 : k = 7 ∨ k = 8 := (by omega); rcases h78 with rfl | rfl <;> simp [hm]]
            have h78 : k = 7 ∨ k = 8 := by omega
            clear hc hc2 hm
            rcases h78 with rfl | rfl
            all_goals
              go_enter Try.func13, Try.ntmps13
              go_wp2_with fail
              have HF := Lib.hid (put3_has HR2.out (.int .i64 lim) (.int .i64 num) (.slice A0 n0 c0))
              have ht := put3_tur w2 (w.heap.size + 2) (.int .i64 lim) (.int .i64 num) (.slice A0 n0 c0)
              have hbe : Below w.heap.size w (put3 w2 (w.heap.size + 2) (.int .i64 lim) (.int .i64 num) (.slice A0 n0 c0)) := ((Tur.of_below (X := [w.heap.size + 2]) HB2.out).trans ht (Fre.refl _ _)).below (B := w.heap.size) (fun k hk => by simp at hk; omega) (Nat.le_refl _)
              refine bodyPost_ret (res4 rfl _ (w.heap.size + 2) _ _ _ _ rfl HF.out) rfl ?_
              exact ⟨_, _, _, _, _, _, rfl, ⟨HT.out.1, HT.out.2.1.below hbe, HT.out.2.2⟩, ⟨rfl, ERow.nil _ _⟩, hbe, (fun a e => .inl e), fun a e => (by cases e)⟩
    · rw [show rputF lim num T ⟨⟨k, m, t, B, AA, ck, ct, L, K, ⟨cn, cq, cb⟩⟩, Ab, nb, zb, Aa, na, za, A, n, c⟩ = (num, T, [], false, 0) by unfold rputF; rw [if_neg (by dsimp only; omega), if_neg (by dsimp only; omega), if_neg (by dsimp only; omega), if_neg (by dsimp only; omega)]]
      have q2 : (k == 2) = false := by simp; omega
      have q3 : (k == 3) = false := by simp; omega
      have q4 : (k == 4) = false := by simp; omega
      have q5 : (k == 5) = false := by simp; omega
      have q6 : (k == 6) = false := by simp; omega
      have q7 : (k == 7) = false := by simp; omega
      have q8 : (k == 8) = false := by simp; omega
      clear hc
      go_enter Try.func13, Try.ntmps13
      go_wp2_with fail
      have HF := Lib.hid (put3_has HR2.out (.int .i64 lim) (.int .i64 num) (.slice A0 n0 c0))
      have ht := put3_tur w2 (w.heap.size + 2) (.int .i64 lim) (.int .i64 num) (.slice A0 n0 c0)
      have hbe : Below w.heap.size w (put3 w2 (w.heap.size + 2) (.int .i64 lim) (.int .i64 num) (.slice A0 n0 c0)) := ((Tur.of_below (X := [w.heap.size + 2]) HB2.out).trans ht (Fre.refl _ _)).below (B := w.heap.size) (fun k hk => by simp at hk; omega) (Nat.le_refl _)
      refine bodyPost_ret (res4 rfl _ (w.heap.size + 2) _ _ _ _ rfl HF.out) rfl ?_
      exact ⟨_, _, _, _, _, _, rfl, ⟨HT.out.1, HT.out.2.1.below hbe, HT.out.2.2⟩, ⟨rfl, ERow.nil _ _⟩, hbe, (fun a e => .inl e), fun a e => (by cases e)⟩
  · by_cases hc : k = 2 ∨ k = 3 ∨ k = 4 ∨ k = 5 ∨ k = 6 ∨ k = 7 ∨ k = 8
    · rcases hc with rfl | hc
      · rw [show rputF lim num T ⟨⟨2, m, t, B, AA, ck, ct, L, K, ⟨cn, cq, cb⟩⟩, Ab, nb, zb, Aa, na, za, A, n, c⟩ = (m, [], [], false, 0) by unfold rputF; simp [hnum]]
        go_enter Try.func13, Try.ntmps13
        go_wp2_with fail
        have HF := Lib.hid (put3_has HR2.out (.int .i64 lim) (.int .i64 m) (.slice none 0 0))
        have ht := put3_tur w2 (w.heap.size + 2) (.int .i64 lim) (.int .i64 m) (.slice none 0 0)
        have hbe : Below w.heap.size w (put3 w2 (w.heap.size + 2) (.int .i64 lim) (.int .i64 m) (.slice none 0 0)) := ((Tur.of_below (X := [w.heap.size + 2]) HB2.out).trans ht (Fre.refl _ _)).below (B := w.heap.size) (fun k hk => by simp at hk; omega) (Nat.le_refl _)
        refine bodyPost_ret (res4 rfl _ (w.heap.size + 2) _ _ _ _ rfl HF.out) rfl ?_
        exact ⟨_, _, _, _, _, _, rfl, ⟨rfl, ERow.nil _ _, fun _ => rfl⟩, ⟨rfl, ERow.nil _ _⟩, hbe, (fun a e => (by cases e)), fun a e => (by cases e)⟩
      · rw [show rputF lim num T ⟨⟨k, m, t, B, AA, ck, ct, L, K, ⟨cn, cq, cb⟩⟩, Ab, nb, zb, Aa, na, za, A, n, c⟩ = (num, T, [], false, 14) by unfold rputF; rcases hc with rfl | rfl | rfl | rfl | rfl | rfl <;> simp [hnum]]
        rcases hc with rfl | rfl | rfl | rfl | rfl | rfl
        all_goals
          go_enter Try.func13, Try.ntmps13
          go_wp2_with fail
          have HF := Lib.hid (put3_has HR2.out (.int .i64 lim) (.int .i64 num) (.slice A0 n0 c0))
          have ht := put3_tur w2 (w.heap.size + 2) (.int .i64 lim) (.int .i64 num) (.slice A0 n0 c0)
          have hbe : Below w.heap.size w (put3 w2 (w.heap.size + 2) (.int .i64 lim) (.int .i64 num) (.slice A0 n0 c0)) := ((Tur.of_below (X := [w.heap.size + 2]) HB2.out).trans ht (Fre.refl _ _)).below (B := w.heap.size) (fun k hk => by simp at hk; omega) (Nat.le_refl _)
          refine bodyPost_ret (res4 rfl _ (w.heap.size + 2) _ _ _ _ rfl HF.out) rfl ?_
          exact ⟨_, _, _, _, _, _, rfl, ⟨HT.out.1, HT.out.2.1.below hbe, HT.out.2.2⟩, ⟨rfl, ERow.nil _ _⟩, hbe, (fun a e => .inl e), fun a e => (by cases e)⟩
    · rw [show rputF lim num T ⟨⟨k, m, t, B, AA, ck, ct, L, K, ⟨cn, cq, cb⟩⟩, Ab, nb, zb, Aa, na, za, A, n, c⟩ = (num, T, [], false, 0) by unfold rputF; rw [if_neg (by dsimp only; omega), if_neg (by dsimp only; omega), if_neg (by dsimp only; omega), if_neg (by dsimp only; omega)]]
      have q2 : (k == 2) = false := by simp; omega
      have q3 : (k == 3) = false := by simp; omega
      have q4 : (k == 4) = false := by simp; omega
      have q5 : (k == 5) = false := by simp; omega
      have q6 : (k == 6) = false := by simp; omega
      have q7 : (k == 7) = false := by simp; omega
      have q8 : (k == 8) = false := by simp; omega
      clear hc
      go_enter Try.func13, Try.ntmps13
      go_wp2_with fail
      have HF := Lib.hid (put3_has HR2.out (.int .i64 lim) (.int .i64 num) (.slice A0 n0 c0))
      have ht := put3_tur w2 (w.heap.size + 2) (.int .i64 lim) (.int .i64 num) (.slice A0 n0 c0)
      have hbe : Below w.heap.size w (put3 w2 (w.heap.size + 2) (.int .i64 lim) (.int .i64 num) (.slice A0 n0 c0)) := ((Tur.of_below (X := [w.heap.size + 2]) HB2.out).trans ht (Fre.refl _ _)).below (B := w.heap.size) (fun k hk => by simp at hk; omega) (Nat.le_refl _)
      refine bodyPost_ret (res4 rfl _ (w.heap.size + 2) _ _ _ _ rfl HF.out) rfl ?_
      exact ⟨_, _, _, _, _, _, rfl, ⟨HT.out.1, HT.out.2.1.below hbe, HT.out.2.2⟩, ⟨rfl, ERow.nil _ _⟩, hbe, (fun a e => .inl e), fun a e => (by cases e)⟩
end Go.Proofs.Ytjkmbggaoinkdaa
