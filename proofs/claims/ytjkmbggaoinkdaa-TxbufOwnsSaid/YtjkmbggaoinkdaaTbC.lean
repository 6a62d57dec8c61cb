/-
  The program's copies: of a row, of columns, of an event.
-/
import Derived.Test.YtjkmbggaoinkdaaTbW
import Derived.Deep.RegionHeld3
namespace Go.Proofs.Ytjkmbggaoinkdaa
open Go.RowKit Go.Maps Dg
set_option maxRecDepth 100000
set_option linter.unusedVariables false
theorem vrow_cell {w : World} {b off : Nat} {M : List Vl} (h : ∀ i (h : i < M.length), w.cell? ⟨b, off + i * 3, none⟩ = some (.int .i64 M[i].k) ∧ w.cell? ⟨b, off + i * 3 + 1, none⟩ = some (.int .i64 M[i].n) ∧ w.cell? ⟨b, off + i * 3 + 2, none⟩ = some (.string M[i].s)) (j : Nat) (u : Value) (hj : (M.flatMap Vl.cells)[j]? = some u) : w.cell? ⟨b, off + j, none⟩ = some u := by
  have hjl : j < M.length * 3 := by
    have := (List.getElem?_eq_some_iff.1 hj).1
    rwa [flat_len] at this
  have hi : j / 3 < M.length := by omega
  have e : j = j / 3 * 3 + j % 3 := by omega
  have hr : j % 3 = 0 ∨ j % 3 = 1 ∨ j % 3 = 2 := by omega
  rw [e, flat_get M (j / 3) (j % 3) hi (by omega)] at hj
  obtain ⟨h0, h1, h2⟩ := h (j / 3) hi
  rw [e]
  rcases hr with hr | hr | hr <;> rw [hr] at hj ⊢
  · rw [← hj]; exact h0
  · rw [← hj]; exact h1
  · rw [← hj]; exact h2
theorem run_copyV (w : World) (A : Option Addr) (L : List Vl) (n c : Nat) (hn : L.length = n) (hl : n ≤ 4398046511104) (hA : VRow w A L) (h0 : A = none → c = 0) :
    ∃ R W', (Builtin.append_ #[29, 29] 29 #[.slice none 0 0, .slice A n c]).run Try.prog w = .ok R W' ∧ OwnV w.heap.size W' R L ∧ Below w.heap.size w W' := by
  subst hn
  obtain ⟨i0, hi, hz0, hz1, hz2⟩ := info_parts infoV
  cases A with
  | none =>
    obtain rfl : L = [] := Classical.byContradiction fun hne => by obtain ⟨b, off, e, _⟩ := hA hne; cases e
    obtain rfl := h0 rfl
    exact ⟨_, w, run_append_owned_none w w.heap.size 29 29 51 i0 3 Try.underlying29 hi (.slice none 0 0) 0 [] (World.ownsRow_nil _ _ _ _), World.ownsRow_nil _ _ _ _, Below.refl _ _⟩
  | some a =>
    obtain ⟨R, W', hrun, hown, hg, _, hx⟩ := run_append_own_at (P := Try.prog) w w.heap.size 29 29 51 i0 _ 3 32 Try.underlying29 hi hz0 hz1 hz2 rfl (by decide) (.slice none 0 0) 0 [] (World.ownsRow_nil _ _ _ _)
      a L.length c (L.flatMap Vl.cells) (flat_len L) (fun j u hj => by
        have hjl : j < L.length * 3 := by
          have := (List.getElem?_eq_some_iff.1 hj).1
          rwa [flat_len] at this
        have hne : L ≠ [] := fun e => by rw [e] at hjl; simp at hjl
        obtain ⟨b, off, e, hc⟩ := hA hne
        injection e with e
        subst e
        rw [Addr.add_lit]
        exact vrow_cell hc j u hj) (fun u hu => by
        obtain ⟨r, _, hu⟩ := List.mem_flatMap.1 hu
        simp [Vl.cells] at hu; rcases hu with rfl | rfl | rfl <;> rfl) (by unfold maxLen; omega) (by omega) (Nat.le_refl _)
    refine ⟨R, W', hrun, ?_, ?_⟩
    · unfold OwnV; simpa using hown
    · exact (Below.refl _ w).grown hg (Nat.le_refl _) fun k hk => by cases hk
theorem copyV_any (A : Option Addr) (L : List Vl) (n c : Nat) (w : World) (hn : L.length = n) (hl : n ≤ 4398046511104) (hA : VRow w A L) (h0 : A = none → c = 0) :
    Calls Try.prog 31 #[.slice A n c] w fun e w' => ∃ v, e = .returned v ∧ Hid (OwnV w.heap.size w' v L) ∧ Hid (Below w.heap.size w w') := by
  obtain ⟨R, W, hrun, ho, hb⟩ := run_copyV w A L n c hn hl hA h0
  have HO := Lib.hid ho
  have HB := Lib.hid hb
  clear ho hb hn hl hA h0
  go_enter Try.func31, Try.ntmps31
  go_wp2_with (at_builtin; refine wpList_app rfl _ _ 29 29 rfl (.slice none 0 0) (.slice A n c) rfl rfl ⟨R, W, hrun, ?_⟩)
  go_ret
  exact ⟨_, rfl, HO, HB⟩
theorem run_copyC (w : World) (A : Option Addr) (L : List Cl) (n c : Nat) (hn : L.length = n) (hl : n ≤ 4398046511104) (hA : CRow w A L) (h0 : A = none → c = 0) :
    ∃ R W', (Builtin.append_ #[30, 30] 30 #[.slice none 0 0, .slice A n c]).run Try.prog w = .ok R W' ∧ OwnC w.heap.size W' R L ∧ Below w.heap.size w W' := by
  subst hn
  obtain ⟨i0, hi, hz0, hz1, hz2⟩ := info_parts infoC
  cases A with
  | none =>
    obtain rfl : L = [] := Classical.byContradiction fun hne => by obtain ⟨b, off, e, _⟩ := hA hne; cases e
    obtain rfl := h0 rfl
    exact ⟨_, w, run_append_owned_none w w.heap.size 30 30 34 i0 3 Try.underlying30 hi (.slice none 0 0) 0 [] (World.ownsRow_nil _ _ _ _), World.ownsRow_nil _ _ _ _, Below.refl _ _⟩
  | some a =>
    obtain ⟨R, W', hrun, hown, hg, _, hx⟩ := run_append_own_at (P := Try.prog) w w.heap.size 30 30 34 i0 _ 3 32 Try.underlying30 hi hz0 hz1 hz2 rfl (by decide) (.slice none 0 0) 0 [] (World.ownsRow_nil _ _ _ _)
      a L.length c (L.flatMap Cl.cells) (cflat_len L) (fun j u hj => by
        have hjl : j < L.length * 3 := by
          have := (List.getElem?_eq_some_iff.1 hj).1
          rwa [cflat_len] at this
        have hne : L ≠ [] := fun e => by rw [e] at hjl; simp at hjl
        obtain ⟨b, off, e, hc⟩ := hA hne
        injection e with e
        subst e
        rw [Addr.add_lit]
        exact crow_cell hc j u hj) (fun u hu => by
        obtain ⟨r, _, hu⟩ := List.mem_flatMap.1 hu
        simp [Cl.cells] at hu; rcases hu with rfl | rfl | rfl <;> rfl) (by unfold maxLen; omega) (by omega) (Nat.le_refl _)
    refine ⟨R, W', hrun, ?_, ?_⟩
    · unfold OwnC; simpa using hown
    · exact (Below.refl _ w).grown hg (Nat.le_refl _) fun k hk => by cases hk
theorem copyC_any (A : Option Addr) (L : List Cl) (n c : Nat) (w : World) (hn : L.length = n) (hl : n ≤ 4398046511104) (hA : CRow w A L) (h0 : A = none → c = 0) :
    Calls Try.prog 32 #[.slice A n c] w fun e w' => ∃ v, e = .returned v ∧ Hid (OwnC w.heap.size w' v L) ∧ Hid (Below w.heap.size w w') := by
  obtain ⟨R, W, hrun, ho, hb⟩ := run_copyC w A L n c hn hl hA h0
  have HO := Lib.hid ho
  have HB := Lib.hid hb
  clear ho hb hn hl hA h0
  go_enter Try.func32, Try.ntmps32
  go_wp2_with (at_builtin; refine wpList_app rfl _ _ 30 30 rfl (.slice none 0 0) (.slice A n c) rfl rfl ⟨R, W, hrun, ?_⟩)
  go_ret
  exact ⟨_, rfl, HO, HB⟩
theorem ownV_at {B : Nat} {w : World} {v : Value} {L : List Vl} (h : OwnV B w v L) : ∃ A n c, v = .slice A n c ∧ Hid (L.length = n) ∧ Hid (VRow w A L) ∧ Hid (A = none → c = 0) ∧ Hid (∀ a, A = some a → B ≤ a.block ∧ a.block < w.heap.size) := by
  obtain ⟨A, c, e, h1, h2, h3, h4⟩ := ownV_row h
  subst e
  exact ⟨A, L.length, c, rfl, rfl, h3, h4, fun a e => World.ownsRow.lt h a.block (by rw [e]; rfl)⟩
theorem ownC_at {B : Nat} {w : World} {v : Value} {L : List Cl} (h : OwnC B w v L) : ∃ A n c, v = .slice A n c ∧ Hid (L.length = n) ∧ Hid (CRow w A L) ∧ Hid (A = none → c = 0) ∧ Hid (∀ a, A = some a → B ≤ a.block ∧ a.block < w.heap.size) := by
  obtain ⟨A, c, e, h1, h2, h3, h4⟩ := ownC_row h
  subst e
  exact ⟨A, L.length, c, rfl, rfl, h3, h4, fun a e => World.ownsRow.lt h a.block (by rw [e]; rfl)⟩
def put12 (W : World) (g : Nat) (u0 u1 u2 u3 u4 u5 u6 u7 u8 u9 u10 u11 : Value) : World := ((((((((((((W.setCell ⟨g, 0, none⟩ u0).setCell ⟨g, 1, none⟩ u1).setCell ⟨g, 2, none⟩ u2).setCell ⟨g, 3, none⟩ u3).setCell ⟨g, 4, none⟩ u4).setCell ⟨g, 5, none⟩ u5).setCell ⟨g, 6, none⟩ u6).setCell ⟨g, 7, none⟩ u7).setCell ⟨g, 8, none⟩ u8).setCell ⟨g, 9, none⟩ u9).setCell ⟨g, 10, none⟩ u10).setCell ⟨g, 11, none⟩ u11)
theorem put12_has {W : World} {g : Nat} {t : TypeId} {a0 a1 a2 a3 a4 a5 a6 a7 a8 a9 a10 a11 : Value} (h : Has W g t #[a0, a1, a2, a3, a4, a5, a6, a7, a8, a9, a10, a11]) (u0 u1 u2 u3 u4 u5 u6 u7 u8 u9 u10 u11 : Value) : Has (put12 W g u0 u1 u2 u3 u4 u5 u6 u7 u8 u9 u10 u11) g t #[u0, u1, u2, u3, u4, u5, u6, u7, u8, u9, u10, u11] := by
  have h0 : Has (W.setCell ⟨g, 0, none⟩ u0) g t #[u0, a1, a2, a3, a4, a5, a6, a7, a8, a9, a10, a11] := h.put 0 u0
  have h1 : Has ((W.setCell ⟨g, 0, none⟩ u0).setCell ⟨g, 1, none⟩ u1) g t #[u0, u1, a2, a3, a4, a5, a6, a7, a8, a9, a10, a11] := h0.put 1 u1
  have h2 : Has (((W.setCell ⟨g, 0, none⟩ u0).setCell ⟨g, 1, none⟩ u1).setCell ⟨g, 2, none⟩ u2) g t #[u0, u1, u2, a3, a4, a5, a6, a7, a8, a9, a10, a11] := h1.put 2 u2
  have h3 : Has ((((W.setCell ⟨g, 0, none⟩ u0).setCell ⟨g, 1, none⟩ u1).setCell ⟨g, 2, none⟩ u2).setCell ⟨g, 3, none⟩ u3) g t #[u0, u1, u2, u3, a4, a5, a6, a7, a8, a9, a10, a11] := h2.put 3 u3
  have h4 : Has (((((W.setCell ⟨g, 0, none⟩ u0).setCell ⟨g, 1, none⟩ u1).setCell ⟨g, 2, none⟩ u2).setCell ⟨g, 3, none⟩ u3).setCell ⟨g, 4, none⟩ u4) g t #[u0, u1, u2, u3, u4, a5, a6, a7, a8, a9, a10, a11] := h3.put 4 u4
  have h5 : Has ((((((W.setCell ⟨g, 0, none⟩ u0).setCell ⟨g, 1, none⟩ u1).setCell ⟨g, 2, none⟩ u2).setCell ⟨g, 3, none⟩ u3).setCell ⟨g, 4, none⟩ u4).setCell ⟨g, 5, none⟩ u5) g t #[u0, u1, u2, u3, u4, u5, a6, a7, a8, a9, a10, a11] := h4.put 5 u5
  have h6 : Has (((((((W.setCell ⟨g, 0, none⟩ u0).setCell ⟨g, 1, none⟩ u1).setCell ⟨g, 2, none⟩ u2).setCell ⟨g, 3, none⟩ u3).setCell ⟨g, 4, none⟩ u4).setCell ⟨g, 5, none⟩ u5).setCell ⟨g, 6, none⟩ u6) g t #[u0, u1, u2, u3, u4, u5, u6, a7, a8, a9, a10, a11] := h5.put 6 u6
  have h7 : Has ((((((((W.setCell ⟨g, 0, none⟩ u0).setCell ⟨g, 1, none⟩ u1).setCell ⟨g, 2, none⟩ u2).setCell ⟨g, 3, none⟩ u3).setCell ⟨g, 4, none⟩ u4).setCell ⟨g, 5, none⟩ u5).setCell ⟨g, 6, none⟩ u6).setCell ⟨g, 7, none⟩ u7) g t #[u0, u1, u2, u3, u4, u5, u6, u7, a8, a9, a10, a11] := h6.put 7 u7
  have h8 : Has (((((((((W.setCell ⟨g, 0, none⟩ u0).setCell ⟨g, 1, none⟩ u1).setCell ⟨g, 2, none⟩ u2).setCell ⟨g, 3, none⟩ u3).setCell ⟨g, 4, none⟩ u4).setCell ⟨g, 5, none⟩ u5).setCell ⟨g, 6, none⟩ u6).setCell ⟨g, 7, none⟩ u7).setCell ⟨g, 8, none⟩ u8) g t #[u0, u1, u2, u3, u4, u5, u6, u7, u8, a9, a10, a11] := h7.put 8 u8
  have h9 : Has ((((((((((W.setCell ⟨g, 0, none⟩ u0).setCell ⟨g, 1, none⟩ u1).setCell ⟨g, 2, none⟩ u2).setCell ⟨g, 3, none⟩ u3).setCell ⟨g, 4, none⟩ u4).setCell ⟨g, 5, none⟩ u5).setCell ⟨g, 6, none⟩ u6).setCell ⟨g, 7, none⟩ u7).setCell ⟨g, 8, none⟩ u8).setCell ⟨g, 9, none⟩ u9) g t #[u0, u1, u2, u3, u4, u5, u6, u7, u8, u9, a10, a11] := h8.put 9 u9
  have h10 : Has (((((((((((W.setCell ⟨g, 0, none⟩ u0).setCell ⟨g, 1, none⟩ u1).setCell ⟨g, 2, none⟩ u2).setCell ⟨g, 3, none⟩ u3).setCell ⟨g, 4, none⟩ u4).setCell ⟨g, 5, none⟩ u5).setCell ⟨g, 6, none⟩ u6).setCell ⟨g, 7, none⟩ u7).setCell ⟨g, 8, none⟩ u8).setCell ⟨g, 9, none⟩ u9).setCell ⟨g, 10, none⟩ u10) g t #[u0, u1, u2, u3, u4, u5, u6, u7, u8, u9, u10, a11] := h9.put 10 u10
  have h11 : Has ((((((((((((W.setCell ⟨g, 0, none⟩ u0).setCell ⟨g, 1, none⟩ u1).setCell ⟨g, 2, none⟩ u2).setCell ⟨g, 3, none⟩ u3).setCell ⟨g, 4, none⟩ u4).setCell ⟨g, 5, none⟩ u5).setCell ⟨g, 6, none⟩ u6).setCell ⟨g, 7, none⟩ u7).setCell ⟨g, 8, none⟩ u8).setCell ⟨g, 9, none⟩ u9).setCell ⟨g, 10, none⟩ u10).setCell ⟨g, 11, none⟩ u11) g t #[u0, u1, u2, u3, u4, u5, u6, u7, u8, u9, u10, u11] := h10.put 11 u11
  exact h11
theorem put12_tur (W : World) (g : Nat) (u0 u1 u2 u3 u4 u5 u6 u7 u8 u9 u10 u11 : Value) : Tur [g] W (put12 W g u0 u1 u2 u3 u4 u5 u6 u7 u8 u9 u10 u11) := ((((((((((((Tur.refl [g] W).trans (Tur.setCell _ (p := ⟨g, 0, none⟩) (by simp) u0) (Fre.refl _ _)).trans (Tur.setCell _ (p := ⟨g, 1, none⟩) (by simp) u1) (Fre.refl _ _)).trans (Tur.setCell _ (p := ⟨g, 2, none⟩) (by simp) u2) (Fre.refl _ _)).trans (Tur.setCell _ (p := ⟨g, 3, none⟩) (by simp) u3) (Fre.refl _ _)).trans (Tur.setCell _ (p := ⟨g, 4, none⟩) (by simp) u4) (Fre.refl _ _)).trans (Tur.setCell _ (p := ⟨g, 5, none⟩) (by simp) u5) (Fre.refl _ _)).trans (Tur.setCell _ (p := ⟨g, 6, none⟩) (by simp) u6) (Fre.refl _ _)).trans (Tur.setCell _ (p := ⟨g, 7, none⟩) (by simp) u7) (Fre.refl _ _)).trans (Tur.setCell _ (p := ⟨g, 8, none⟩) (by simp) u8) (Fre.refl _ _)).trans (Tur.setCell _ (p := ⟨g, 9, none⟩) (by simp) u9) (Fre.refl _ _)).trans (Tur.setCell _ (p := ⟨g, 10, none⟩) (by simp) u10) (Fre.refl _ _)).trans (Tur.setCell _ (p := ⟨g, 11, none⟩) (by simp) u11) (Fre.refl _ _)
theorem eEnd (w' : World) (g : Nat) (u0 u1 u2 u3 u4 u5 u6 u7 u8 u9 u10 u11 : Value) (tmps : Array Value) (hp : tmps.getD 2 undef = .pointer (some ⟨g, 0, none⟩)) (hh : Has w' g 38 #[u0, u1, u2, u3, u4, u5, u6, u7, u8, u9, u10, u11]) :
    (results Try.f28 tmps).run Try.prog w' = .ok (.agg #[u0, u1, u2, u3, u4, u5, u6, u7, u8, u9, u10, u11]) w' :=
  results_cell_row rfl _ _ g 38 #[u0, u1, u2, u3, u4, u5, u6, u7, u8, u9, u10, u11] (0, 0) _ hp hh Try.underlying38 rfl (by kernel_rfl)
set_option maxHeartbeats 4000000 in
/-- An event in memory of its own. -/
theorem clone_any (r : Er) (w : World) (h : r.ok w) :
    Calls Try.prog 28 #[r.val] w fun e w' => ∃ r' : Er, e = .returned r'.val ∧ Hid (r'.x = r.x ∧ r'.ok w' ∧ ∀ a, (r'.Ab = some a ∨ r'.Aa = some a ∨ r'.A = some a) → w.heap.size ≤ a.block ∧ a.block < w'.heap.size) ∧ Hid (Below w.heap.size w w') := by
  obtain ⟨⟨k, m, t, B, AA, ck, ct, L, K, ⟨cn, cq, cb⟩⟩, Ab, nb, zb, Aa, na, za, A, n, c⟩ := r
  obtain ⟨⟨b1, b2, b3, b4⟩, ⟨a1, a2, a3, a4⟩, ⟨c1, c2, c3, c4⟩⟩ := h
  simp only at b1 b2 b3 b4 a1 a2 a3 a4 c1 c2 c3 c4
  have CB := Lib.hid (fun (W : World) (hb : Below w.heap.size w W) => copyV_any Ab B nb zb W b1 b2 (b3.below hb) b4)
  have CA := Lib.hid (fun (W : World) (hb : Below w.heap.size w W) => copyV_any Aa AA na za W a1 a2 (a3.below hb) a4)
  have CC := Lib.hid (fun (W : World) (hb : Below w.heap.size w W) => copyC_any A L n c W c1 c2 (c3.below hb) c4)
  have HNN := Lib.hid (show B.length = nb ∧ nb ≤ 4398046511104 ∧ AA.length = na ∧ na ≤ 4398046511104 ∧ L.length = n ∧ n ≤ 4398046511104 from ⟨b1, b2, a1, a2, c1, c2⟩)
  clear b1 b2 b3 b4 a1 a2 a3 a4 c1 c2 c3 c4
  unfold Er.val
  dsimp only
  have HB := Lib.hid (((Below.refl w.heap.size w).alloc (Nat.le_refl _) (.cells #[.int .i64 k, .int .i64 m, .string t, .slice Ab nb zb, .slice Aa na za, .int .i64 ck, .string ct, .slice A n c, .int .i64 K, .string cn, .int .i64 cq, .bool cb] 38)).alloc (by simp) (.cells #[.int .i64 0, .int .i64 0, .string ⟨#[]⟩, .slice none 0 0, .slice none 0 0, .int .i64 0, .string ⟨#[]⟩, .slice none 0 0, .int .i64 0, .string ⟨#[]⟩, .int .i64 0, .bool false] 38))
  have HE := Lib.hid ((Has.new w 38 #[.int .i64 k, .int .i64 m, .string t, .slice Ab nb zb, .slice Aa na za, .int .i64 ck, .string ct, .slice A n c, .int .i64 K, .string cn, .int .i64 cq, .bool cb]).alloc (.cells #[.int .i64 0, .int .i64 0, .string ⟨#[]⟩, .slice none 0 0, .slice none 0 0, .int .i64 0, .string ⟨#[]⟩, .slice none 0 0, .int .i64 0, .string ⟨#[]⟩, .int .i64 0, .bool false] 38))
  have hr := Has.new (w.alloc (.cells #[.int .i64 k, .int .i64 m, .string t, .slice Ab nb zb, .slice Aa na za, .int .i64 ck, .string ct, .slice A n c, .int .i64 K, .string cn, .int .i64 cq, .bool cb] 38)) 38 #[.int .i64 0, .int .i64 0, .string ⟨#[]⟩, .slice none 0 0, .slice none 0 0, .int .i64 0, .string ⟨#[]⟩, .slice none 0 0, .int .i64 0, .string ⟨#[]⟩, .int .i64 0, .bool false]
  rw [show (w.alloc (.cells #[.int .i64 k, .int .i64 m, .string t, .slice Ab nb zb, .slice Aa na za, .int .i64 ck, .string ct, .slice A n c, .int .i64 K, .string cn, .int .i64 cq, .bool cb] 38)).heap.size = w.heap.size + 1 by simp] at hr
  have HR := Lib.hid hr
  clear hr
  go_enter Try.func28, Try.ntmps28
  go_wp2_with fail
  refine wp_region_held_drew (S := (fun _ => True)) (by kernel_rfl) trivial (fun _ => ?_)
  (refine wpAnyH_take (i := 0) (v := ?_) rfl (by kernel_rfl) (by kernel_rfl) (by kernel_rfl) (fun _ _ _ h => h) (Or.inl ⟨by rfl, ?_⟩) (by assumption) ?_; rotate_left; (intro w hSw; (try dsimp only at hSw); go_simp; try with_reducible rfl); ((try simp only [List.getElem_toArray]); (try simp only [List.getElem_cons_succ]); (try simp only [List.getElem_cons_zero]); (try simp only [Act.put]); (try simp only [List.setIfInBounds_toArray]); (try simp only [List.set_cons_succ]); (try simp only [List.set_cons_zero])))
  (refine wpAnyH_take (i := 3) (v := ?_) rfl (by kernel_rfl) (by kernel_rfl) (by kernel_rfl) (fun _ _ _ h => h) (Or.inl ⟨by rfl, ?_⟩) (by assumption) ?_; rotate_left; (intro w hSw; (try dsimp only at hSw); go_simp; try with_reducible rfl); ((try simp only [List.getElem_toArray]); (try simp only [List.getElem_cons_succ]); (try simp only [List.getElem_cons_zero]); (try simp only [Act.put]); (try simp only [List.setIfInBounds_toArray]); (try simp only [List.set_cons_succ]); (try simp only [List.set_cons_zero])))
  have x3 : ((w.alloc (.cells #[.int .i64 k, .int .i64 m, .string t, .slice Ab nb zb, .slice Aa na za, .int .i64 ck, .string ct, .slice A n c, .int .i64 K, .string cn, .int .i64 cq, .bool cb] 38)).alloc (.cells #[.int .i64 0, .int .i64 0, .string ⟨#[]⟩, .slice none 0 0, .slice none 0 0, .int .i64 0, .string ⟨#[]⟩, .slice none 0 0, .int .i64 0, .string ⟨#[]⟩, .int .i64 0, .bool false] 38)).drew.cell? ⟨w.heap.size, 3, none⟩ = some (.slice Ab nb zb) := HE.out.cell 3
  have x4 : ((w.alloc (.cells #[.int .i64 k, .int .i64 m, .string t, .slice Ab nb zb, .slice Aa na za, .int .i64 ck, .string ct, .slice A n c, .int .i64 K, .string cn, .int .i64 cq, .bool cb] 38)).alloc (.cells #[.int .i64 0, .int .i64 0, .string ⟨#[]⟩, .slice none 0 0, .slice none 0 0, .int .i64 0, .string ⟨#[]⟩, .slice none 0 0, .int .i64 0, .string ⟨#[]⟩, .int .i64 0, .bool false] 38)).drew.cell? ⟨w.heap.size, 4, none⟩ = some (.slice Aa na za) := HE.out.cell 4
  refine wpAnyH_ready (rs := [1, 4]) (by kernel_rfl) (by simp) ?_
  refine AllReadyH.cons rfl (fun K2 hK2 => ?_) (AllReadyH.cons rfl (fun K2 hK2 => ?_) (AllReadyH.nil))
  · go_simp
    refine hK2.out _ _ trivial (fun _ => ?_)
    clear hK2 K2
    (try simp only [List.getElem_toArray]); (try simp only [List.getElem_cons_succ]); (try simp only [List.getElem_cons_zero]); (try simp only [Act.put]); (try simp only [List.setIfInBounds_toArray]); (try simp only [List.set_cons_succ]); (try simp only [List.set_cons_zero])
    refine wpAnyH_ready (rs := [2, 4]) (by kernel_rfl) (by simp) ?_
    refine AllReadyH.cons rfl (fun K2 hK2 => ?_) (AllReadyH.cons rfl (fun K2 hK2 => ?_) (AllReadyH.nil))
    · go_simp
      refine (CB.out _ HB.out.drew).mono ?_
      rintro e w1 ⟨v1, rfl, ho1, hb1⟩
      obtain ⟨A1, n1, c1, rfl, hn1, hr1, hz1, hg1⟩ := ownV_at ho1.out
      have HB1 := Lib.hid ((HB.out.drew).trans (hb1.out.mono (HB.out.drew).size))
      have HE1 := Lib.hid (HE.out.drew.below hb1.out HE.out.drew.lt)
      have HR1 := Lib.hid (HR.out.drew.below hb1.out HR.out.drew.lt)
      go_wp2_with fail
      refine hK2.out _ _ trivial (fun _ => ?_)
      clear hK2 K2
      (try simp only [List.getElem_toArray]); (try simp only [List.getElem_cons_succ]); (try simp only [List.getElem_cons_zero]); (try simp only [Act.put]); (try simp only [List.setIfInBounds_toArray]); (try simp only [List.set_cons_succ]); (try simp only [List.set_cons_zero])
      clear x3 x4
      have x3 : w1.cell? ⟨w.heap.size, 3, none⟩ = some (.slice Ab nb zb) := HE1.out.cell 3
      have x4 : w1.cell? ⟨w.heap.size, 4, none⟩ = some (.slice Aa na za) := HE1.out.cell 4
      refine wpAnyH_ready (rs := [4]) (by kernel_rfl) (by simp) ?_
      refine AllReadyH.cons rfl (fun K2 hK2 => ?_) (AllReadyH.nil)
      go_simp
      refine hK2.out _ _ trivial (fun _ => ?_)
      clear hK2 K2
      (try simp only [List.getElem_toArray]); (try simp only [List.getElem_cons_succ]); (try simp only [List.getElem_cons_zero]); (try simp only [Act.put]); (try simp only [List.setIfInBounds_toArray]); (try simp only [List.set_cons_succ]); (try simp only [List.set_cons_zero])
      clear x3 x4
      (refine wpAnyH_take (i := 6) (v := ?_) rfl (by kernel_rfl) (by kernel_rfl) (by kernel_rfl) (fun _ _ _ h => h) (Or.inl ⟨by rfl, ?_⟩) (by assumption) ?_; rotate_left; (intro w hSw; (try dsimp only at hSw); go_simp; try with_reducible rfl); ((try simp only [List.getElem_toArray]); (try simp only [List.getElem_cons_succ]); (try simp only [List.getElem_cons_zero]); (try simp only [Act.put]); (try simp only [List.setIfInBounds_toArray]); (try simp only [List.set_cons_succ]); (try simp only [List.set_cons_zero])))
      refine wpAnyH_ready (rs := [5]) (by kernel_rfl) (by simp) ?_
      refine AllReadyH.cons rfl (fun K2 hK2 => ?_) (AllReadyH.nil)
      go_simp
      refine (CA.out _ HB1.out).mono ?_
      rintro e w2 ⟨v2, rfl, ho2, hb2⟩
      obtain ⟨A2, n2, c2, rfl, hn2, hr2, hz2, hg2⟩ := ownV_at ho2.out
      have HB2 := Lib.hid ((HB1.out).trans (hb2.out.mono (HB1.out).size))
      have HE2 := Lib.hid (HE1.out.below hb2.out HE1.out.lt)
      have HR2 := Lib.hid (HR1.out.below hb2.out HR1.out.lt)
      have o1 := (show VRow w2 A1 B from hr1.out.below hb2.out)
      have g1 := hb2.out.size
      go_wp2_with fail
      refine hK2.out _ _ trivial (fun _ => ?_)
      clear hK2 K2
      (try simp only [List.getElem_toArray]); (try simp only [List.getElem_cons_succ]); (try simp only [List.getElem_cons_zero]); (try simp only [Act.put]); (try simp only [List.setIfInBounds_toArray]); (try simp only [List.set_cons_succ]); (try simp only [List.set_cons_zero])
      have f3 := HE2.out.free 3
      have f4 := (HE2.out.put 3 (.slice A1 n1 c1)).free 4
      have x3 : w2.cell? ⟨w.heap.size, 3, none⟩ = some (.slice Ab nb zb) := HE2.out.cell 3
      have x4 : (w2.setCell ⟨w.heap.size, 3, none⟩ (.slice A1 n1 c1)).cell? ⟨w.heap.size, 4, none⟩ = some (.slice Aa na za) := (HE2.out.put 3 (.slice A1 n1 c1)).cell 4
      refine wpAnyH_ready (rs := [7]) (by kernel_rfl) (by simp) ?_
      refine AllReadyH.cons rfl (fun K2 hK2 => ?_) (AllReadyH.nil)
      go_simp
      refine hK2.out _ _ trivial (fun _ => ?_)
      clear hK2 K2
      (try simp only [List.getElem_toArray]); (try simp only [List.getElem_cons_succ]); (try simp only [List.getElem_cons_zero]); (try simp only [Act.put]); (try simp only [List.setIfInBounds_toArray]); (try simp only [List.set_cons_succ]); (try simp only [List.set_cons_zero])
      (refine wpAnyH_take (i := 8) (v := ?_) rfl (by kernel_rfl) (by kernel_rfl) (by kernel_rfl) (fun _ _ _ h => h) (Or.inl ⟨by rfl, ?_⟩) (by assumption) ?_; rotate_left; (intro w hSw; (try dsimp only at hSw); go_simp; try with_reducible rfl); ((try simp only [List.getElem_toArray]); (try simp only [List.getElem_cons_succ]); (try simp only [List.getElem_cons_zero]); (try simp only [Act.put]); (try simp only [List.setIfInBounds_toArray]); (try simp only [List.set_cons_succ]); (try simp only [List.set_cons_zero])))
      refine wpAnyH_ready (rs := [9]) (by kernel_rfl) (by simp) ?_
      refine AllReadyH.cons rfl (fun K2 hK2 => ?_) (AllReadyH.nil)
      go_simp
      refine hK2.out _ _ trivial (fun _ => ?_)
      clear hK2 K2
      (try simp only [List.getElem_toArray]); (try simp only [List.getElem_cons_succ]); (try simp only [List.getElem_cons_zero]); (try simp only [Act.put]); (try simp only [List.setIfInBounds_toArray]); (try simp only [List.set_cons_succ]); (try simp only [List.set_cons_zero])
      refine wpAnyH_done (by kernel_rfl) ?_ _
      clear f3 f4 x3 x4
      have he4 : Has ((w2.setCell ⟨w.heap.size, 3, none⟩ (.slice A1 n1 c1)).setCell ⟨w.heap.size, 4, none⟩ (.slice A2 n2 c2)) w.heap.size 38 #[.int .i64 k, .int .i64 m, .string t, .slice A1 n1 c1, .slice A2 n2 c2, .int .i64 ck, .string ct, .slice A n c, .int .i64 K, .string cn, .int .i64 cq, .bool cb] := (HE2.out.put 3 (.slice A1 n1 c1)).put 4 (.slice A2 n2 c2)
      have hb4 : Below w.heap.size w ((w2.setCell ⟨w.heap.size, 3, none⟩ (.slice A1 n1 c1)).setCell ⟨w.heap.size, 4, none⟩ (.slice A2 n2 c2)) := (HB2.out.setCell (p := ⟨w.heap.size, 3, none⟩) (Nat.le_refl _) _).setCell (p := ⟨w.heap.size, 4, none⟩) (Nat.le_refl _) _
      have hr4 : Has ((w2.setCell ⟨w.heap.size, 3, none⟩ (.slice A1 n1 c1)).setCell ⟨w.heap.size, 4, none⟩ (.slice A2 n2 c2)) (w.heap.size + 1) 38 #[.int .i64 0, .int .i64 0, .string ⟨#[]⟩, .slice none 0 0, .slice none 0 0, .int .i64 0, .string ⟨#[]⟩, .slice none 0 0, .int .i64 0, .string ⟨#[]⟩, .int .i64 0, .bool false] := (HR2.out.far (p := ⟨w.heap.size, 3, none⟩) (by show w.heap.size + 1 ≠ w.heap.size; omega) _).far (p := ⟨w.heap.size, 4, none⟩) (by show w.heap.size + 1 ≠ w.heap.size; omega) _
      have ht4 : Tur [w.heap.size] w2 ((w2.setCell ⟨w.heap.size, 3, none⟩ (.slice A1 n1 c1)).setCell ⟨w.heap.size, 4, none⟩ (.slice A2 n2 c2)) := (Tur.setCell w2 (p := ⟨w.heap.size, 3, none⟩) (by simp) _).trans (Tur.setCell _ (p := ⟨w.heap.size, 4, none⟩) (by simp) _) (Fre.refl _ _)
      have gB1 := HB1.out.size
      have gW : w.heap.size + 2 ≤ w1.heap.size := by have := HR1.out.lt; omega
      have HO1 : Hid (VRow ((w2.setCell ⟨w.heap.size, 3, none⟩ (.slice A1 n1 c1)).setCell ⟨w.heap.size, 4, none⟩ (.slice A2 n2 c2)) A1 B ∧ ∀ a, A1 = some a → w.heap.size + 2 ≤ a.block ∧ a.block < w2.heap.size) := by
        have q : ∀ a, A1 = some a → w.heap.size + 2 ≤ a.block ∧ a.block < w2.heap.size := fun a e => by have h1 := (hg1.out a e).1; have h2 := (hg1.out a e).2; have h3 : w.heap.size + 2 ≤ a.block := (by simp at h1; omega); exact ⟨h3, by omega⟩
        exact ⟨o1.tur ht4 fun a e hh => by have := (q a e).1; simp at hh; omega, q⟩
      have HO2 : Hid (VRow ((w2.setCell ⟨w.heap.size, 3, none⟩ (.slice A1 n1 c1)).setCell ⟨w.heap.size, 4, none⟩ (.slice A2 n2 c2)) A2 AA ∧ ∀ a, A2 = some a → w.heap.size + 2 ≤ a.block ∧ a.block < w2.heap.size) := by
        have q : ∀ a, A2 = some a → w.heap.size + 2 ≤ a.block ∧ a.block < w2.heap.size := fun a e => by have h1 := (hg2.out a e).1; have h2 := (hg2.out a e).2; exact ⟨by omega, by omega⟩
        exact ⟨hr2.out.tur ht4 fun a e hh => by have := (q a e).1; simp at hh; omega, q⟩
      have hs4 : w2.heap.size ≤ ((w2.setCell ⟨w.heap.size, 3, none⟩ (.slice A1 n1 c1)).setCell ⟨w.heap.size, 4, none⟩ (.slice A2 n2 c2)).heap.size := ht4.size
      obtain ⟨w4, hw4⟩ : ∃ W, W = ((w2.setCell ⟨w.heap.size, 3, none⟩ (.slice A1 n1 c1)).setCell ⟨w.heap.size, 4, none⟩ (.slice A2 n2 c2)) := ⟨_, rfl⟩
      rw [← hw4] at he4 hb4 hr4 HO1 HO2 hs4 ⊢
      clear hw4 ht4 o1 g1 hr1 hr2 hg1 hg2 HE2 HR2 HB2 HE1 HR1 HB1 hb1 hb2 ho1 ho2
      have HE4 := Lib.hid he4
      have HB4 := Lib.hid hb4
      have HR4 := Lib.hid hr4
      clear he4 hb4 hr4
      have y7 : w4.cell? ⟨w.heap.size, 7, none⟩ = some (.slice A n c) := HE4.out.cell 7
      have f7 := HE4.out.free 7
      go_wp2_with fail
      refine (CC.out _ HB4.out).mono ?_
      rintro e w5 ⟨v3, rfl, ho3, hb5⟩
      obtain ⟨A3, n3, c3, rfl, hn3, hr3, hz3, hg3⟩ := ownC_at ho3.out
      have y7 : w5.cell? ⟨w.heap.size, 7, none⟩ = some (.slice A n c) := (HE4.out.below hb5.out HE4.out.lt).cell 7
      have f7 := (HE4.out.below hb5.out HE4.out.lt).free 7
      have h6 := (HE4.out.below hb5.out HE4.out.lt).put 7 (.slice A3 n3 c3)
      have HE6 : Hid (Has (w5.setCell ⟨w.heap.size, 7, none⟩ (.slice A3 n3 c3)) w.heap.size 38 #[.int .i64 k, .int .i64 m, .string t, .slice A1 n1 c1, .slice A2 n2 c2, .int .i64 ck, .string ct, .slice A3 n3 c3, .int .i64 K, .string cn, .int .i64 cq, .bool cb]) := h6
      have HR6 := Lib.hid ((HR4.out.below hb5.out HR4.out.lt).far (p := ⟨w.heap.size, 7, none⟩) (by show w.heap.size + 1 ≠ w.heap.size; omega) (.slice A3 n3 c3))
      clear h6
      have HB6 := Lib.hid ((HB4.out.trans (hb5.out.mono HB4.out.size)).setCell (p := ⟨w.heap.size, 7, none⟩) (Nat.le_refl _) (.slice A3 n3 c3))
      obtain ⟨w6, hw6⟩ : ∃ W, w5.setCell ⟨w.heap.size, 7, none⟩ (.slice A3 n3 c3) = W := ⟨_, rfl⟩
      have ht6 : Tur [w.heap.size] w5 w6 := by rw [← hw6]; exact Tur.setCell w5 (p := ⟨w.heap.size, 7, none⟩) (by simp) _
      rw [hw6] at HE6 HR6 HB6
      have HO1b : Hid (VRow w6 A1 B ∧ ∀ a, A1 = some a → w.heap.size + 2 ≤ a.block ∧ a.block < w6.heap.size) := ⟨(HO1.out.1.below hb5.out).tur ht6 fun a e hh => by have := (HO1.out.2 a e).1; simp at hh; omega, fun a e => ⟨(HO1.out.2 a e).1, by have h1 := (HO1.out.2 a e).2; have h2 := hs4; have h3 := hb5.out.size; have h4 := ht6.size; omega⟩⟩
      have HO2b : Hid (VRow w6 A2 AA ∧ ∀ a, A2 = some a → w.heap.size + 2 ≤ a.block ∧ a.block < w6.heap.size) := ⟨(HO2.out.1.below hb5.out).tur ht6 fun a e hh => by have := (HO2.out.2 a e).1; simp at hh; omega, fun a e => ⟨(HO2.out.2 a e).1, by have h1 := (HO2.out.2 a e).2; have h2 := hs4; have h3 := hb5.out.size; have h4 := ht6.size; omega⟩⟩
      have HO3b : Hid (CRow w6 A3 L ∧ ∀ a, A3 = some a → w.heap.size + 2 ≤ a.block ∧ a.block < w6.heap.size) := by
        have q : ∀ a, A3 = some a → w.heap.size + 2 ≤ a.block ∧ a.block < w6.heap.size := fun a e => by have h1 := (hg3.out a e).1; have h2 := (hg3.out a e).2; have h3 := HR4.out.lt; have h4 := ht6.size; exact ⟨by omega, by omega⟩
        exact ⟨hr3.out.tur ht6 fun a e hh => by have := (q a e).1; simp at hh; omega, q⟩
      clear HO1 HO2 hr3 hg3 ht6 hb5 hs4 HE4 HR4 HB4 ho3
      have u0 := HE6.out.cell 0
      have u1 := HE6.out.cell 1
      have u2 := HE6.out.cell 2
      have u3 := HE6.out.cell 3
      have u4 := HE6.out.cell 4
      have u5 := HE6.out.cell 5
      have u6 := HE6.out.cell 6
      have u7 := HE6.out.cell 7
      have u8 := HE6.out.cell 8
      have u9 := HE6.out.cell 9
      have u10 := HE6.out.cell 10
      have u11 := HE6.out.cell 11
      have v0 := HR6.out.cell 0
      have g0 := HR6.out.free 0
      have v1 := HR6.out.cell 1
      have g1 := HR6.out.free 1
      have v2 := HR6.out.cell 2
      have g2 := HR6.out.free 2
      have v3 := HR6.out.cell 3
      have g3 := HR6.out.free 3
      have v4 := HR6.out.cell 4
      have g4 := HR6.out.free 4
      have v5 := HR6.out.cell 5
      have g5 := HR6.out.free 5
      have v6 := HR6.out.cell 6
      have g6 := HR6.out.free 6
      have v7 := HR6.out.cell 7
      have g7 := HR6.out.free 7
      have v8 := HR6.out.cell 8
      have g8 := HR6.out.free 8
      have v9 := HR6.out.cell 9
      have g9 := HR6.out.free 9
      have v10 := HR6.out.cell 10
      have g10 := HR6.out.free 10
      have v11 := HR6.out.cell 11
      have g11 := HR6.out.free 11
      simp only [List.getElem?_toArray, List.getElem?_cons_zero, List.getElem?_cons_succ] at u0 v0 u1 v1 u2 v2 u3 v3 u4 v4 u5 v5 u6 v6 u7 v7 u8 v8 u9 v9 u10 v10 u11 v11
      go_wp2_with fail
      have HF : Hid (Has (put12 w6 (w.heap.size + 1) (.int .i64 k) (.int .i64 m) (.string t) (.slice A1 n1 c1) (.slice A2 n2 c2) (.int .i64 ck) (.string ct) (.slice A3 n3 c3) (.int .i64 K) (.string cn) (.int .i64 cq) (.bool cb)) (w.heap.size + 1) 38 #[.int .i64 k, .int .i64 m, .string t, .slice A1 n1 c1, .slice A2 n2 c2, .int .i64 ck, .string ct, .slice A3 n3 c3, .int .i64 K, .string cn, .int .i64 cq, .bool cb]) := put12_has HR6.out (.int .i64 k) (.int .i64 m) (.string t) (.slice A1 n1 c1) (.slice A2 n2 c2) (.int .i64 ck) (.string ct) (.slice A3 n3 c3) (.int .i64 K) (.string cn) (.int .i64 cq) (.bool cb)
      have ht : Tur [w.heap.size + 1] w6 (put12 w6 (w.heap.size + 1) (.int .i64 k) (.int .i64 m) (.string t) (.slice A1 n1 c1) (.slice A2 n2 c2) (.int .i64 ck) (.string ct) (.slice A3 n3 c3) (.int .i64 K) (.string cn) (.int .i64 cq) (.bool cb)) := put12_tur _ _ (.int .i64 k) (.int .i64 m) (.string t) (.slice A1 n1 c1) (.slice A2 n2 c2) (.int .i64 ck) (.string ct) (.slice A3 n3 c3) (.int .i64 K) (.string cn) (.int .i64 cq) (.bool cb)
      have hbe : Below w.heap.size w (put12 w6 (w.heap.size + 1) (.int .i64 k) (.int .i64 m) (.string t) (.slice A1 n1 c1) (.slice A2 n2 c2) (.int .i64 ck) (.string ct) (.slice A3 n3 c3) (.int .i64 K) (.string cn) (.int .i64 cq) (.bool cb)) := (Tur.of_below HB6.out).trans ht (fun x hx => .inr (by simp at hx; omega)) |>.below (X := []) (fun _ h => (by cases h)) (Nat.le_refl _)
      have hw1 : (w.heap.size + 1) < w6.heap.size := HR6.out.lt
      have q1 := HO1b.out.1.tur ht (fun a e hh => by have := (HO1b.out.2 a e).1; simp at hh; omega)
      have q2 := HO2b.out.1.tur ht (fun a e hh => by have := (HO2b.out.2 a e).1; simp at hh; omega)
      have q3 := HO3b.out.1.tur ht (fun a e hh => by have := (HO3b.out.2 a e).1; simp at hh; omega)
      have hsz := ht.size
      refine bodyPost_ret (v := .agg #[.int .i64 k, .int .i64 m, .string t, .slice A1 n1 c1, .slice A2 n2 c2, .int .i64 ck, .string ct, .slice A3 n3 c3, .int .i64 K, .string cn, .int .i64 cq, .bool cb]) (eEnd (put12 w6 (w.heap.size + 1) (.int .i64 k) (.int .i64 m) (.string t) (.slice A1 n1 c1) (.slice A2 n2 c2) (.int .i64 ck) (.string ct) (.slice A3 n3 c3) (.int .i64 K) (.string cn) (.int .i64 cq) (.bool cb)) (w.heap.size + 1) (.int .i64 k) (.int .i64 m) (.string t) (.slice A1 n1 c1) (.slice A2 n2 c2) (.int .i64 ck) (.string ct) (.slice A3 n3 c3) (.int .i64 K) (.string cn) (.int .i64 cq) (.bool cb) _ rfl HF.out) rfl ?_
      refine ⟨⟨⟨k, m, t, B, AA, ck, ct, L, K, ⟨cn, cq, cb⟩⟩, A1, n1, c1, A2, n2, c2, A3, n3, c3⟩, rfl, ⟨rfl, ⟨⟨hn1.out, ?_, q1, hz1.out⟩, ⟨hn2.out, ?_, q2, hz2.out⟩, ⟨hn3.out, ?_, q3, hz3.out⟩⟩, ?_⟩, hbe⟩
      · exact Nat.le_trans (Nat.le_of_eq (hn1.out.symm.trans HNN.out.1)) HNN.out.2.1
      · exact Nat.le_trans (Nat.le_of_eq (hn2.out.symm.trans HNN.out.2.2.1)) HNN.out.2.2.2.1
      · exact Nat.le_trans (Nat.le_of_eq (hn3.out.symm.trans HNN.out.2.2.2.2.1)) HNN.out.2.2.2.2.2
      · rintro a (h | h | h)
        · exact ⟨Nat.le_trans (Nat.le_add_right _ 2) (HO1b.out.2 a h).1, Nat.lt_of_lt_of_le (HO1b.out.2 a h).2 hsz⟩
        · exact ⟨Nat.le_trans (Nat.le_add_right _ 2) (HO2b.out.2 a h).1, Nat.lt_of_lt_of_le (HO2b.out.2 a h).2 hsz⟩
        · exact ⟨Nat.le_trans (Nat.le_add_right _ 2) (HO3b.out.2 a h).1, Nat.lt_of_lt_of_le (HO3b.out.2 a h).2 hsz⟩
    · go_simp
      refine hK2.out _ _ trivial (fun _ => ?_)
      clear hK2 K2
      (try simp only [List.getElem_toArray]); (try simp only [List.getElem_cons_succ]); (try simp only [List.getElem_cons_zero]); (try simp only [Act.put]); (try simp only [List.setIfInBounds_toArray]); (try simp only [List.set_cons_succ]); (try simp only [List.set_cons_zero])
      refine wpAnyH_ready (rs := [2]) (by kernel_rfl) (by simp) ?_
      refine AllReadyH.cons rfl (fun K2 hK2 => ?_) (AllReadyH.nil)
      go_simp
      refine (CB.out _ HB.out.drew).mono ?_
      rintro e w1 ⟨v1, rfl, ho1, hb1⟩
      obtain ⟨A1, n1, c1, rfl, hn1, hr1, hz1, hg1⟩ := ownV_at ho1.out
      have HB1 := Lib.hid ((HB.out.drew).trans (hb1.out.mono (HB.out.drew).size))
      have HE1 := Lib.hid (HE.out.drew.below hb1.out HE.out.drew.lt)
      have HR1 := Lib.hid (HR.out.drew.below hb1.out HR.out.drew.lt)
      go_wp2_with fail
      refine hK2.out _ _ trivial (fun _ => ?_)
      clear hK2 K2
      (try simp only [List.getElem_toArray]); (try simp only [List.getElem_cons_succ]); (try simp only [List.getElem_cons_zero]); (try simp only [Act.put]); (try simp only [List.setIfInBounds_toArray]); (try simp only [List.set_cons_succ]); (try simp only [List.set_cons_zero])
      clear x3 x4
      (refine wpAnyH_take (i := 6) (v := ?_) rfl (by kernel_rfl) (by kernel_rfl) (by kernel_rfl) (fun _ _ _ h => h) (Or.inl ⟨by rfl, ?_⟩) (by assumption) ?_; rotate_left; (intro w hSw; (try dsimp only at hSw); go_simp; try with_reducible rfl); ((try simp only [List.getElem_toArray]); (try simp only [List.getElem_cons_succ]); (try simp only [List.getElem_cons_zero]); (try simp only [Act.put]); (try simp only [List.setIfInBounds_toArray]); (try simp only [List.set_cons_succ]); (try simp only [List.set_cons_zero])))
      refine wpAnyH_ready (rs := [5]) (by kernel_rfl) (by simp) ?_
      refine AllReadyH.cons rfl (fun K2 hK2 => ?_) (AllReadyH.nil)
      go_simp
      refine (CA.out _ HB1.out).mono ?_
      rintro e w2 ⟨v2, rfl, ho2, hb2⟩
      obtain ⟨A2, n2, c2, rfl, hn2, hr2, hz2, hg2⟩ := ownV_at ho2.out
      have HB2 := Lib.hid ((HB1.out).trans (hb2.out.mono (HB1.out).size))
      have HE2 := Lib.hid (HE1.out.below hb2.out HE1.out.lt)
      have HR2 := Lib.hid (HR1.out.below hb2.out HR1.out.lt)
      have o1 := (show VRow w2 A1 B from hr1.out.below hb2.out)
      have g1 := hb2.out.size
      go_wp2_with fail
      refine hK2.out _ _ trivial (fun _ => ?_)
      clear hK2 K2
      (try simp only [List.getElem_toArray]); (try simp only [List.getElem_cons_succ]); (try simp only [List.getElem_cons_zero]); (try simp only [Act.put]); (try simp only [List.setIfInBounds_toArray]); (try simp only [List.set_cons_succ]); (try simp only [List.set_cons_zero])
      have f3 := HE2.out.free 3
      have f4 := (HE2.out.put 3 (.slice A1 n1 c1)).free 4
      have x3 : w2.cell? ⟨w.heap.size, 3, none⟩ = some (.slice Ab nb zb) := HE2.out.cell 3
      have x4 : (w2.setCell ⟨w.heap.size, 3, none⟩ (.slice A1 n1 c1)).cell? ⟨w.heap.size, 4, none⟩ = some (.slice Aa na za) := (HE2.out.put 3 (.slice A1 n1 c1)).cell 4
      refine wpAnyH_ready (rs := [7]) (by kernel_rfl) (by simp) ?_
      refine AllReadyH.cons rfl (fun K2 hK2 => ?_) (AllReadyH.nil)
      go_simp
      refine hK2.out _ _ trivial (fun _ => ?_)
      clear hK2 K2
      (try simp only [List.getElem_toArray]); (try simp only [List.getElem_cons_succ]); (try simp only [List.getElem_cons_zero]); (try simp only [Act.put]); (try simp only [List.setIfInBounds_toArray]); (try simp only [List.set_cons_succ]); (try simp only [List.set_cons_zero])
      (refine wpAnyH_take (i := 8) (v := ?_) rfl (by kernel_rfl) (by kernel_rfl) (by kernel_rfl) (fun _ _ _ h => h) (Or.inl ⟨by rfl, ?_⟩) (by assumption) ?_; rotate_left; (intro w hSw; (try dsimp only at hSw); go_simp; try with_reducible rfl); ((try simp only [List.getElem_toArray]); (try simp only [List.getElem_cons_succ]); (try simp only [List.getElem_cons_zero]); (try simp only [Act.put]); (try simp only [List.setIfInBounds_toArray]); (try simp only [List.set_cons_succ]); (try simp only [List.set_cons_zero])))
      refine wpAnyH_ready (rs := [9]) (by kernel_rfl) (by simp) ?_
      refine AllReadyH.cons rfl (fun K2 hK2 => ?_) (AllReadyH.nil)
      go_simp
      refine hK2.out _ _ trivial (fun _ => ?_)
      clear hK2 K2
      (try simp only [List.getElem_toArray]); (try simp only [List.getElem_cons_succ]); (try simp only [List.getElem_cons_zero]); (try simp only [Act.put]); (try simp only [List.setIfInBounds_toArray]); (try simp only [List.set_cons_succ]); (try simp only [List.set_cons_zero])
      refine wpAnyH_done (by kernel_rfl) ?_ _
      clear f3 f4 x3 x4
      have he4 : Has ((w2.setCell ⟨w.heap.size, 3, none⟩ (.slice A1 n1 c1)).setCell ⟨w.heap.size, 4, none⟩ (.slice A2 n2 c2)) w.heap.size 38 #[.int .i64 k, .int .i64 m, .string t, .slice A1 n1 c1, .slice A2 n2 c2, .int .i64 ck, .string ct, .slice A n c, .int .i64 K, .string cn, .int .i64 cq, .bool cb] := (HE2.out.put 3 (.slice A1 n1 c1)).put 4 (.slice A2 n2 c2)
      have hb4 : Below w.heap.size w ((w2.setCell ⟨w.heap.size, 3, none⟩ (.slice A1 n1 c1)).setCell ⟨w.heap.size, 4, none⟩ (.slice A2 n2 c2)) := (HB2.out.setCell (p := ⟨w.heap.size, 3, none⟩) (Nat.le_refl _) _).setCell (p := ⟨w.heap.size, 4, none⟩) (Nat.le_refl _) _
      have hr4 : Has ((w2.setCell ⟨w.heap.size, 3, none⟩ (.slice A1 n1 c1)).setCell ⟨w.heap.size, 4, none⟩ (.slice A2 n2 c2)) (w.heap.size + 1) 38 #[.int .i64 0, .int .i64 0, .string ⟨#[]⟩, .slice none 0 0, .slice none 0 0, .int .i64 0, .string ⟨#[]⟩, .slice none 0 0, .int .i64 0, .string ⟨#[]⟩, .int .i64 0, .bool false] := (HR2.out.far (p := ⟨w.heap.size, 3, none⟩) (by show w.heap.size + 1 ≠ w.heap.size; omega) _).far (p := ⟨w.heap.size, 4, none⟩) (by show w.heap.size + 1 ≠ w.heap.size; omega) _
      have ht4 : Tur [w.heap.size] w2 ((w2.setCell ⟨w.heap.size, 3, none⟩ (.slice A1 n1 c1)).setCell ⟨w.heap.size, 4, none⟩ (.slice A2 n2 c2)) := (Tur.setCell w2 (p := ⟨w.heap.size, 3, none⟩) (by simp) _).trans (Tur.setCell _ (p := ⟨w.heap.size, 4, none⟩) (by simp) _) (Fre.refl _ _)
      have gB1 := HB1.out.size
      have gW : w.heap.size + 2 ≤ w1.heap.size := by have := HR1.out.lt; omega
      have HO1 : Hid (VRow ((w2.setCell ⟨w.heap.size, 3, none⟩ (.slice A1 n1 c1)).setCell ⟨w.heap.size, 4, none⟩ (.slice A2 n2 c2)) A1 B ∧ ∀ a, A1 = some a → w.heap.size + 2 ≤ a.block ∧ a.block < w2.heap.size) := by
        have q : ∀ a, A1 = some a → w.heap.size + 2 ≤ a.block ∧ a.block < w2.heap.size := fun a e => by have h1 := (hg1.out a e).1; have h2 := (hg1.out a e).2; have h3 : w.heap.size + 2 ≤ a.block := (by simp at h1; omega); exact ⟨h3, by omega⟩
        exact ⟨o1.tur ht4 fun a e hh => by have := (q a e).1; simp at hh; omega, q⟩
      have HO2 : Hid (VRow ((w2.setCell ⟨w.heap.size, 3, none⟩ (.slice A1 n1 c1)).setCell ⟨w.heap.size, 4, none⟩ (.slice A2 n2 c2)) A2 AA ∧ ∀ a, A2 = some a → w.heap.size + 2 ≤ a.block ∧ a.block < w2.heap.size) := by
        have q : ∀ a, A2 = some a → w.heap.size + 2 ≤ a.block ∧ a.block < w2.heap.size := fun a e => by have h1 := (hg2.out a e).1; have h2 := (hg2.out a e).2; exact ⟨by omega, by omega⟩
        exact ⟨hr2.out.tur ht4 fun a e hh => by have := (q a e).1; simp at hh; omega, q⟩
      have hs4 : w2.heap.size ≤ ((w2.setCell ⟨w.heap.size, 3, none⟩ (.slice A1 n1 c1)).setCell ⟨w.heap.size, 4, none⟩ (.slice A2 n2 c2)).heap.size := ht4.size
      obtain ⟨w4, hw4⟩ : ∃ W, W = ((w2.setCell ⟨w.heap.size, 3, none⟩ (.slice A1 n1 c1)).setCell ⟨w.heap.size, 4, none⟩ (.slice A2 n2 c2)) := ⟨_, rfl⟩
      rw [← hw4] at he4 hb4 hr4 HO1 HO2 hs4 ⊢
      clear hw4 ht4 o1 g1 hr1 hr2 hg1 hg2 HE2 HR2 HB2 HE1 HR1 HB1 hb1 hb2 ho1 ho2
      have HE4 := Lib.hid he4
      have HB4 := Lib.hid hb4
      have HR4 := Lib.hid hr4
      clear he4 hb4 hr4
      have y7 : w4.cell? ⟨w.heap.size, 7, none⟩ = some (.slice A n c) := HE4.out.cell 7
      have f7 := HE4.out.free 7
      go_wp2_with fail
      refine (CC.out _ HB4.out).mono ?_
      rintro e w5 ⟨v3, rfl, ho3, hb5⟩
      obtain ⟨A3, n3, c3, rfl, hn3, hr3, hz3, hg3⟩ := ownC_at ho3.out
      have y7 : w5.cell? ⟨w.heap.size, 7, none⟩ = some (.slice A n c) := (HE4.out.below hb5.out HE4.out.lt).cell 7
      have f7 := (HE4.out.below hb5.out HE4.out.lt).free 7
      have h6 := (HE4.out.below hb5.out HE4.out.lt).put 7 (.slice A3 n3 c3)
      have HE6 : Hid (Has (w5.setCell ⟨w.heap.size, 7, none⟩ (.slice A3 n3 c3)) w.heap.size 38 #[.int .i64 k, .int .i64 m, .string t, .slice A1 n1 c1, .slice A2 n2 c2, .int .i64 ck, .string ct, .slice A3 n3 c3, .int .i64 K, .string cn, .int .i64 cq, .bool cb]) := h6
      have HR6 := Lib.hid ((HR4.out.below hb5.out HR4.out.lt).far (p := ⟨w.heap.size, 7, none⟩) (by show w.heap.size + 1 ≠ w.heap.size; omega) (.slice A3 n3 c3))
      clear h6
      have HB6 := Lib.hid ((HB4.out.trans (hb5.out.mono HB4.out.size)).setCell (p := ⟨w.heap.size, 7, none⟩) (Nat.le_refl _) (.slice A3 n3 c3))
      obtain ⟨w6, hw6⟩ : ∃ W, w5.setCell ⟨w.heap.size, 7, none⟩ (.slice A3 n3 c3) = W := ⟨_, rfl⟩
      have ht6 : Tur [w.heap.size] w5 w6 := by rw [← hw6]; exact Tur.setCell w5 (p := ⟨w.heap.size, 7, none⟩) (by simp) _
      rw [hw6] at HE6 HR6 HB6
      have HO1b : Hid (VRow w6 A1 B ∧ ∀ a, A1 = some a → w.heap.size + 2 ≤ a.block ∧ a.block < w6.heap.size) := ⟨(HO1.out.1.below hb5.out).tur ht6 fun a e hh => by have := (HO1.out.2 a e).1; simp at hh; omega, fun a e => ⟨(HO1.out.2 a e).1, by have h1 := (HO1.out.2 a e).2; have h2 := hs4; have h3 := hb5.out.size; have h4 := ht6.size; omega⟩⟩
      have HO2b : Hid (VRow w6 A2 AA ∧ ∀ a, A2 = some a → w.heap.size + 2 ≤ a.block ∧ a.block < w6.heap.size) := ⟨(HO2.out.1.below hb5.out).tur ht6 fun a e hh => by have := (HO2.out.2 a e).1; simp at hh; omega, fun a e => ⟨(HO2.out.2 a e).1, by have h1 := (HO2.out.2 a e).2; have h2 := hs4; have h3 := hb5.out.size; have h4 := ht6.size; omega⟩⟩
      have HO3b : Hid (CRow w6 A3 L ∧ ∀ a, A3 = some a → w.heap.size + 2 ≤ a.block ∧ a.block < w6.heap.size) := by
        have q : ∀ a, A3 = some a → w.heap.size + 2 ≤ a.block ∧ a.block < w6.heap.size := fun a e => by have h1 := (hg3.out a e).1; have h2 := (hg3.out a e).2; have h3 := HR4.out.lt; have h4 := ht6.size; exact ⟨by omega, by omega⟩
        exact ⟨hr3.out.tur ht6 fun a e hh => by have := (q a e).1; simp at hh; omega, q⟩
      clear HO1 HO2 hr3 hg3 ht6 hb5 hs4 HE4 HR4 HB4 ho3
      have u0 := HE6.out.cell 0
      have u1 := HE6.out.cell 1
      have u2 := HE6.out.cell 2
      have u3 := HE6.out.cell 3
      have u4 := HE6.out.cell 4
      have u5 := HE6.out.cell 5
      have u6 := HE6.out.cell 6
      have u7 := HE6.out.cell 7
      have u8 := HE6.out.cell 8
      have u9 := HE6.out.cell 9
      have u10 := HE6.out.cell 10
      have u11 := HE6.out.cell 11
      have v0 := HR6.out.cell 0
      have g0 := HR6.out.free 0
      have v1 := HR6.out.cell 1
      have g1 := HR6.out.free 1
      have v2 := HR6.out.cell 2
      have g2 := HR6.out.free 2
      have v3 := HR6.out.cell 3
      have g3 := HR6.out.free 3
      have v4 := HR6.out.cell 4
      have g4 := HR6.out.free 4
      have v5 := HR6.out.cell 5
      have g5 := HR6.out.free 5
      have v6 := HR6.out.cell 6
      have g6 := HR6.out.free 6
      have v7 := HR6.out.cell 7
      have g7 := HR6.out.free 7
      have v8 := HR6.out.cell 8
      have g8 := HR6.out.free 8
      have v9 := HR6.out.cell 9
      have g9 := HR6.out.free 9
      have v10 := HR6.out.cell 10
      have g10 := HR6.out.free 10
      have v11 := HR6.out.cell 11
      have g11 := HR6.out.free 11
      simp only [List.getElem?_toArray, List.getElem?_cons_zero, List.getElem?_cons_succ] at u0 v0 u1 v1 u2 v2 u3 v3 u4 v4 u5 v5 u6 v6 u7 v7 u8 v8 u9 v9 u10 v10 u11 v11
      go_wp2_with fail
      have HF : Hid (Has (put12 w6 (w.heap.size + 1) (.int .i64 k) (.int .i64 m) (.string t) (.slice A1 n1 c1) (.slice A2 n2 c2) (.int .i64 ck) (.string ct) (.slice A3 n3 c3) (.int .i64 K) (.string cn) (.int .i64 cq) (.bool cb)) (w.heap.size + 1) 38 #[.int .i64 k, .int .i64 m, .string t, .slice A1 n1 c1, .slice A2 n2 c2, .int .i64 ck, .string ct, .slice A3 n3 c3, .int .i64 K, .string cn, .int .i64 cq, .bool cb]) := put12_has HR6.out (.int .i64 k) (.int .i64 m) (.string t) (.slice A1 n1 c1) (.slice A2 n2 c2) (.int .i64 ck) (.string ct) (.slice A3 n3 c3) (.int .i64 K) (.string cn) (.int .i64 cq) (.bool cb)
      have ht : Tur [w.heap.size + 1] w6 (put12 w6 (w.heap.size + 1) (.int .i64 k) (.int .i64 m) (.string t) (.slice A1 n1 c1) (.slice A2 n2 c2) (.int .i64 ck) (.string ct) (.slice A3 n3 c3) (.int .i64 K) (.string cn) (.int .i64 cq) (.bool cb)) := put12_tur _ _ (.int .i64 k) (.int .i64 m) (.string t) (.slice A1 n1 c1) (.slice A2 n2 c2) (.int .i64 ck) (.string ct) (.slice A3 n3 c3) (.int .i64 K) (.string cn) (.int .i64 cq) (.bool cb)
      have hbe : Below w.heap.size w (put12 w6 (w.heap.size + 1) (.int .i64 k) (.int .i64 m) (.string t) (.slice A1 n1 c1) (.slice A2 n2 c2) (.int .i64 ck) (.string ct) (.slice A3 n3 c3) (.int .i64 K) (.string cn) (.int .i64 cq) (.bool cb)) := (Tur.of_below HB6.out).trans ht (fun x hx => .inr (by simp at hx; omega)) |>.below (X := []) (fun _ h => (by cases h)) (Nat.le_refl _)
      have hw1 : (w.heap.size + 1) < w6.heap.size := HR6.out.lt
      have q1 := HO1b.out.1.tur ht (fun a e hh => by have := (HO1b.out.2 a e).1; simp at hh; omega)
      have q2 := HO2b.out.1.tur ht (fun a e hh => by have := (HO2b.out.2 a e).1; simp at hh; omega)
      have q3 := HO3b.out.1.tur ht (fun a e hh => by have := (HO3b.out.2 a e).1; simp at hh; omega)
      have hsz := ht.size
      refine bodyPost_ret (v := .agg #[.int .i64 k, .int .i64 m, .string t, .slice A1 n1 c1, .slice A2 n2 c2, .int .i64 ck, .string ct, .slice A3 n3 c3, .int .i64 K, .string cn, .int .i64 cq, .bool cb]) (eEnd (put12 w6 (w.heap.size + 1) (.int .i64 k) (.int .i64 m) (.string t) (.slice A1 n1 c1) (.slice A2 n2 c2) (.int .i64 ck) (.string ct) (.slice A3 n3 c3) (.int .i64 K) (.string cn) (.int .i64 cq) (.bool cb)) (w.heap.size + 1) (.int .i64 k) (.int .i64 m) (.string t) (.slice A1 n1 c1) (.slice A2 n2 c2) (.int .i64 ck) (.string ct) (.slice A3 n3 c3) (.int .i64 K) (.string cn) (.int .i64 cq) (.bool cb) _ rfl HF.out) rfl ?_
      refine ⟨⟨⟨k, m, t, B, AA, ck, ct, L, K, ⟨cn, cq, cb⟩⟩, A1, n1, c1, A2, n2, c2, A3, n3, c3⟩, rfl, ⟨rfl, ⟨⟨hn1.out, ?_, q1, hz1.out⟩, ⟨hn2.out, ?_, q2, hz2.out⟩, ⟨hn3.out, ?_, q3, hz3.out⟩⟩, ?_⟩, hbe⟩
      · exact Nat.le_trans (Nat.le_of_eq (hn1.out.symm.trans HNN.out.1)) HNN.out.2.1
      · exact Nat.le_trans (Nat.le_of_eq (hn2.out.symm.trans HNN.out.2.2.1)) HNN.out.2.2.2.1
      · exact Nat.le_trans (Nat.le_of_eq (hn3.out.symm.trans HNN.out.2.2.2.2.1)) HNN.out.2.2.2.2.2
      · rintro a (h | h | h)
        · exact ⟨Nat.le_trans (Nat.le_add_right _ 2) (HO1b.out.2 a h).1, Nat.lt_of_lt_of_le (HO1b.out.2 a h).2 hsz⟩
        · exact ⟨Nat.le_trans (Nat.le_add_right _ 2) (HO2b.out.2 a h).1, Nat.lt_of_lt_of_le (HO2b.out.2 a h).2 hsz⟩
        · exact ⟨Nat.le_trans (Nat.le_add_right _ 2) (HO3b.out.2 a h).1, Nat.lt_of_lt_of_le (HO3b.out.2 a h).2 hsz⟩
  · go_simp
    refine hK2.out _ _ trivial (fun _ => ?_)
    clear hK2 K2
    (try simp only [List.getElem_toArray]); (try simp only [List.getElem_cons_succ]); (try simp only [List.getElem_cons_zero]); (try simp only [Act.put]); (try simp only [List.setIfInBounds_toArray]); (try simp only [List.set_cons_succ]); (try simp only [List.set_cons_zero])
    refine wpAnyH_ready (rs := [1]) (by kernel_rfl) (by simp) ?_
    refine AllReadyH.cons rfl (fun K2 hK2 => ?_) (AllReadyH.nil)
    go_simp
    refine hK2.out _ _ trivial (fun _ => ?_)
    clear hK2 K2
    (try simp only [List.getElem_toArray]); (try simp only [List.getElem_cons_succ]); (try simp only [List.getElem_cons_zero]); (try simp only [Act.put]); (try simp only [List.setIfInBounds_toArray]); (try simp only [List.set_cons_succ]); (try simp only [List.set_cons_zero])
    refine wpAnyH_ready (rs := [2]) (by kernel_rfl) (by simp) ?_
    refine AllReadyH.cons rfl (fun K2 hK2 => ?_) (AllReadyH.nil)
    go_simp
    refine (CB.out _ HB.out.drew).mono ?_
    rintro e w1 ⟨v1, rfl, ho1, hb1⟩
    obtain ⟨A1, n1, c1, rfl, hn1, hr1, hz1, hg1⟩ := ownV_at ho1.out
    have HB1 := Lib.hid ((HB.out.drew).trans (hb1.out.mono (HB.out.drew).size))
    have HE1 := Lib.hid (HE.out.drew.below hb1.out HE.out.drew.lt)
    have HR1 := Lib.hid (HR.out.drew.below hb1.out HR.out.drew.lt)
    go_wp2_with fail
    refine hK2.out _ _ trivial (fun _ => ?_)
    clear hK2 K2
    (try simp only [List.getElem_toArray]); (try simp only [List.getElem_cons_succ]); (try simp only [List.getElem_cons_zero]); (try simp only [Act.put]); (try simp only [List.setIfInBounds_toArray]); (try simp only [List.set_cons_succ]); (try simp only [List.set_cons_zero])
    clear x3 x4
    (refine wpAnyH_take (i := 6) (v := ?_) rfl (by kernel_rfl) (by kernel_rfl) (by kernel_rfl) (fun _ _ _ h => h) (Or.inl ⟨by rfl, ?_⟩) (by assumption) ?_; rotate_left; (intro w hSw; (try dsimp only at hSw); go_simp; try with_reducible rfl); ((try simp only [List.getElem_toArray]); (try simp only [List.getElem_cons_succ]); (try simp only [List.getElem_cons_zero]); (try simp only [Act.put]); (try simp only [List.setIfInBounds_toArray]); (try simp only [List.set_cons_succ]); (try simp only [List.set_cons_zero])))
    refine wpAnyH_ready (rs := [5]) (by kernel_rfl) (by simp) ?_
    refine AllReadyH.cons rfl (fun K2 hK2 => ?_) (AllReadyH.nil)
    go_simp
    refine (CA.out _ HB1.out).mono ?_
    rintro e w2 ⟨v2, rfl, ho2, hb2⟩
    obtain ⟨A2, n2, c2, rfl, hn2, hr2, hz2, hg2⟩ := ownV_at ho2.out
    have HB2 := Lib.hid ((HB1.out).trans (hb2.out.mono (HB1.out).size))
    have HE2 := Lib.hid (HE1.out.below hb2.out HE1.out.lt)
    have HR2 := Lib.hid (HR1.out.below hb2.out HR1.out.lt)
    have o1 := (show VRow w2 A1 B from hr1.out.below hb2.out)
    have g1 := hb2.out.size
    go_wp2_with fail
    refine hK2.out _ _ trivial (fun _ => ?_)
    clear hK2 K2
    (try simp only [List.getElem_toArray]); (try simp only [List.getElem_cons_succ]); (try simp only [List.getElem_cons_zero]); (try simp only [Act.put]); (try simp only [List.setIfInBounds_toArray]); (try simp only [List.set_cons_succ]); (try simp only [List.set_cons_zero])
    have f3 := HE2.out.free 3
    have f4 := (HE2.out.put 3 (.slice A1 n1 c1)).free 4
    have x3 : w2.cell? ⟨w.heap.size, 3, none⟩ = some (.slice Ab nb zb) := HE2.out.cell 3
    have x4 : (w2.setCell ⟨w.heap.size, 3, none⟩ (.slice A1 n1 c1)).cell? ⟨w.heap.size, 4, none⟩ = some (.slice Aa na za) := (HE2.out.put 3 (.slice A1 n1 c1)).cell 4
    refine wpAnyH_ready (rs := [7]) (by kernel_rfl) (by simp) ?_
    refine AllReadyH.cons rfl (fun K2 hK2 => ?_) (AllReadyH.nil)
    go_simp
    refine hK2.out _ _ trivial (fun _ => ?_)
    clear hK2 K2
    (try simp only [List.getElem_toArray]); (try simp only [List.getElem_cons_succ]); (try simp only [List.getElem_cons_zero]); (try simp only [Act.put]); (try simp only [List.setIfInBounds_toArray]); (try simp only [List.set_cons_succ]); (try simp only [List.set_cons_zero])
    (refine wpAnyH_take (i := 8) (v := ?_) rfl (by kernel_rfl) (by kernel_rfl) (by kernel_rfl) (fun _ _ _ h => h) (Or.inl ⟨by rfl, ?_⟩) (by assumption) ?_; rotate_left; (intro w hSw; (try dsimp only at hSw); go_simp; try with_reducible rfl); ((try simp only [List.getElem_toArray]); (try simp only [List.getElem_cons_succ]); (try simp only [List.getElem_cons_zero]); (try simp only [Act.put]); (try simp only [List.setIfInBounds_toArray]); (try simp only [List.set_cons_succ]); (try simp only [List.set_cons_zero])))
    refine wpAnyH_ready (rs := [9]) (by kernel_rfl) (by simp) ?_
    refine AllReadyH.cons rfl (fun K2 hK2 => ?_) (AllReadyH.nil)
    go_simp
    refine hK2.out _ _ trivial (fun _ => ?_)
    clear hK2 K2
    (try simp only [List.getElem_toArray]); (try simp only [List.getElem_cons_succ]); (try simp only [List.getElem_cons_zero]); (try simp only [Act.put]); (try simp only [List.setIfInBounds_toArray]); (try simp only [List.set_cons_succ]); (try simp only [List.set_cons_zero])
    refine wpAnyH_done (by kernel_rfl) ?_ _
    clear f3 f4 x3 x4
    have he4 : Has ((w2.setCell ⟨w.heap.size, 3, none⟩ (.slice A1 n1 c1)).setCell ⟨w.heap.size, 4, none⟩ (.slice A2 n2 c2)) w.heap.size 38 #[.int .i64 k, .int .i64 m, .string t, .slice A1 n1 c1, .slice A2 n2 c2, .int .i64 ck, .string ct, .slice A n c, .int .i64 K, .string cn, .int .i64 cq, .bool cb] := (HE2.out.put 3 (.slice A1 n1 c1)).put 4 (.slice A2 n2 c2)
    have hb4 : Below w.heap.size w ((w2.setCell ⟨w.heap.size, 3, none⟩ (.slice A1 n1 c1)).setCell ⟨w.heap.size, 4, none⟩ (.slice A2 n2 c2)) := (HB2.out.setCell (p := ⟨w.heap.size, 3, none⟩) (Nat.le_refl _) _).setCell (p := ⟨w.heap.size, 4, none⟩) (Nat.le_refl _) _
    have hr4 : Has ((w2.setCell ⟨w.heap.size, 3, none⟩ (.slice A1 n1 c1)).setCell ⟨w.heap.size, 4, none⟩ (.slice A2 n2 c2)) (w.heap.size + 1) 38 #[.int .i64 0, .int .i64 0, .string ⟨#[]⟩, .slice none 0 0, .slice none 0 0, .int .i64 0, .string ⟨#[]⟩, .slice none 0 0, .int .i64 0, .string ⟨#[]⟩, .int .i64 0, .bool false] := (HR2.out.far (p := ⟨w.heap.size, 3, none⟩) (by show w.heap.size + 1 ≠ w.heap.size; omega) _).far (p := ⟨w.heap.size, 4, none⟩) (by show w.heap.size + 1 ≠ w.heap.size; omega) _
    have ht4 : Tur [w.heap.size] w2 ((w2.setCell ⟨w.heap.size, 3, none⟩ (.slice A1 n1 c1)).setCell ⟨w.heap.size, 4, none⟩ (.slice A2 n2 c2)) := (Tur.setCell w2 (p := ⟨w.heap.size, 3, none⟩) (by simp) _).trans (Tur.setCell _ (p := ⟨w.heap.size, 4, none⟩) (by simp) _) (Fre.refl _ _)
    have gB1 := HB1.out.size
    have gW : w.heap.size + 2 ≤ w1.heap.size := by have := HR1.out.lt; omega
    have HO1 : Hid (VRow ((w2.setCell ⟨w.heap.size, 3, none⟩ (.slice A1 n1 c1)).setCell ⟨w.heap.size, 4, none⟩ (.slice A2 n2 c2)) A1 B ∧ ∀ a, A1 = some a → w.heap.size + 2 ≤ a.block ∧ a.block < w2.heap.size) := by
      have q : ∀ a, A1 = some a → w.heap.size + 2 ≤ a.block ∧ a.block < w2.heap.size := fun a e => by have h1 := (hg1.out a e).1; have h2 := (hg1.out a e).2; have h3 : w.heap.size + 2 ≤ a.block := (by simp at h1; omega); exact ⟨h3, by omega⟩
      exact ⟨o1.tur ht4 fun a e hh => by have := (q a e).1; simp at hh; omega, q⟩
    have HO2 : Hid (VRow ((w2.setCell ⟨w.heap.size, 3, none⟩ (.slice A1 n1 c1)).setCell ⟨w.heap.size, 4, none⟩ (.slice A2 n2 c2)) A2 AA ∧ ∀ a, A2 = some a → w.heap.size + 2 ≤ a.block ∧ a.block < w2.heap.size) := by
      have q : ∀ a, A2 = some a → w.heap.size + 2 ≤ a.block ∧ a.block < w2.heap.size := fun a e => by have h1 := (hg2.out a e).1; have h2 := (hg2.out a e).2; exact ⟨by omega, by omega⟩
      exact ⟨hr2.out.tur ht4 fun a e hh => by have := (q a e).1; simp at hh; omega, q⟩
    have hs4 : w2.heap.size ≤ ((w2.setCell ⟨w.heap.size, 3, none⟩ (.slice A1 n1 c1)).setCell ⟨w.heap.size, 4, none⟩ (.slice A2 n2 c2)).heap.size := ht4.size
    obtain ⟨w4, hw4⟩ : ∃ W, W = ((w2.setCell ⟨w.heap.size, 3, none⟩ (.slice A1 n1 c1)).setCell ⟨w.heap.size, 4, none⟩ (.slice A2 n2 c2)) := ⟨_, rfl⟩
    rw [← hw4] at he4 hb4 hr4 HO1 HO2 hs4 ⊢
    clear hw4 ht4 o1 g1 hr1 hr2 hg1 hg2 HE2 HR2 HB2 HE1 HR1 HB1 hb1 hb2 ho1 ho2
    have HE4 := Lib.hid he4
    have HB4 := Lib.hid hb4
    have HR4 := Lib.hid hr4
    clear he4 hb4 hr4
    have y7 : w4.cell? ⟨w.heap.size, 7, none⟩ = some (.slice A n c) := HE4.out.cell 7
    have f7 := HE4.out.free 7
    go_wp2_with fail
    refine (CC.out _ HB4.out).mono ?_
    rintro e w5 ⟨v3, rfl, ho3, hb5⟩
    obtain ⟨A3, n3, c3, rfl, hn3, hr3, hz3, hg3⟩ := ownC_at ho3.out
    have y7 : w5.cell? ⟨w.heap.size, 7, none⟩ = some (.slice A n c) := (HE4.out.below hb5.out HE4.out.lt).cell 7
    have f7 := (HE4.out.below hb5.out HE4.out.lt).free 7
    have h6 := (HE4.out.below hb5.out HE4.out.lt).put 7 (.slice A3 n3 c3)
    have HE6 : Hid (Has (w5.setCell ⟨w.heap.size, 7, none⟩ (.slice A3 n3 c3)) w.heap.size 38 #[.int .i64 k, .int .i64 m, .string t, .slice A1 n1 c1, .slice A2 n2 c2, .int .i64 ck, .string ct, .slice A3 n3 c3, .int .i64 K, .string cn, .int .i64 cq, .bool cb]) := h6
    have HR6 := Lib.hid ((HR4.out.below hb5.out HR4.out.lt).far (p := ⟨w.heap.size, 7, none⟩) (by show w.heap.size + 1 ≠ w.heap.size; omega) (.slice A3 n3 c3))
    clear h6
    have HB6 := Lib.hid ((HB4.out.trans (hb5.out.mono HB4.out.size)).setCell (p := ⟨w.heap.size, 7, none⟩) (Nat.le_refl _) (.slice A3 n3 c3))
    obtain ⟨w6, hw6⟩ : ∃ W, w5.setCell ⟨w.heap.size, 7, none⟩ (.slice A3 n3 c3) = W := ⟨_, rfl⟩
    have ht6 : Tur [w.heap.size] w5 w6 := by rw [← hw6]; exact Tur.setCell w5 (p := ⟨w.heap.size, 7, none⟩) (by simp) _
    rw [hw6] at HE6 HR6 HB6
    have HO1b : Hid (VRow w6 A1 B ∧ ∀ a, A1 = some a → w.heap.size + 2 ≤ a.block ∧ a.block < w6.heap.size) := ⟨(HO1.out.1.below hb5.out).tur ht6 fun a e hh => by have := (HO1.out.2 a e).1; simp at hh; omega, fun a e => ⟨(HO1.out.2 a e).1, by have h1 := (HO1.out.2 a e).2; have h2 := hs4; have h3 := hb5.out.size; have h4 := ht6.size; omega⟩⟩
    have HO2b : Hid (VRow w6 A2 AA ∧ ∀ a, A2 = some a → w.heap.size + 2 ≤ a.block ∧ a.block < w6.heap.size) := ⟨(HO2.out.1.below hb5.out).tur ht6 fun a e hh => by have := (HO2.out.2 a e).1; simp at hh; omega, fun a e => ⟨(HO2.out.2 a e).1, by have h1 := (HO2.out.2 a e).2; have h2 := hs4; have h3 := hb5.out.size; have h4 := ht6.size; omega⟩⟩
    have HO3b : Hid (CRow w6 A3 L ∧ ∀ a, A3 = some a → w.heap.size + 2 ≤ a.block ∧ a.block < w6.heap.size) := by
      have q : ∀ a, A3 = some a → w.heap.size + 2 ≤ a.block ∧ a.block < w6.heap.size := fun a e => by have h1 := (hg3.out a e).1; have h2 := (hg3.out a e).2; have h3 := HR4.out.lt; have h4 := ht6.size; exact ⟨by omega, by omega⟩
      exact ⟨hr3.out.tur ht6 fun a e hh => by have := (q a e).1; simp at hh; omega, q⟩
    clear HO1 HO2 hr3 hg3 ht6 hb5 hs4 HE4 HR4 HB4 ho3
    have u0 := HE6.out.cell 0
    have u1 := HE6.out.cell 1
    have u2 := HE6.out.cell 2
    have u3 := HE6.out.cell 3
    have u4 := HE6.out.cell 4
    have u5 := HE6.out.cell 5
    have u6 := HE6.out.cell 6
    have u7 := HE6.out.cell 7
    have u8 := HE6.out.cell 8
    have u9 := HE6.out.cell 9
    have u10 := HE6.out.cell 10
    have u11 := HE6.out.cell 11
    have v0 := HR6.out.cell 0
    have g0 := HR6.out.free 0
    have v1 := HR6.out.cell 1
    have g1 := HR6.out.free 1
    have v2 := HR6.out.cell 2
    have g2 := HR6.out.free 2
    have v3 := HR6.out.cell 3
    have g3 := HR6.out.free 3
    have v4 := HR6.out.cell 4
    have g4 := HR6.out.free 4
    have v5 := HR6.out.cell 5
    have g5 := HR6.out.free 5
    have v6 := HR6.out.cell 6
    have g6 := HR6.out.free 6
    have v7 := HR6.out.cell 7
    have g7 := HR6.out.free 7
    have v8 := HR6.out.cell 8
    have g8 := HR6.out.free 8
    have v9 := HR6.out.cell 9
    have g9 := HR6.out.free 9
    have v10 := HR6.out.cell 10
    have g10 := HR6.out.free 10
    have v11 := HR6.out.cell 11
    have g11 := HR6.out.free 11
    simp only [List.getElem?_toArray, List.getElem?_cons_zero, List.getElem?_cons_succ] at u0 v0 u1 v1 u2 v2 u3 v3 u4 v4 u5 v5 u6 v6 u7 v7 u8 v8 u9 v9 u10 v10 u11 v11
    go_wp2_with fail
    have HF : Hid (Has (put12 w6 (w.heap.size + 1) (.int .i64 k) (.int .i64 m) (.string t) (.slice A1 n1 c1) (.slice A2 n2 c2) (.int .i64 ck) (.string ct) (.slice A3 n3 c3) (.int .i64 K) (.string cn) (.int .i64 cq) (.bool cb)) (w.heap.size + 1) 38 #[.int .i64 k, .int .i64 m, .string t, .slice A1 n1 c1, .slice A2 n2 c2, .int .i64 ck, .string ct, .slice A3 n3 c3, .int .i64 K, .string cn, .int .i64 cq, .bool cb]) := put12_has HR6.out (.int .i64 k) (.int .i64 m) (.string t) (.slice A1 n1 c1) (.slice A2 n2 c2) (.int .i64 ck) (.string ct) (.slice A3 n3 c3) (.int .i64 K) (.string cn) (.int .i64 cq) (.bool cb)
    have ht : Tur [w.heap.size + 1] w6 (put12 w6 (w.heap.size + 1) (.int .i64 k) (.int .i64 m) (.string t) (.slice A1 n1 c1) (.slice A2 n2 c2) (.int .i64 ck) (.string ct) (.slice A3 n3 c3) (.int .i64 K) (.string cn) (.int .i64 cq) (.bool cb)) := put12_tur _ _ (.int .i64 k) (.int .i64 m) (.string t) (.slice A1 n1 c1) (.slice A2 n2 c2) (.int .i64 ck) (.string ct) (.slice A3 n3 c3) (.int .i64 K) (.string cn) (.int .i64 cq) (.bool cb)
    have hbe : Below w.heap.size w (put12 w6 (w.heap.size + 1) (.int .i64 k) (.int .i64 m) (.string t) (.slice A1 n1 c1) (.slice A2 n2 c2) (.int .i64 ck) (.string ct) (.slice A3 n3 c3) (.int .i64 K) (.string cn) (.int .i64 cq) (.bool cb)) := (Tur.of_below HB6.out).trans ht (fun x hx => .inr (by simp at hx; omega)) |>.below (X := []) (fun _ h => (by cases h)) (Nat.le_refl _)
    have hw1 : (w.heap.size + 1) < w6.heap.size := HR6.out.lt
    have q1 := HO1b.out.1.tur ht (fun a e hh => by have := (HO1b.out.2 a e).1; simp at hh; omega)
    have q2 := HO2b.out.1.tur ht (fun a e hh => by have := (HO2b.out.2 a e).1; simp at hh; omega)
    have q3 := HO3b.out.1.tur ht (fun a e hh => by have := (HO3b.out.2 a e).1; simp at hh; omega)
    have hsz := ht.size
    refine bodyPost_ret (v := .agg #[.int .i64 k, .int .i64 m, .string t, .slice A1 n1 c1, .slice A2 n2 c2, .int .i64 ck, .string ct, .slice A3 n3 c3, .int .i64 K, .string cn, .int .i64 cq, .bool cb]) (eEnd (put12 w6 (w.heap.size + 1) (.int .i64 k) (.int .i64 m) (.string t) (.slice A1 n1 c1) (.slice A2 n2 c2) (.int .i64 ck) (.string ct) (.slice A3 n3 c3) (.int .i64 K) (.string cn) (.int .i64 cq) (.bool cb)) (w.heap.size + 1) (.int .i64 k) (.int .i64 m) (.string t) (.slice A1 n1 c1) (.slice A2 n2 c2) (.int .i64 ck) (.string ct) (.slice A3 n3 c3) (.int .i64 K) (.string cn) (.int .i64 cq) (.bool cb) _ rfl HF.out) rfl ?_
    refine ⟨⟨⟨k, m, t, B, AA, ck, ct, L, K, ⟨cn, cq, cb⟩⟩, A1, n1, c1, A2, n2, c2, A3, n3, c3⟩, rfl, ⟨rfl, ⟨⟨hn1.out, ?_, q1, hz1.out⟩, ⟨hn2.out, ?_, q2, hz2.out⟩, ⟨hn3.out, ?_, q3, hz3.out⟩⟩, ?_⟩, hbe⟩
    · exact Nat.le_trans (Nat.le_of_eq (hn1.out.symm.trans HNN.out.1)) HNN.out.2.1
    · exact Nat.le_trans (Nat.le_of_eq (hn2.out.symm.trans HNN.out.2.2.1)) HNN.out.2.2.2.1
    · exact Nat.le_trans (Nat.le_of_eq (hn3.out.symm.trans HNN.out.2.2.2.2.1)) HNN.out.2.2.2.2.2
    · rintro a (h | h | h)
      · exact ⟨Nat.le_trans (Nat.le_add_right _ 2) (HO1b.out.2 a h).1, Nat.lt_of_lt_of_le (HO1b.out.2 a h).2 hsz⟩
      · exact ⟨Nat.le_trans (Nat.le_add_right _ 2) (HO2b.out.2 a h).1, Nat.lt_of_lt_of_le (HO2b.out.2 a h).2 hsz⟩
      · exact ⟨Nat.le_trans (Nat.le_add_right _ 2) (HO3b.out.2 a h).1, Nat.lt_of_lt_of_le (HO3b.out.2 a h).2 hsz⟩

end Go.Proofs.Ytjkmbggaoinkdaa
