/-
  Put together: clones; what a window is; New, Clear, spoil.
-/
import Derived.Test.YtcdjeibcnkpadaaDoorWa4
import Derived.Test.YtcdjeibcnkpadaaDoorQc
import Derived.Deep.RegionHeld3
import Derived.Maps.AppendAt
namespace Go.Proofs.YtcdjeibcnkpadaaDoor
open Go.RowKit Go.Maps Dg
set_option maxRecDepth 100000
set_option linter.unusedVariables false
theorem cell_s2 {W : World} {p : Nat} {u u' : Value} {a : Addr} {v : Value} (hne : p ≠ a.block) (h : W.cell? a = some v) : ((W.setCell ⟨p, 0, none⟩ u).setCell ⟨p, 1, none⟩ u').cell? a = some v := by
  rw [World.cell?_setCell_far _ _ _ _ hne, World.cell?_setCell_far _ _ _ _ hne]; exact h
theorem clEnd (w' : World) (g : Nat) (c0 c1 : Value) (tmps : Array Value) (hp : tmps.getD 2 undef = .pointer (some ⟨g, 0, none⟩)) (hh : Has w' g 24 #[c0, c1]) :
    (results Tryd.f37 tmps).run Tryd.prog w' = .ok (.agg #[c0, c1]) w' :=
  results_cell_row rfl _ _ g 24 #[c0, c1] (0, 0) _ hp hh Tryd.underlying24 rfl (by kernel_rfl)
theorem sliceNil (a : Option Addr) (l c : Nat) (w : World) : (binOp .eql 22 (.slice a l c) (.slice none 0 0)).run Tryd.prog w = .ok (.bool a.isNone) w := Lib.run_eql_slice_nil (h := Tryd.underlying22) ..
theorem cell_s2' {W : World} {p : Nat} {u u' : Value} {a : Addr} {v : Value} (hne : p ≠ a.block) (h : W.cell? a = some v) : ((W.setCell ⟨p, 0, none⟩ u).setCell ⟨p, 1, none⟩ u').cell? a = some v := cell_s2 hne h
theorem own_empty (w : World) : OwnC w.heap.size (w.alloc (.cells #[] 47)) (.slice (some ⟨w.heap.size, 0, none⟩) 0 0) [] :=
  ⟨rfl, .inr ⟨w.heap.size, 0, #[], rfl, Nat.le_refl _, Has.new w 47 #[], Nat.le_refl _, Nat.zero_le _, rfl, rfl⟩⟩
set_option maxHeartbeats 2000000 in
set_option maxRecDepth 100000 in
theorem cloneC_any (A : Option Addr) (L : List Cl) (n c : Nat) (w : World) (hn : L.length = n) (hl : n ≤ 900) (hA : CRow w A L) (h0 : A = none → c = 0) :
    Calls Tryd.prog 59 #[.slice A n c] w fun e w' => ∃ v, e = .returned v ∧ Hid (OwnC w.heap.size w' v L) ∧ Hid (Below w.heap.size w w') := by
  have HN := Lib.hid hn
  have HA := Lib.hid hA
  clear hn hA
  rcases A with _ | ⟨b, off, x⟩
  · have hc := h0 rfl
    subst hc
    have hL : L = [] := by
      rcases L with _ | ⟨y, L⟩
      · rfl
      · obtain ⟨b, off, e, _⟩ := HA.out (by simp); cases e
    subst hL
    have hn : n = 0 := HN.out.symm
    subst hn
    have hnil := sliceNil
    go_enter Tryd.func59, Tryd.ntmps59
    go_wp2_with fail
    go_ret
    exact ⟨_, rfl, ownC_nil _ _, Below.refl _ _⟩
  · clear h0
    have HE := Lib.hid (own_empty w)
    have HB := Lib.hid ((Below.refl w.heap.size w).alloc (Nat.le_refl _) (.cells #[] 47))
    have HAP := Lib.hid (appCs (w.alloc (.cells #[] 47)) w.heap.size (.slice (some ⟨w.heap.size, 0, none⟩) 0 0) [] HE.out (by simp) (some ⟨b, off, x⟩) L n c HN.out (HA.out.below HB.out) (fun h => by cases h) (by simp; omega))
    have hnil := sliceNil
    go_enter Tryd.func59, Tryd.ntmps59
    go_wp2_with (at_builtin; refine wpList_app rfl _ _ 22 22 rfl (.slice (some ⟨w.heap.size, 0, none⟩) 0 0) (.slice (some ⟨b, off, x⟩) n c) rfl rfl ?_; obtain ⟨R, W', hrun, hmade⟩ := HAP.out; refine ⟨R, W', hrun, ?_⟩; have HM := Lib.hid hmade; clear hrun hmade HAP)
    go_ret
    exact ⟨R, rfl, HM.out.1, HB.out.trans HM.out.2⟩
set_option maxHeartbeats 2000000 in
set_option maxRecDepth 100000 in
theorem clone4_any (A : Option Addr) (L : List Cl) (n c : Nat) (K : Int) (w : World) (hn : L.length = n) (hl : n ≤ 900) (hA : CRow w A L) (h0 : A = none → c = 0) :
    Calls Tryd.prog 37 #[.agg #[.slice A n c, .int .i64 K]] w fun e w' => ∃ v, e = .returned (.agg #[v, .int .i64 K]) ∧ Hid (OwnC w.heap.size w' v L) ∧ Hid (Below w.heap.size w w') := by
  have HB0 := Lib.hid (((Below.refl w.heap.size w).alloc (Nat.le_refl _) (.cells #[.slice A n c, .int .i64 K] 24)).alloc (by simp) (.cells #[.slice none 0 0, .int .i64 0] 24))
  have HS0 := Lib.hid ((Has.new w 24 #[.slice A n c, .int .i64 K]).alloc (.cells #[.slice none 0 0, .int .i64 0] 24))
  have hg := Has.new (w.alloc (.cells #[.slice A n c, .int .i64 K] 24)) 24 #[.slice none 0 0, .int .i64 0]
  rw [show (w.alloc (.cells #[.slice A n c, .int .i64 K] 24)).heap.size = w.heap.size + 1 by simp] at hg
  have HG0 := Lib.hid hg
  have HCC := Lib.hid (fun W (hb : Below w.heap.size w W) => cloneC_any A L n c W hn hl (hA.below hb) h0)
  clear hg hn hA h0
  go_enter Tryd.func37, Tryd.ntmps37
  go_wp2_with fail
  obtain ⟨W, hW⟩ : ∃ W, W = (w.alloc (.cells #[.slice A n c, .int .i64 K] 24)).alloc (.cells #[.slice none 0 0, .int .i64 0] 24) := ⟨_, rfl⟩
  rw [← hW] at HB0 HS0 HG0 ⊢
  have hz : w.heap.size + 2 ≤ W.heap.size := by rw [hW]; simp
  clear hW
  have s0 : W.cell? ⟨w.heap.size, 0, none⟩ = some (.slice A n c) := HS0.out.cell 0
  have s1 : W.cell? ⟨w.heap.size, 1, none⟩ = some (.int .i64 K) := HS0.out.cell 1
  have g0 : W.cell? ⟨w.heap.size + 1, 0, none⟩ = some (.slice none 0 0) := HG0.out.cell 0
  have g1 : W.cell? ⟨w.heap.size + 1, 1, none⟩ = some (.int .i64 0) := HG0.out.cell 1
  have f0 : W.frozen? ⟨w.heap.size + 1, 0, none⟩ = false := HG0.out.free 0
  have HBD : Hid (Below w.heap.size w W.drew) := HB0.out.drew
  go_region_held3 (fun X => X.cell? ⟨w.heap.size, 0, none⟩ = some (.slice A n c) ∧ X.cell? ⟨w.heap.size, 1, none⟩ = some (.int .i64 K)) (first | (go_keep; done) | exact ⟨cell_s2' (by show w.heap.size + 1 ≠ w.heap.size; omega) (by assumption), cell_s2' (by show w.heap.size + 1 ≠ w.heap.size; omega) (by assumption)⟩) (first
    | (go_at_call 59; (with_reducible refine (HCC.out _ HBD.out).mono ?_); rintro e X ⟨v, rfl, ho, hb⟩; obtain ⟨A8, n8, c8, rfl, _, _, _, _, _⟩ := ownC_open ho.out; have z0 := keepC hb.out s0; have z1 := keepC hb.out s1; have HR := Lib.hid ((HG0.out.drew).below hb.out (by show w.heap.size + 1 < W.heap.size; omega)); have r0 : X.cell? ⟨w.heap.size + 1, 0, none⟩ = some (.slice none 0 0) := HR.out.cell 0; have r1 : X.cell? ⟨w.heap.size + 1, 1, none⟩ = some (.int .i64 0) := HR.out.cell 1; have e0 : X.frozen? ⟨w.heap.size + 1, 0, none⟩ = false := HR.out.free 0; have e1 : X.frozen? ⟨w.heap.size + 1, 1, none⟩ = false := HR.out.free 1; have HO := Lib.hid ho.out; have HBX := Lib.hid (HBD.out.trans (hb.out.mono (by show w.heap.size ≤ W.heap.size; omega))); clear ho hb))
  all_goals
    go_wp2_with fail
    have HP := Lib.hid ((HR.out.put 0 (.slice A8 n8 c8)).put 1 (.int .i64 K))
    have HO8 := Lib.hid ((HO.out.far (p := ⟨w.heap.size + 1, 0, none⟩) (by show w.heap.size + 1 < W.heap.size; omega) (.slice A8 n8 c8)).far (p := ⟨w.heap.size + 1, 1, none⟩) (by show w.heap.size + 1 < W.heap.size; omega) (.int .i64 K))
    exact bodyPost_ret (clEnd _ (w.heap.size + 1) _ _ _ rfl HP.out) rfl ⟨_, rfl, ownC_down HO8.out (by show w.heap.size ≤ W.heap.size; omega), (HBX.out.setCell (by show w.heap.size ≤ w.heap.size + 1; omega) _).setCell (by show w.heap.size ≤ w.heap.size + 1; omega) _⟩
theorem vrow_cell {w : World} {b off : Nat} {M : List Vl} (h : ∀ i (h : i < M.length), w.cell? ⟨b, off + i * 3, none⟩ = some (.int .i64 M[i].k) ∧ w.cell? ⟨b, off + i * 3 + 1, none⟩ = some (.int .i64 M[i].n) ∧ w.cell? ⟨b, off + i * 3 + 2, none⟩ = some (.string M[i].s)) (j : Nat) (u : Value) (hj : (M.flatMap Vl.cells)[j]? = some u) : w.cell? ⟨b, off + j, none⟩ = some u := by
  have hjl : j < M.length * 3 := by
    have := (List.getElem?_eq_some_iff.1 hj).1
    rwa [flat_len] at this
  have hi : j / 3 < M.length := by omega
  have e : j = j / 3 * 3 + j % 3 := by omega
  have hr : j % 3 = 0 ∨ j % 3 = 1 ∨ j % 3 = 2 := by omega
  rw [e, flat_get M (j / 3) (j % 3) hi (by omega)] at hj
  obtain ⟨h0, h1, h2⟩ := h (j / 3) hi
  rw [e]
  rcases hr with hr | hr | hr <;> rw [hr] at hj ⊢
  · rw [← hj]; exact h0
  · rw [← hj]; exact h1
  · rw [← hj]; exact h2
theorem OwnV.tur {X : List Nat} {B : Nat} {w w' : World} {v : Value} {L : List Vl} (h : OwnV B w v L) (ht : Tur X w w') (hx : ∀ g, v.ownBlock = some g → g ∉ X) : OwnV B w' v L := by
  rcases h.2 with ⟨hv, hn⟩ | ⟨g, cap, cur, hv, hg, hh, hc, hcm, hsz, htk⟩
  · exact ⟨h.1, .inl ⟨hv, hn⟩⟩
  · exact ⟨h.1, .inr ⟨g, cap, cur, hv, hg, Has.tur (t := 68) (cs := cur) hh ht (hx g (by rw [hv]; rfl)), hc, hcm, hsz, htk⟩⟩
theorem appVt (w : World) (B : Nat) (v : Value) (L : List Vl) (A : Option Addr) (n c : Nat) (M : List Vl) (h : OwnV B w v L) (hB : B ≤ w.heap.size) (hM : M.length = n) (hr : VRow w A M) (hA : A = none → c = 0) (hl : L.length + n ≤ 1000000) :
    ∃ R W', (Builtin.append_ #[45, 45] 45 #[v, .slice A n c]).run Tryd.prog w = .ok R W' ∧ OwnV B W' R (L ++ M) ∧ Tur v.ownBlock.toList w W' ∧ (∀ k, R.ownBlock = some k → v.ownBlock = some k ∨ w.heap.size ≤ k) := by
  obtain ⟨i0, hi, hz0, hz1, hz2⟩ := info_parts infoV
  subst hM
  cases A with
  | none =>
    obtain rfl : M = [] := Classical.byContradiction fun hne => by obtain ⟨b, off, e, _⟩ := hr hne; cases e
    obtain rfl := hA rfl
    refine ⟨v, w, run_append_owned_none w B 45 45 68 i0 3 Tryd.underlying45 hi v _ _ h, ?_, Tur.refl _ _, fun k hk => .inl hk⟩
    rw [List.append_nil]
    exact h
  | some a =>
    obtain ⟨R, W', hrun, hown, hg, _, hx⟩ := run_append_own_at (P := Tryd.prog) w B 45 45 68 i0 _ 3 32 Tryd.underlying45 hi hz0 hz1 hz2 rfl (by decide) v L.length (L.flatMap Vl.cells) h
      a M.length c (M.flatMap Vl.cells) (flat_len M) (fun j u hj => by
        have hjl : j < M.length * 3 := by
          have := (List.getElem?_eq_some_iff.1 hj).1
          rwa [flat_len] at this
        have hne : M ≠ [] := fun e => by rw [e] at hjl; simp at hjl
        obtain ⟨b, off, e, hc⟩ := hr hne
        injection e with e
        subst e
        rw [Addr.add_lit]
        exact vrow_cell hc j u hj) (fun u hu => by
        obtain ⟨r, _, hu⟩ := List.mem_flatMap.1 hu
        simp [Vl.cells] at hu; rcases hu with rfl | rfl | rfl <;> rfl) (by unfold maxLen; omega) (by omega) hB
    refine ⟨R, W', hrun, ?_, ?_, ?_⟩
    · unfold OwnV; rw [List.flatMap_append, List.length_append]; exact hown
    · exact Tur.grown hg fun k hk => by rw [hk]; simp
    · intro k hk
      rcases hx with hx | hx
      · exact .inl (hx ▸ hk)
      · rw [hx] at hk
        injection hk with hk
        exact .inr (by omega)
theorem sliceNilR (a : Option Addr) (l c : Nat) (w : World) : (binOp .eql 45 (.slice a l c) (.slice none 0 0)).run Tryd.prog w = .ok (.bool a.isNone) w := Lib.run_eql_slice_nil (h := Tryd.underlying45) ..
theorem ownV_empty (w : World) : OwnV w.heap.size (w.alloc (.cells #[] 68)) (.slice (some ⟨w.heap.size, 0, none⟩) 0 0) [] :=
  ⟨rfl, .inr ⟨w.heap.size, 0, #[], rfl, Nat.le_refl _, Has.new w 68 #[], Nat.le_refl _, Nat.zero_le _, rfl, rfl⟩⟩
set_option maxHeartbeats 2000000 in
theorem cloneV_any (A : Option Addr) (L : List Vl) (n c : Nat) (w : World) (hn : L.length = n) (hl : n ≤ 900) (hA : VRow w A L) (h0 : A = none → c = 0) :
    Calls Tryd.prog 51 #[.slice A n c] w fun e w' => ∃ v, e = .returned v ∧ Hid (OwnV w.heap.size w' v L) ∧ Hid (Below w.heap.size w w') := by
  have HN := Lib.hid hn
  have HA := Lib.hid hA
  clear hn hA
  rcases A with _ | ⟨b, off, x⟩
  · have hc := h0 rfl
    subst hc
    have hL : L = [] := by
      rcases L with _ | ⟨y, L⟩
      · rfl
      · obtain ⟨b, off, e, _⟩ := HA.out (by simp); cases e
    subst hL
    have hn : n = 0 := HN.out.symm
    subst hn
    have hnil := sliceNilR
    go_enter Tryd.func51, Tryd.ntmps51
    go_wp2_with fail
    go_ret
    exact ⟨_, rfl, ownV_nil _ _, Below.refl _ _⟩
  · clear h0
    have HE := Lib.hid (ownV_empty w)
    have HB := Lib.hid ((Below.refl w.heap.size w).alloc (Nat.le_refl _) (.cells #[] 68))
    have HAP := Lib.hid (appVt (w.alloc (.cells #[] 68)) w.heap.size (.slice (some ⟨w.heap.size, 0, none⟩) 0 0) [] (some ⟨b, off, x⟩) n c L HE.out (by simp) HN.out (HA.out.below HB.out) (fun h => by cases h) (by simp; omega))
    have hnil := sliceNilR
    go_enter Tryd.func51, Tryd.ntmps51
    go_wp2_with (at_builtin; refine wpList_app rfl _ _ 45 45 rfl (.slice (some ⟨w.heap.size, 0, none⟩) 0 0) (.slice (some ⟨b, off, x⟩) n c) rfl rfl ?_; obtain ⟨R, W', hrun, hmade⟩ := HAP.out; refine ⟨R, W', hrun, ?_⟩; have HM := Lib.hid hmade; clear hrun hmade HAP)
    go_ret
    exact ⟨R, rfl, HM.out.1, HB.out.trans (HM.out.2.1.below (fun b hb => by simp [Value.ownBlock] at hb; omega) (by simp))⟩
theorem OwnC.tur {X : List Nat} {B : Nat} {w w' : World} {v : Value} {L : List Cl} (h : OwnC B w v L) (ht : Tur X w w') (hx : ∀ g, v.ownBlock = some g → g ∉ X) : OwnC B w' v L := by
  rcases h.2 with ⟨hv, hn⟩ | ⟨g, cap, cur, hv, hg, hh, hc, hcm, hsz, htk⟩
  · exact ⟨h.1, .inl ⟨hv, hn⟩⟩
  · exact ⟨h.1, .inr ⟨g, cap, cur, hv, hg, Has.tur (t := 47) (cs := cur) hh ht (hx g (by rw [hv]; rfl)), hc, hcm, hsz, htk⟩⟩
theorem OwnC.has {B : Nat} {w : World} {v : Value} {L : List Cl} (h : OwnC B w v L) {g : Nat} (hg : v.ownBlock = some g) : ∃ cs, Has w g 47 cs := by
  rcases h.2 with ⟨hv, hn⟩ | ⟨g', cap, cur, hv, _, hh, _⟩
  · rw [hv] at hg; cases hg
  · rw [hv] at hg; injection hg with hg; subst hg; exact ⟨cur, hh⟩
theorem OwnV.has {B : Nat} {w : World} {v : Value} {L : List Vl} (h : OwnV B w v L) {g : Nat} (hg : v.ownBlock = some g) : ∃ cs, Has w g 68 cs := by
  rcases h.2 with ⟨hv, hn⟩ | ⟨g', cap, cur, hv, _, hh, _⟩
  · rw [hv] at hg; cases hg
  · rw [hv] at hg; injection hg with hg; subst hg; exact ⟨cur, hh⟩
theorem Has.two {w : World} {b : Nat} {t t' : TypeId} {cs cs' : Array Value} (h : Has w b t cs) (h' : Has w b t' cs') : t = t' ∧ cs = cs' := by
  unfold Has at h h'
  rw [h] at h'
  injection h' with h'
  injection h' with h1 h2
  exact ⟨h2, h1⟩
/-- A row of the call's own stays where blocks of other types turn. -/
theorem OwnV.turX {X : List Nat} {B : Nat} {w w' : World} {v : Value} {L : List Vl} (h : OwnV B w v L) (ht : Tur X w w') (hX : ∀ b ∈ X, ∃ t cs, Has w b t cs ∧ t ≠ 68) : OwnV B w' v L :=
  h.tur ht fun g hg hx => by
    obtain ⟨cs, hc⟩ := h.has hg
    obtain ⟨t, cs2, h2, n⟩ := hX g hx
    exact n (h2.two hc).1
theorem OwnC.turX {X : List Nat} {B : Nat} {w w' : World} {v : Value} {L : List Cl} (h : OwnC B w v L) (ht : Tur X w w') (hX : ∀ b ∈ X, ∃ t cs, Has w b t cs ∧ t ≠ 47) : OwnC B w' v L :=
  h.tur ht fun g hg hx => by
    obtain ⟨cs, hc⟩ := h.has hg
    obtain ⟨t, cs2, h2, n⟩ := hX g hx
    exact n (h2.two hc).1
end Go.Proofs.YtcdjeibcnkpadaaDoor
namespace Go.Proofs.YtcdjeibcnkpadaaDoor
open Go.RowKit Go.Maps Dg
set_option maxRecDepth 100000
set_option linter.unusedVariables false
/-- A window: all that it has; its rows by their keys. -/
structure Wn where
  sz : Int
  num : Int
  A : Option Addr
  n : Nat
  c : Nat
  M : List Cl
  K : Int
  af : ByteArray
  tbl : ByteArray
  dn : Bool
  en : ByteArray
  tb : Nat
  T : Tr
  sp : Bool
  R : List (ByteArray × List Vl)
def Wn.cells (x : Wn) : Array Value := #[.int .i64 x.sz, .int .i64 x.num, .slice x.A x.n x.c, .int .i64 x.K, .string x.af, .string x.tbl, .bool x.dn, .string x.en, .pointer (some ⟨x.tb, 0, none⟩), .bool x.sp]
/-- Rows lie there, at the same keys, each in a block of its own from lo on. -/
def RowsAt (lo : Nat) (w : World) : List (ByteArray × Sl) → List (ByteArray × List Vl) → Prop
  | [], [] => True
  | x :: l, y :: r => x.1 = y.1 ∧ OwnV lo w (.slice x.2.a x.2.n x.2.c) y.2 ∧ RowsAt lo w l r
  | [], _ :: _ => False
  | _ :: _, [] => False
theorem RowsAt.map {lo lo' : Nat} {w w' : World} (h : ∀ s L, OwnV lo w s L → OwnV lo' w' s L) : ∀ {l r}, RowsAt lo w l r → RowsAt lo' w' l r
  | [], [], _ => trivial
  | _ :: _, _ :: _, ⟨h1, h2, h3⟩ => ⟨h1, h _ _ h2, RowsAt.map h h3⟩
  | [], _ :: _, h => h.elim
  | _ :: _, [], h => h.elim
theorem RowsAt.below {lo : Nat} {w w' : World} {l r} (h : RowsAt lo w l r) (hb : Below w.heap.size w w') : RowsAt lo w' l r := h.map fun _ _ h => h.below hb
theorem RowsAt.turX {lo : Nat} {X : List Nat} {w w' : World} {l r} (h : RowsAt lo w l r) (ht : Tur X w w') (hX : ∀ b ∈ X, ∃ t cs, Has w b t cs ∧ t ≠ 68) : RowsAt lo w' l r := h.map fun _ _ h => h.turX ht hX
theorem RowsAt.lo {lo lo' : Nat} {w : World} {l r} (h : RowsAt lo w l r) (hl : lo' ≤ lo) : RowsAt lo' w l r := h.map fun _ _ h => ownV_dn h hl
theorem RowsAt.len {lo : Nat} {w : World} : ∀ {l r}, RowsAt lo w l r → l.length = r.length
  | [], [], _ => rfl
  | _ :: _, _ :: _, ⟨_, _, h3⟩ => congrArg (· + 1) h3.len
  | [], _ :: _, h => h.elim
  | _ :: _, [], h => h.elim
theorem RowsAt.keys {lo : Nat} {w : World} : ∀ {l r}, RowsAt lo w l r → l.map (·.1) = r.map (·.1)
  | [], [], _ => rfl
  | _ :: _, _ :: _, ⟨h1, _, h3⟩ => by rw [List.map_cons, List.map_cons, h1, h3.keys]
  | [], _ :: _, h => h.elim
  | _ :: _, [], h => h.elim
theorem rises_keys {α β : Type} : ∀ {l : List (ByteArray × α)} {r : List (ByteArray × β)}, l.map (·.1) = r.map (·.1) → Rises l → Rises r
  | [], [], _, _ => trivial
  | x :: l, y :: r, h, ⟨h1, h2⟩ => by
    simp only [List.map_cons, List.cons.injEq] at h
    refine ⟨fun z hz => ?_, rises_keys h.2 h2⟩
    have hm : z.1 ∈ l.map (·.1) := by rw [h.2]; exact List.mem_map_of_mem hz
    obtain ⟨u, hu, e⟩ := List.mem_map.1 hm
    rw [← h.1, ← e]
    exact h1 u hu
  | [], _ :: _, h, _ => by cases h
  | _ :: _, [], h, _ => by cases h
theorem had_keys {α β : Type} (k : ByteArray) : ∀ {l : List (ByteArray × α)} {r : List (ByteArray × β)}, l.map (·.1) = r.map (·.1) → hadL k l = hadL k r
  | [], [], _ => rfl
  | x :: l, y :: r, h => by
    simp only [List.map_cons, List.cons.injEq] at h
    have ih := had_keys k h.2
    unfold hadL getL at ih ⊢
    rw [List.find?_cons, List.find?_cons, h.1]
    cases (y.1.toList == k.toList)
    · exact ih
    · rfl
  | [], _ :: _, h => by cases h
  | _ :: _, [], h => by cases h
theorem RowsAt.put {lo : Nat} {w : World} {k : ByteArray} {s : Sl} {L : List Vl} (hs : OwnV lo w (.slice s.a s.n s.c) L) : ∀ {l r}, RowsAt lo w l r → RowsAt lo w (putL k s l) (putL k L r)
  | [], [], _ => ⟨rfl, hs, trivial⟩
  | x :: l, y :: r, ⟨h1, h2, h3⟩ => by
    unfold putL
    rw [h1]
    split
    · exact ⟨rfl, hs, h1, h2, h3⟩
    · split
      · exact ⟨h1, h2, RowsAt.put hs h3⟩
      · exact ⟨rfl, hs, h3⟩
  | [], _ :: _, h => h.elim
  | _ :: _, [], h => h.elim
theorem RowsAt.cut {lo : Nat} {w : World} {k : ByteArray} : ∀ {l r}, RowsAt lo w l r → RowsAt lo w (cutL k l) (cutL k r)
  | [], [], _ => trivial
  | x :: l, y :: r, ⟨h1, h2, h3⟩ => by
    have ih := RowsAt.cut (k := k) h3
    unfold cutL at ih ⊢
    rw [List.filter_cons, List.filter_cons, h1]
    split
    · exact ⟨h1, h2, ih⟩
    · exact ih
  | [], _ :: _, h => h.elim
  | _ :: _, [], h => h.elim
/-- A tree stays where other trees' heads, and blocks of other types, turn. -/
theorem TrAt.turY {tb : Nat} {w w' : World} {T : Tr} {X : List Nat} (h : TrAt tb w T) (ht : Tur X w w') (hX : ∀ b ∈ X, b ≠ tb ∧ ∃ t cs, Has w b t cs ∧ t ≠ 124) : TrAt tb w' T := by
  refine ⟨h.top.tur ht fun hx => (hX tb hx).1 rfl, ?_, h.bal, h.ris⟩
  have key : ∀ {S : Tr}, IsTr w.heap.size w S → IsTr w.heap.size w' S := by
    intro S
    induction S with
    | nil => intro _; trivial
    | node b l k v lo le r ihl ihr =>
      rintro ⟨h1, h2, h3, h4⟩
      refine ⟨h1, h2.tur ht fun hx => ?_, ihl h3, ihr h4⟩
      obtain ⟨_, t, cs, hh, n⟩ := hX b hx
      exact n (hh.two h2).1
  exact (key h.tr).mono ht.size
/-- A window lies at a block; its rows' blocks are from lo on. -/
structure WinAt (lo b : Nat) (w : World) (x : Wn) : Prop where
  top : Has w b 81 x.cells
  col : OwnC lo w (.slice x.A x.n x.c) x.M
  tr : TrAt x.tb w x.T
  row : RowsAt lo w x.T.con x.R
theorem WinAt.below {lo b : Nat} {w w' : World} {x : Wn} (h : WinAt lo b w x) (hb : Below w.heap.size w w') : WinAt lo b w' x :=
  ⟨h.top.below hb h.top.lt, h.col.below hb, h.tr.below hb, h.row.below hb⟩
/-- Blocks below what a window made, or of types that no window has but for itself. -/
def OffLo (w : World) (lo b tb : Nat) (X : List Nat) : Prop := ∀ z ∈ X, z ≠ b ∧ z ≠ tb ∧ ∃ t cs, Has w z t cs ∧ t ≠ 124 ∧ (z < lo ∨ (t ≠ 68 ∧ t ≠ 47))
theorem WinAt.turLo {lo b : Nat} {w w' : World} {x : Wn} {X : List Nat} (h : WinAt lo b w x) (ht : Tur X w w') (hX : OffLo w lo b x.tb X) : WinAt lo b w' x :=
  ⟨h.top.tur ht fun hx => (hX b hx).1 rfl, h.col.tur ht fun g hg hx => by
      obtain ⟨_, _, t, cs, h1, _, h2⟩ := hX g hx
      have hl := (World.ownsRow.lt h.col g hg).1
      obtain ⟨cs2, h3⟩ := h.col.has hg
      rcases h2 with h2 | h2
      · omega
      · exact h2.2 (h1.two h3).1,
    h.tr.turY ht fun z hz => by obtain ⟨_, h0, t, cs, h1, h2, _⟩ := hX z hz; exact ⟨h0, t, cs, h1, h2⟩,
    h.row.map fun s L ho => ho.tur ht fun g hg hx => by
      obtain ⟨_, _, t, cs, h1, _, h2⟩ := hX g hx
      have hl := (World.ownsRow.lt ho g hg).1
      obtain ⟨cs2, h3⟩ := ho.has hg
      rcases h2 with h2 | h2
      · omega
      · exact h2.1 (h1.two h3).1⟩
/-- Blocks of types that no window has but for itself. -/
def Off (w : World) (b tb : Nat) (X : List Nat) : Prop := ∀ z ∈ X, z ≠ b ∧ z ≠ tb ∧ ∃ t cs, Has w z t cs ∧ t ≠ 124 ∧ t ≠ 68 ∧ t ≠ 47
theorem WinAt.turX {lo b : Nat} {w w' : World} {x : Wn} {X : List Nat} (h : WinAt lo b w x) (ht : Tur X w w') (hX : Off w b x.tb X) : WinAt lo b w' x :=
  ⟨h.top.tur ht fun hx => (hX b hx).1 rfl, h.col.turX ht fun z hz => by obtain ⟨_, _, t, cs, h1, _, _, h2⟩ := hX z hz; exact ⟨t, cs, h1, h2⟩,
    h.tr.turY ht fun z hz => by obtain ⟨_, h0, t, cs, h1, h2, _, _⟩ := hX z hz; exact ⟨h0, t, cs, h1, h2⟩,
    h.row.turX ht fun z hz => by obtain ⟨_, _, t, cs, h1, _, h2, _⟩ := hX z hz; exact ⟨t, cs, h1, h2⟩⟩
theorem WinAt.lo {lo lo' b : Nat} {w : World} {x : Wn} (h : WinAt lo b w x) (hl : lo' ≤ lo) : WinAt lo' b w x := ⟨h.top, ownC_down h.col hl, h.tr, h.row.lo hl⟩
theorem WinAt.len {lo b : Nat} {w : World} {x : Wn} (h : WinAt lo b w x) : x.T.con.length = x.R.length := h.row.len
theorem WinAt.ris {lo b : Nat} {w : World} {x : Wn} (h : WinAt lo b w x) : Rises x.R := rises_keys h.row.keys h.tr.ris
set_option maxHeartbeats 1000000 in
theorem wopen_any {lo b : Nat} {w : World} {x : Wn} (h : WinAt lo b w x) :
    Calls Tryd.prog 33 #[.pointer (some ⟨b, 0, none⟩)] w fun e w' => e = .returned (.bool (x.num != -1)) ∧ w' = w := by
  have x1 := h.top.cell 1
  clear h
  obtain ⟨sz, num, A, n, c, M, K, af, tbl, dn, en, tb, T, sp, R⟩ := x
  dsimp only [Wn.cells] at x1 ⊢
  simp at x1
  go_enter Tryd.func33, Tryd.ntmps33
  go_wp2_with fail
  go_ret
  exact ⟨rfl, by trivial⟩
set_option maxHeartbeats 1000000 in
theorem wnum_any {lo b : Nat} {w : World} {x : Wn} (h : WinAt lo b w x) :
    Calls Tryd.prog 27 #[.pointer (some ⟨b, 0, none⟩)] w fun e w' => e = .returned (.int .i64 x.num) ∧ w' = w := by
  have x1 := h.top.cell 1
  clear h
  obtain ⟨sz, num, A, n, c, M, K, af, tbl, dn, en, tb, T, sp, R⟩ := x
  dsimp only [Wn.cells] at x1 ⊢
  simp at x1
  go_enter Tryd.func27, Tryd.ntmps27
  go_wp2_with fail
  go_ret
  exact ⟨rfl, by trivial⟩
set_option maxHeartbeats 1000000 in
theorem wtab_any {lo b : Nat} {w : World} {x : Wn} (h : WinAt lo b w x) :
    Calls Tryd.prog 38 #[.pointer (some ⟨b, 0, none⟩)] w fun e w' => e = .returned (.string x.tbl) ∧ w' = w := by
  have x1 := h.top.cell 5
  clear h
  obtain ⟨sz, num, A, n, c, M, K, af, tbl, dn, en, tb, T, sp, R⟩ := x
  dsimp only [Wn.cells] at x1 ⊢
  simp at x1
  go_enter Tryd.func38, Tryd.ntmps38
  go_wp2_with fail
  go_ret
  exact ⟨rfl, by trivial⟩
set_option maxHeartbeats 1000000 in
theorem wsp_any {lo b : Nat} {w : World} {x : Wn} (h : WinAt lo b w x) :
    Calls Tryd.prog 20 #[.pointer (some ⟨b, 0, none⟩)] w fun e w' => e = .returned (.bool x.sp) ∧ w' = w := by
  have x1 := h.top.cell 9
  clear h
  obtain ⟨sz, num, A, n, c, M, K, af, tbl, dn, en, tb, T, sp, R⟩ := x
  dsimp only [Wn.cells] at x1 ⊢
  simp at x1
  go_enter Tryd.func20, Tryd.ntmps20
  go_wp2_with fail
  go_ret
  exact ⟨rfl, by trivial⟩
set_option maxHeartbeats 1000000 in
theorem wlen_any {lo b : Nat} {w : World} {x : Wn} (h : WinAt lo b w x) :
    Calls Tryd.prog 21 #[.pointer (some ⟨b, 0, none⟩)] w fun e w' => e = .returned (.int .i64 (x.R.length : Int)) ∧ w' = w := by
  have x1 := h.top.cell 8
  have HC := Lib.hid (len_any h.tr)
  rw [h.len] at HC
  clear h
  obtain ⟨sz, num, A, n, c, M, K, af, tbl, dn, en, tb, T, sp, R⟩ := x
  dsimp only [Wn.cells] at x1 HC ⊢
  simp at x1
  go_enter Tryd.func21, Tryd.ntmps21
  go_wp2_with fail
  refine HC.out.mono ?_
  rintro e w1 ⟨rfl, rfl⟩
  go_wp2_with fail
  go_ret
  exact ⟨rfl, rfl⟩
end Go.Proofs.YtcdjeibcnkpadaaDoor
namespace Go.Proofs.YtcdjeibcnkpadaaDoor
open Go.RowKit Go.Maps Dg
set_option maxRecDepth 100000
set_option linter.unusedVariables false
/-- One that is shut. -/
def wnShut (sz : Int) (tb : Nat) : Wn := ⟨sz, -1, none, 0, 0, [], 0, ⟨#[]⟩, ⟨#[]⟩, false, ⟨#[]⟩, tb, .nil, false, []⟩
set_option maxHeartbeats 2000000 in
theorem wnew_any (sz : Int) (w : World) (h0 : -9223372036854775808 ≤ sz) (h1 : sz ≤ 9223372036854775807) :
    Calls Tryd.prog 8 #[.int .i64 sz] w fun e w' => ∃ b tb, e = .returned (.pointer (some ⟨b, 0, none⟩)) ∧ Hid (∀ lo, WinAt lo b w' (wnShut (max sz 1) tb)) ∧ Hid (Below w.heap.size w w' ∧ w.heap.size ≤ b ∧ w.heap.size ≤ tb ∧ b ≠ tb) := by
  go_enter Tryd.func8, Tryd.ntmps8
  go_wp2_with fail
  refine (tnew_any w).mono ?_
  rintro e w1 ⟨rfl, ht, hb⟩
  go_wp2_with fail
  have hsz := hb.size
  have HN := Lib.hid (Has.new w1 81 (wnShut (max sz 1) w.heap.size).cells)
  have HT := Lib.hid (ht.below ((Below.refl _ w1).alloc (Nat.le_refl _) (.cells (wnShut (max sz 1) w.heap.size).cells 81)))
  have hlt := ht.top.lt
  have HB := Lib.hid (hb.alloc (by omega) (.cells (wnShut (max sz 1) w.heap.size).cells 81))
  go_ret
  exact ⟨_, _, rfl, fun lo => ⟨HN.out, ownC_nil _ _, HT.out, trivial⟩, HB.out, hsz, Nat.le_refl _, by omega⟩
/-- Ten stores into a window's block. -/
def put10 (W : World) (g : Nat) (u0 u1 u2 u3 u4 u5 u6 u7 u8 u9 : Value) : World := ((((((((((W.setCell ⟨g, 0, none⟩ (u0)).setCell ⟨g, 1, none⟩ (u1)).setCell ⟨g, 2, none⟩ (u2)).setCell ⟨g, 3, none⟩ (u3)).setCell ⟨g, 4, none⟩ (u4)).setCell ⟨g, 5, none⟩ (u5)).setCell ⟨g, 6, none⟩ (u6)).setCell ⟨g, 7, none⟩ (u7)).setCell ⟨g, 8, none⟩ (u8)).setCell ⟨g, 9, none⟩ (u9))
theorem put10_has {W : World} {g : Nat} {t : TypeId} {a0 a1 a2 a3 a4 a5 a6 a7 a8 a9 : Value} (h : Has W g t #[a0, a1, a2, a3, a4, a5, a6, a7, a8, a9]) (u0 u1 u2 u3 u4 u5 u6 u7 u8 u9 : Value) : Has (put10 W g u0 u1 u2 u3 u4 u5 u6 u7 u8 u9) g t #[u0, u1, u2, u3, u4, u5, u6, u7, u8, u9] := by
  have h1 : Has (W.setCell ⟨g, 0, none⟩ (u0)) g t #[u0, a1, a2, a3, a4, a5, a6, a7, a8, a9] := h.put 0 _
  have h2 : Has ((W.setCell ⟨g, 0, none⟩ (u0)).setCell ⟨g, 1, none⟩ (u1)) g t #[u0, u1, a2, a3, a4, a5, a6, a7, a8, a9] := h1.put 1 _
  have h3 : Has (((W.setCell ⟨g, 0, none⟩ (u0)).setCell ⟨g, 1, none⟩ (u1)).setCell ⟨g, 2, none⟩ (u2)) g t #[u0, u1, u2, a3, a4, a5, a6, a7, a8, a9] := h2.put 2 _
  have h4 : Has ((((W.setCell ⟨g, 0, none⟩ (u0)).setCell ⟨g, 1, none⟩ (u1)).setCell ⟨g, 2, none⟩ (u2)).setCell ⟨g, 3, none⟩ (u3)) g t #[u0, u1, u2, u3, a4, a5, a6, a7, a8, a9] := h3.put 3 _
  have h5 : Has (((((W.setCell ⟨g, 0, none⟩ (u0)).setCell ⟨g, 1, none⟩ (u1)).setCell ⟨g, 2, none⟩ (u2)).setCell ⟨g, 3, none⟩ (u3)).setCell ⟨g, 4, none⟩ (u4)) g t #[u0, u1, u2, u3, u4, a5, a6, a7, a8, a9] := h4.put 4 _
  have h6 : Has ((((((W.setCell ⟨g, 0, none⟩ (u0)).setCell ⟨g, 1, none⟩ (u1)).setCell ⟨g, 2, none⟩ (u2)).setCell ⟨g, 3, none⟩ (u3)).setCell ⟨g, 4, none⟩ (u4)).setCell ⟨g, 5, none⟩ (u5)) g t #[u0, u1, u2, u3, u4, u5, a6, a7, a8, a9] := h5.put 5 _
  have h7 : Has (((((((W.setCell ⟨g, 0, none⟩ (u0)).setCell ⟨g, 1, none⟩ (u1)).setCell ⟨g, 2, none⟩ (u2)).setCell ⟨g, 3, none⟩ (u3)).setCell ⟨g, 4, none⟩ (u4)).setCell ⟨g, 5, none⟩ (u5)).setCell ⟨g, 6, none⟩ (u6)) g t #[u0, u1, u2, u3, u4, u5, u6, a7, a8, a9] := h6.put 6 _
  have h8 : Has ((((((((W.setCell ⟨g, 0, none⟩ (u0)).setCell ⟨g, 1, none⟩ (u1)).setCell ⟨g, 2, none⟩ (u2)).setCell ⟨g, 3, none⟩ (u3)).setCell ⟨g, 4, none⟩ (u4)).setCell ⟨g, 5, none⟩ (u5)).setCell ⟨g, 6, none⟩ (u6)).setCell ⟨g, 7, none⟩ (u7)) g t #[u0, u1, u2, u3, u4, u5, u6, u7, a8, a9] := h7.put 7 _
  have h9 : Has (((((((((W.setCell ⟨g, 0, none⟩ (u0)).setCell ⟨g, 1, none⟩ (u1)).setCell ⟨g, 2, none⟩ (u2)).setCell ⟨g, 3, none⟩ (u3)).setCell ⟨g, 4, none⟩ (u4)).setCell ⟨g, 5, none⟩ (u5)).setCell ⟨g, 6, none⟩ (u6)).setCell ⟨g, 7, none⟩ (u7)).setCell ⟨g, 8, none⟩ (u8)) g t #[u0, u1, u2, u3, u4, u5, u6, u7, u8, a9] := h8.put 8 _
  have h10 : Has ((((((((((W.setCell ⟨g, 0, none⟩ (u0)).setCell ⟨g, 1, none⟩ (u1)).setCell ⟨g, 2, none⟩ (u2)).setCell ⟨g, 3, none⟩ (u3)).setCell ⟨g, 4, none⟩ (u4)).setCell ⟨g, 5, none⟩ (u5)).setCell ⟨g, 6, none⟩ (u6)).setCell ⟨g, 7, none⟩ (u7)).setCell ⟨g, 8, none⟩ (u8)).setCell ⟨g, 9, none⟩ (u9)) g t #[u0, u1, u2, u3, u4, u5, u6, u7, u8, u9] := h9.put 9 _
  exact h10
theorem put10_tur (W : World) (g : Nat) (u0 u1 u2 u3 u4 u5 u6 u7 u8 u9 : Value) : Tur [g] W (put10 W g u0 u1 u2 u3 u4 u5 u6 u7 u8 u9) := ((((((((((Tur.setCell W (p := ⟨g, 0, none⟩) (by simp) _).trans (Tur.setCell _ (p := ⟨g, 1, none⟩) (by simp) _) (Fre.refl _ _)).trans (Tur.setCell _ (p := ⟨g, 2, none⟩) (by simp) _) (Fre.refl _ _)).trans (Tur.setCell _ (p := ⟨g, 3, none⟩) (by simp) _) (Fre.refl _ _)).trans (Tur.setCell _ (p := ⟨g, 4, none⟩) (by simp) _) (Fre.refl _ _)).trans (Tur.setCell _ (p := ⟨g, 5, none⟩) (by simp) _) (Fre.refl _ _)).trans (Tur.setCell _ (p := ⟨g, 6, none⟩) (by simp) _) (Fre.refl _ _)).trans (Tur.setCell _ (p := ⟨g, 7, none⟩) (by simp) _) (Fre.refl _ _)).trans (Tur.setCell _ (p := ⟨g, 8, none⟩) (by simp) _) (Fre.refl _ _)).trans (Tur.setCell _ (p := ⟨g, 9, none⟩) (by simp) _) (Fre.refl _ _))
set_option maxHeartbeats 2000000 in
theorem wclear_any {lo b : Nat} {w : World} {x : Wn} (h : WinAt lo b w x) (h0 : 1 ≤ x.sz) (h1 : x.sz ≤ 9223372036854775807) :
    Calls Tryd.prog 49 #[.pointer (some ⟨b, 0, none⟩)] w fun e w' => e = .returned (.tuple #[]) ∧ (∃ tb, Hid (∀ lo, WinAt lo b w' (wnShut x.sz tb)) ∧ Hid (w.heap.size ≤ tb)) ∧ Hid (Tur [b] w w') := by
  have HC := Lib.hid (wnew_any x.sz w (by omega) h1)
  rw [show max x.sz 1 = x.sz by omega] at HC
  have HH := Lib.hid h.top
  have hlt := h.top.lt
  clear h
  obtain ⟨sz, num, A, n, c, M, K, af, tbl, dn, en, tb0, T, sp, R⟩ := x
  dsimp only [Wn.cells] at HH HC h0 h1 ⊢
  have x0 : w.cell? ⟨b, 0, none⟩ = some (.int .i64 sz) := HH.out.cell 0
  go_enter Tryd.func49, Tryd.ntmps49
  go_wp2_with fail
  refine HC.out.mono ?_
  rintro e w1 ⟨b2, tb, rfl, hw, hb⟩
  have HN := Lib.hid (hw.out 0).top
  have HH1 := Lib.hid (HH.out.below hb.out.1 hlt)
  have HB1 := Lib.hid hb.out.1
  have HT := Lib.hid (hw.out 0).tr
  have htb := hb.out.2.2.1
  have hneb : b2 ≠ b := by have := hb.out.2.1; omega
  have hnet : tb ≠ b := by omega
  clear hw hb HC x0
  have n0 : w1.cell? ⟨b2, 0, none⟩ = some (.int .i64 sz) := HN.out.cell 0
  have n1 : w1.cell? ⟨b2, 1, none⟩ = some (.int .i64 (-1)) := HN.out.cell 1
  have n2 : w1.cell? ⟨b2, 2, none⟩ = some (.slice none 0 0) := HN.out.cell 2
  have n3 : w1.cell? ⟨b2, 3, none⟩ = some (.int .i64 0) := HN.out.cell 3
  have n4 : w1.cell? ⟨b2, 4, none⟩ = some (.string ⟨#[]⟩) := HN.out.cell 4
  have n5 : w1.cell? ⟨b2, 5, none⟩ = some (.string ⟨#[]⟩) := HN.out.cell 5
  have n6 : w1.cell? ⟨b2, 6, none⟩ = some (.bool false) := HN.out.cell 6
  have n7 : w1.cell? ⟨b2, 7, none⟩ = some (.string ⟨#[]⟩) := HN.out.cell 7
  have n8 : w1.cell? ⟨b2, 8, none⟩ = some (.pointer (some ⟨tb, 0, none⟩)) := HN.out.cell 8
  have n9 : w1.cell? ⟨b2, 9, none⟩ = some (.bool false) := HN.out.cell 9
  have m0 : w1.cell? ⟨b, 0, none⟩ = some (.int .i64 sz) := HH1.out.cell 0
  have m1 : w1.cell? ⟨b, 1, none⟩ = some (.int .i64 num) := HH1.out.cell 1
  have m2 : w1.cell? ⟨b, 2, none⟩ = some (.slice A n c) := HH1.out.cell 2
  have m3 : w1.cell? ⟨b, 3, none⟩ = some (.int .i64 K) := HH1.out.cell 3
  have m4 : w1.cell? ⟨b, 4, none⟩ = some (.string af) := HH1.out.cell 4
  have m5 : w1.cell? ⟨b, 5, none⟩ = some (.string tbl) := HH1.out.cell 5
  have m6 : w1.cell? ⟨b, 6, none⟩ = some (.bool dn) := HH1.out.cell 6
  have m7 : w1.cell? ⟨b, 7, none⟩ = some (.string en) := HH1.out.cell 7
  have m8 : w1.cell? ⟨b, 8, none⟩ = some (.pointer (some ⟨tb0, 0, none⟩)) := HH1.out.cell 8
  have m9 : w1.cell? ⟨b, 9, none⟩ = some (.bool sp) := HH1.out.cell 9
  have f0 := HH1.out.free 0
  have f1 := HH1.out.free 1
  have f2 := HH1.out.free 2
  have f3 := HH1.out.free 3
  have f4 := HH1.out.free 4
  have f5 := HH1.out.free 5
  have f6 := HH1.out.free 6
  have f7 := HH1.out.free 7
  have f8 := HH1.out.free 8
  have f9 := HH1.out.free 9
  have HP := Lib.hid (put10_has HH1.out (.int .i64 sz) (.int .i64 (-1)) (.slice none 0 0) (.int .i64 0) (.string ⟨#[]⟩) (.string ⟨#[]⟩) (.bool false) (.string ⟨#[]⟩) (.pointer (some ⟨tb, 0, none⟩)) (.bool false))
  have HU := Lib.hid (put10_tur w1 b (.int .i64 sz) (.int .i64 (-1)) (.slice none 0 0) (.int .i64 0) (.string ⟨#[]⟩) (.string ⟨#[]⟩) (.bool false) (.string ⟨#[]⟩) (.pointer (some ⟨tb, 0, none⟩)) (.bool false))
  have HX : Hid (TrAt tb (put10 w1 b (.int .i64 sz) (.int .i64 (-1)) (.slice none 0 0) (.int .i64 0) (.string ⟨#[]⟩) (.string ⟨#[]⟩) (.bool false) (.string ⟨#[]⟩) (.pointer (some ⟨tb, 0, none⟩)) (.bool false)) .nil) := HT.out.turY HU.out fun z hz => by
    rw [List.mem_singleton.1 hz]
    exact ⟨Ne.symm hnet, _, _, HH1.out, by decide⟩
  go_wp2_with fail
  go_end0
  exact ⟨rfl, ⟨tb, fun lo => ⟨HP.out, ownC_nil _ _, HX.out, trivial⟩, htb⟩, (Tur.of_below HB1.out).trans HU.out (Fre.refl _ _)⟩
/-- One that is spoiled. -/
def wnSpoilt (sz num : Int) (tbl : ByteArray) (tb : Nat) : Wn := ⟨sz, num, none, 0, 0, [], 0, ⟨#[]⟩, tbl, false, ⟨#[]⟩, tb, .nil, true, []⟩
set_option maxHeartbeats 2000000 in
theorem wspoil_any {lo b : Nat} {w : World} {x : Wn} (h : WinAt lo b w x) (h0 : 1 ≤ x.sz) (h1 : x.sz ≤ 9223372036854775807) :
    Calls Tryd.prog 45 #[.pointer (some ⟨b, 0, none⟩)] w fun e w' => e = .returned (.tuple #[]) ∧ (∃ tb, Hid (∀ lo, WinAt lo b w' (wnSpoilt x.sz x.num x.tbl tb)) ∧ Hid (w.heap.size ≤ tb)) ∧ Hid (Tur [b] w w') := by
  have HC := Lib.hid (wclear_any (h.below (Below.refl _ w).drew) h0 h1)
  have HC2 := Lib.hid (wclear_any h h0 h1)
  have HH := Lib.hid h.top
  have hlt := h.top.lt
  clear h
  obtain ⟨sz, num, A, n, c, M, K, af, tbl, dn, en, tb0, T, sp, R⟩ := x
  dsimp only [Wn.cells] at HH HC HC2 h0 h1 ⊢
  have m1 : w.cell? ⟨b, 1, none⟩ = some (.int .i64 num) := HH.out.cell 1
  have m5 : w.cell? ⟨b, 5, none⟩ = some (.string tbl) := HH.out.cell 5
  go_enter Tryd.func45, Tryd.ntmps45
  go_wp2_with fail
  go_region
  all_goals
    go_wp2_with fail
    refine HC.out.mono ?_
    rintro e w1 ⟨rfl, ⟨tb, hw, htb⟩, ht⟩
    clear m1 m5
    have HN := Lib.hid (hw.out 0).top
    have HT := Lib.hid (hw.out 0).tr
    have hnet : tb ≠ b := by have : w.heap.size ≤ tb := htb.out; omega
    have HU := Lib.hid ((Tur.drew [b] w).trans ht.out (Fre.refl _ _))
    have htb2 : Hid (w.heap.size ≤ tb) := htb.out
    clear hw ht htb HC HH
    obtain ⟨⟩ : True := trivial
    have f1 := HN.out.free 1
    have f5 := HN.out.free 5
    have f9 := HN.out.free 9
    have n1 : w1.cell? ⟨b, 1, none⟩ = some (.int .i64 (-1)) := HN.out.cell 1
    have n5 : w1.cell? ⟨b, 5, none⟩ = some (.string ⟨#[]⟩) := HN.out.cell 5
    have n9 : w1.cell? ⟨b, 9, none⟩ = some (.bool false) := HN.out.cell 9
    go_wp2_with fail
    have k1 : Has (w1.setCell ⟨b, 1, none⟩ (.int .i64 num)) b 81 (Wn.cells ⟨sz, num, none, 0, 0, [], 0, ⟨#[]⟩, ⟨#[]⟩, false, ⟨#[]⟩, tb, .nil, false, []⟩) := HN.out.put 1 _
    have k5 : Has ((w1.setCell ⟨b, 1, none⟩ (.int .i64 num)).setCell ⟨b, 5, none⟩ (.string tbl)) b 81 (Wn.cells ⟨sz, num, none, 0, 0, [], 0, ⟨#[]⟩, tbl, false, ⟨#[]⟩, tb, .nil, false, []⟩) := k1.put 5 _
    have k9 : Has (((w1.setCell ⟨b, 1, none⟩ (.int .i64 num)).setCell ⟨b, 5, none⟩ (.string tbl)).setCell ⟨b, 9, none⟩ (.bool true)) b 81 (Wn.cells (wnSpoilt sz num tbl tb)) := k5.put 9 _
    have hu : Tur [b] w1 (((w1.setCell ⟨b, 1, none⟩ (.int .i64 num)).setCell ⟨b, 5, none⟩ (.string tbl)).setCell ⟨b, 9, none⟩ (.bool true)) := ((Tur.setCell w1 (p := ⟨b, 1, none⟩) (by simp) _).trans (Tur.setCell _ (p := ⟨b, 5, none⟩) (by simp) _) (Fre.refl _ _)).trans (Tur.setCell _ (p := ⟨b, 9, none⟩) (by simp) _) (Fre.refl _ _)
    have hx := HT.out.turY hu fun z hz => by
      rw [List.mem_singleton.1 hz]
      exact ⟨Ne.symm hnet, _, _, HN.out, by decide⟩
    go_end0
    exact ⟨rfl, ⟨tb, fun lo => ⟨k9, ownC_nil _ _, hx, trivial⟩, htb2⟩, HU.out.trans hu (Fre.refl _ _)⟩
end Go.Proofs.YtcdjeibcnkpadaaDoor
