/-
  Few columns: the law's cut; a schema in memory of its own: the program's Clone.
-/
import Derived.Test.YtiefogofiajmnaaDoorGood4
import Derived.Test.YtiefogofiajmnaaDoorRow4
import Derived.Test.YtiefogofiajmnaaDoorApply
import Derived.Lib.LazyBuf
namespace Go.Proofs.YtiefogofiajmnaaDoor
open Go.RowKit Dg
def cutC (x : Cl) : Cl := ⟨forty x.nm, x.k, x.no⟩
def cutTo (L : List Cl) (k : Nat) : List Cl := (L.take k).map cutC
def cutL (L : List Cl) : List Cl := cutTo L 20
theorem cutTo_succ (L : List Cl) (k : Nat) (h : k < L.length) : cutTo L (k + 1) = cutTo L k ++ [cutC L[k]] := by
  unfold cutTo; rw [List.take_succ_eq_append_getElem h, List.map_append]; rfl
theorem cutTo_len (L : List Cl) (k : Nat) : (cutTo L k).length ≤ k := by unfold cutTo; rw [List.length_map, List.length_take]; omega
theorem cutTo_end (L : List Cl) (k : Nat) (h : k = L.length ∨ k = 20) (hk : k ≤ 20) : cutTo L k = cutL L := by
  unfold cutL
  rcases h with h | h
  · unfold cutTo; rw [List.take_of_length_le (by omega), List.take_of_length_le (by omega)]
  · rw [h]
theorem cutL_fit (L : List Cl) (h : ∀ x ∈ L, x.fit) : ∀ x ∈ cutL L, x.fit := fun x hx => by
  unfold cutL cutTo at hx
  obtain ⟨y, hy, rfl⟩ := List.mem_map.1 hx
  obtain ⟨h1, h2, h3⟩ := h y (List.mem_of_mem_take hy)
  exact ⟨by show (forty y.nm).size ≤ _; have := forty_size y.nm; omega, h2, h3⟩
structure CSt (w : World) (A : Option Addr) (n c : Nat) (K : Int) (wr : World) (v : Value) (M : List Cl) : Prop where
  own : OwnC (w.heap.size + 3) wr v M
  bel : Below w.heap.size w wr
  prm : Has wr w.heap.size 28 #[.slice A n c, .int .i64 K]
  res : Has wr (w.heap.size + 1) 28 #[.slice none 0 0, .int .i64 0]
  out : Has wr (w.heap.size + 2) 28 #[v, .int .i64 K]
  big : w.heap.size + 3 ≤ wr.heap.size
section
variable {w wr w' : World} {A : Option Addr} {n c : Nat} {K : Int} {v : Value} {M : List Cl}
theorem CSt.below (h : CSt w A n c K wr v M) (hb : Below wr.heap.size wr w') : CSt w A n c K w' v M :=
  ⟨h.own.below hb, h.bel.trans (hb.mono h.bel.size), h.prm.below hb h.prm.lt, h.res.below hb h.res.lt, h.out.below hb h.out.lt, Nat.le_trans h.big hb.size⟩
theorem CSt.stored (h : CSt w A n c K wr v M) {R : Value} {M' : List Cl} (ho : OwnC (w.heap.size + 3) w' R M') (hb : Below (w.heap.size + 3) wr w') : CSt w A n c K (w'.setCell ⟨w.heap.size + 2, 0, none⟩ R) R M' := by
  refine ⟨ho.far (by show w.heap.size + 2 < _; omega) R, (h.bel.trans (hb.mono (by omega))).setCell (by show w.heap.size ≤ w.heap.size + 2; omega) _, ?_, ?_, ?_, ?_⟩
  · exact (h.prm.below hb (by omega)).far (by show w.heap.size ≠ w.heap.size + 2; omega) _
  · exact (h.res.below hb (by omega)).far (by show w.heap.size + 1 ≠ w.heap.size + 2; omega) _
  · exact (h.out.below hb (by omega)).put 0 R
  · rw [size_set]; exact Nat.le_trans h.big hb.size
end
theorem clEnd (w' : World) (g : Nat) (c0 c1 : Value) (tmps : Array Value) (hp : tmps.getD 2 undef = .pointer (some ⟨g, 0, none⟩)) (hh : Has w' g 28 #[c0, c1]) :
    (results Tryd.f26 tmps).run Tryd.prog w' = .ok (.agg #[c0, c1]) w' :=
  results_cell_row rfl _ _ g 28 #[c0, c1] (0, 0) _ hp hh Tryd.underlying28 rfl (by kernel_rfl)
theorem sliceNil (a : Option Addr) (l c : Nat) (w : World) : (binOp .eql 26 (.slice a l c) (.slice none 0 0)).run Tryd.prog w = .ok (.bool a.isNone) w := Lib.run_eql_slice_nil (h := Tryd.underlying26) ..
theorem cell_s2' {W : World} {p : Nat} {u u' : Value} {a : Addr} {v : Value} (hne : p ≠ a.block) (h : W.cell? a = some v) : ((W.setCell ⟨p, 0, none⟩ u).setCell ⟨p, 1, none⟩ u').cell? a = some v := cell_s2 hne h
theorem own_empty (w : World) : OwnC w.heap.size (w.alloc (.cells #[] 38)) (.slice (some ⟨w.heap.size, 0, none⟩) 0 0) [] :=
  ⟨rfl, .inr ⟨w.heap.size, 0, #[], rfl, Nat.le_refl _, Has.new w 38 #[], Nat.le_refl _, Nat.zero_le _, rfl, rfl⟩⟩
set_option maxHeartbeats 2000000 in
set_option maxRecDepth 100000 in
theorem cloneC_any (A : Option Addr) (L : List Cl) (n c : Nat) (w : World) (hn : L.length = n) (hl : n ≤ 900) (hA : CRow w A L) (h0 : A = none → c = 0) :
    Calls Tryd.prog 46 #[.slice A n c] w fun e w' => ∃ v, e = .returned v ∧ Hid (OwnC w.heap.size w' v L) ∧ Hid (Below w.heap.size w w') := by
  have HN := Lib.hid hn
  have HA := Lib.hid hA
  clear hn hA
  rcases A with _ | ⟨b, off, x⟩
  · have hc := h0 rfl
    subst hc
    have hL : L = [] := by
      rcases L with _ | ⟨y, L⟩
      · rfl
      · obtain ⟨b, off, e, _⟩ := HA.out (by simp); cases e
    subst hL
    have hn : n = 0 := HN.out.symm
    subst hn
    have hnil := sliceNil
    go_enter Tryd.func46, Tryd.ntmps46
    go_wp2_with fail
    go_ret
    exact ⟨_, rfl, ownC_nil _ _, Below.refl _ _⟩
  · clear h0
    have HE := Lib.hid (own_empty w)
    have HB := Lib.hid ((Below.refl w.heap.size w).alloc (Nat.le_refl _) (.cells #[] 38))
    have HAP := Lib.hid (appCs (w.alloc (.cells #[] 38)) w.heap.size (.slice (some ⟨w.heap.size, 0, none⟩) 0 0) [] HE.out (by simp) (some ⟨b, off, x⟩) L n c HN.out (HA.out.below HB.out) (fun h => by cases h) (by simp; omega))
    have hnil := sliceNil
    go_enter Tryd.func46, Tryd.ntmps46
    go_wp2_with (at_builtin; refine wpList_app rfl _ _ 26 26 rfl (.slice (some ⟨w.heap.size, 0, none⟩) 0 0) (.slice (some ⟨b, off, x⟩) n c) rfl rfl ?_; obtain ⟨R, W', hrun, hmade⟩ := HAP.out; refine ⟨R, W', hrun, ?_⟩; have HM := Lib.hid hmade; clear hrun hmade HAP)
    go_ret
    exact ⟨R, rfl, HM.out.1, HB.out.trans HM.out.2⟩
set_option maxHeartbeats 2000000 in
set_option maxRecDepth 100000 in
theorem clone4_any (A : Option Addr) (L : List Cl) (n c : Nat) (K : Int) (w : World) (hn : L.length = n) (hl : n ≤ 900) (hA : CRow w A L) (h0 : A = none → c = 0) :
    Calls Tryd.prog 26 #[.agg #[.slice A n c, .int .i64 K]] w fun e w' => ∃ v, e = .returned (.agg #[v, .int .i64 K]) ∧ Hid (OwnC w.heap.size w' v L) ∧ Hid (Below w.heap.size w w') := by
  have HB0 := Lib.hid (((Below.refl w.heap.size w).alloc (Nat.le_refl _) (.cells #[.slice A n c, .int .i64 K] 28)).alloc (by simp) (.cells #[.slice none 0 0, .int .i64 0] 28))
  have HS0 := Lib.hid ((Has.new w 28 #[.slice A n c, .int .i64 K]).alloc (.cells #[.slice none 0 0, .int .i64 0] 28))
  have hg := Has.new (w.alloc (.cells #[.slice A n c, .int .i64 K] 28)) 28 #[.slice none 0 0, .int .i64 0]
  rw [show (w.alloc (.cells #[.slice A n c, .int .i64 K] 28)).heap.size = w.heap.size + 1 by simp] at hg
  have HG0 := Lib.hid hg
  have HCC := Lib.hid (fun W (hb : Below w.heap.size w W) => cloneC_any A L n c W hn hl (hA.below hb) h0)
  clear hg hn hA h0
  go_enter Tryd.func26, Tryd.ntmps26
  go_wp2_with fail
  obtain ⟨W, hW⟩ : ∃ W, W = (w.alloc (.cells #[.slice A n c, .int .i64 K] 28)).alloc (.cells #[.slice none 0 0, .int .i64 0] 28) := ⟨_, rfl⟩
  rw [← hW] at HB0 HS0 HG0 ⊢
  have hz : w.heap.size + 2 ≤ W.heap.size := by rw [hW]; simp
  clear hW
  have s0 : W.cell? ⟨w.heap.size, 0, none⟩ = some (.slice A n c) := HS0.out.cell 0
  have s1 : W.cell? ⟨w.heap.size, 1, none⟩ = some (.int .i64 K) := HS0.out.cell 1
  have g0 : W.cell? ⟨w.heap.size + 1, 0, none⟩ = some (.slice none 0 0) := HG0.out.cell 0
  have g1 : W.cell? ⟨w.heap.size + 1, 1, none⟩ = some (.int .i64 0) := HG0.out.cell 1
  have f0 : W.frozen? ⟨w.heap.size + 1, 0, none⟩ = false := HG0.out.free 0
  have HBD : Hid (Below w.heap.size w W.drew) := HB0.out.drew
  go_region_held3 (fun X => X.cell? ⟨w.heap.size, 0, none⟩ = some (.slice A n c) ∧ X.cell? ⟨w.heap.size, 1, none⟩ = some (.int .i64 K)) (first | (go_keep; done) | exact ⟨cell_s2' (by show w.heap.size + 1 ≠ w.heap.size; omega) (by assumption), cell_s2' (by show w.heap.size + 1 ≠ w.heap.size; omega) (by assumption)⟩) (first
    | (go_at_call 46; (with_reducible refine (HCC.out _ HBD.out).mono ?_); rintro e X ⟨v, rfl, ho, hb⟩; obtain ⟨A8, n8, c8, rfl, _, _, _, _, _⟩ := ownC_open ho.out; have z0 := keepC hb.out s0; have z1 := keepC hb.out s1; have HR := Lib.hid ((HG0.out.drew).below hb.out (by show w.heap.size + 1 < W.heap.size; omega)); have r0 : X.cell? ⟨w.heap.size + 1, 0, none⟩ = some (.slice none 0 0) := HR.out.cell 0; have r1 : X.cell? ⟨w.heap.size + 1, 1, none⟩ = some (.int .i64 0) := HR.out.cell 1; have e0 : X.frozen? ⟨w.heap.size + 1, 0, none⟩ = false := HR.out.free 0; have e1 : X.frozen? ⟨w.heap.size + 1, 1, none⟩ = false := HR.out.free 1; have HO := Lib.hid ho.out; have HBX := Lib.hid (HBD.out.trans (hb.out.mono (by show w.heap.size ≤ W.heap.size; omega))); clear ho hb))
  all_goals
    go_wp2_with fail
    have HP := Lib.hid ((HR.out.put 0 (.slice A8 n8 c8)).put 1 (.int .i64 K))
    have HO8 := Lib.hid ((HO.out.far (p := ⟨w.heap.size + 1, 0, none⟩) (by show w.heap.size + 1 < W.heap.size; omega) (.slice A8 n8 c8)).far (p := ⟨w.heap.size + 1, 1, none⟩) (by show w.heap.size + 1 < W.heap.size; omega) (.int .i64 K))
    exact bodyPost_ret (clEnd _ (w.heap.size + 1) _ _ _ rfl HP.out) rfl ⟨_, rfl, ownC_down HO8.out (by show w.heap.size ≤ W.heap.size; omega), (HBX.out.setCell (by show w.heap.size ≤ w.heap.size + 1; omega) _).setCell (by show w.heap.size ≤ w.heap.size + 1; omega) _⟩
end Go.Proofs.YtiefogofiajmnaaDoor
