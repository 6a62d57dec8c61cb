/-
  The document's rows, by their keys: Put.
-/
import Derived.Test.YtcdjeibcnkpadaaDoorWxP
namespace Go.Proofs.YtcdjeibcnkpadaaDoor
open Go.RowKit Go.Maps Dg
set_option maxRecDepth 100000
set_option linter.unusedVariables false
/-- Rows as they lie, each in a block of the call's own. -/
structure RsOwn (B : Nat) (w : World) (v : Value) (S : List Sl) (L : List (List Vl)) : Prop where
  own : OwnRs B w v S
  rows : RsAt B w S L
theorem RsAt.get {B : Nat} {w : World} : ∀ {S L}, RsAt B w S L → ∀ i (hi : i < S.length) (hj : i < L.length), OwnV B w S[i].val L[i]
  | [], [], _, i, hi, _ => by cases hi
  | s :: S, l :: L, h, 0, _, _ => h.1
  | s :: S, l :: L, h, i + 1, hi, hj => RsAt.get h.2 i (by simpa using hi) (by simpa using hj)
  | [], _ :: _, h, _, _, _ => h.elim
  | _ :: _, [], h, _, _, _ => h.elim
theorem RsAt.app {B : Nat} {w : World} : ∀ {S S' L L'}, RsAt B w S L → RsAt B w S' L' → RsAt B w (S ++ S') (L ++ L')
  | [], _, [], _, _, h => h
  | s :: S, _, l :: L, _, h, h' => ⟨h.1, RsAt.app h.2 h'⟩
  | [], _, _ :: _, _, h, _ => h.elim
  | _ :: _, _, [], _, h, _ => h.elim
theorem RsAt.take {B : Nat} {w : World} : ∀ {S L} (n : Nat), RsAt B w S L → RsAt B w (S.take n) (L.take n)
  | [], [], n, _ => by simp [RsAt]
  | s :: S, l :: L, 0, _ => trivial
  | s :: S, l :: L, n + 1, h => ⟨h.1, RsAt.take n h.2⟩
  | [], _ :: _, _, h => h.elim
  | _ :: _, [], _, h => h.elim
theorem RsAt.drop {B : Nat} {w : World} : ∀ {S L} (n : Nat), RsAt B w S L → RsAt B w (S.drop n) (L.drop n)
  | [], [], n, _ => by simp [RsAt]
  | s :: S, l :: L, 0, h => h
  | s :: S, l :: L, n + 1, h => RsAt.drop n h.2
  | [], _ :: _, _, h => h.elim
  | _ :: _, [], _, h => h.elim
/-- The slices behind Put. -/
def putS (p q : Nat) (s : Sl) (S : List Sl) : List Sl := S.take p ++ [s] ++ S.drop q
theorem src_drop {w : World} {Ar : Option Addr} {nr cr : Nat} {S : List Sl} {L : List (List Vl)} {p' : Nat} (g : Addr → Addr) (hg : ∀ b off, g ⟨b, off, none⟩ = ⟨b, off + p', none⟩) (h : RsIn w Ar nr cr S L) (hn0 : Ar = none → cr = 0) (hp : p' ≤ nr) :
    (S.drop p').length = nr - p' ∧ ((if cr = p' then Ar else Option.map g Ar) = none → nr - p' = 0 ∧ cr - p' = 0) ∧ (S.drop p' ≠ [] → ∃ b off, (if cr = p' then Ar else Option.map g Ar) = some ⟨b, off, none⟩ ∧ ∀ i (hi : i < (S.drop p').length), w.cell? ⟨b, off + i, none⟩ = some (.slice (S.drop p')[i].a (S.drop p')[i].n (S.drop p')[i].c)) := by
  have hl := h.len
  have hc := h.cap
  refine ⟨by rw [List.length_drop, hl], ?_, ?_⟩
  · by_cases e : cr = p'
    · intro _; omega
    · rw [if_neg e]
      cases Ar with
      | none => intro _; have := hn0 rfl; omega
      | some a => intro h; cases h
  · intro hne
    have hlt : p' < nr := by
      apply Classical.byContradiction
      intro hge
      exact hne (List.drop_eq_nil_of_le (by omega))
    rw [if_neg (by omega)]
    obtain ⟨b, off, e, hcc⟩ := h.cells (fun e => hne (by rw [e]; simp))
    refine ⟨b, off + p', by rw [e, Option.map_some, hg], fun i hi => ?_⟩
    rw [List.getElem_drop, Nat.add_assoc]
    exact hcc (p' + i) (by rw [List.length_drop] at hi; omega)
set_option maxHeartbeats 4000000 in
theorem rput10_any (A : Option Addr) (M : List Cl) (n c : Nat) (k : Nat) (Ar : Option Addr) (nr cr : Nat) (S : List Sl) (L : List (List Vl)) (s : Sl) (r : List Vl) (w : World) (hS : Sch M k) (hA : ClAt w A n c M) (hR : RsIn w Ar nr cr S L) (hn0 : Ar = none → cr = 0) (hK : ∀ r ∈ L, keyOk M r k = true) (hr : RwAt w s.a s.n s.c r) (hkr : keyOk M r k = true) (hz : nr ≤ 89000) :
    Calls Tryd.prog 40 #[.agg #[.slice A n c, .int .i64 k], .slice Ar nr cr, .slice s.a s.n s.c] w fun e w' => ∃ v, e = .returned v ∧ Hid (OwnRs w.heap.size w' v (putS (posR k (keyS k r) L) (posR k (keyS k r) L + (if isR k (keyS k r) L = true then 1 else 0)) s S)) ∧ Hid (Below w.heap.size w w') := by
  obtain ⟨p, hp⟩ : ∃ p, posR k (keyS k r) L = p := ⟨_, rfl⟩
  obtain ⟨q, hq⟩ : ∃ q, isR k (keyS k r) L = q := ⟨_, rfl⟩
  have hple : p ≤ nr := by rw [← hp, ← hR.many]; exact posR_le k _ L
  have HP := Lib.hid (fun (W : World) (hb : Below w.heap.size w W) => rplace_any A M n c k Ar nr cr S L (keyS k r) W hS (hA.below hb) (hR.below hb) hK hz)
  rw [hp, hq] at HP ⊢
  have HK := Lib.hid (fun (W : World) (hb : Below w.heap.size w W) => rkey10_any A M n c k s.a r s.n s.c W hS (hA.below hb) (hr.below hb))
  rw [show keyG M k r = keyS k r by unfold keyG; rw [if_pos hkr]] at HK
  have hq1 : q = true → p < nr := fun h => by
    rw [← hq] at h
    unfold isR at h
    rw [hp] at h
    cases hl : L[p]? with
    | none => rw [hl] at h; cases h
    | some x => rw [← hR.many]; exact (List.getElem?_eq_some_iff.1 hl).1
  clear hp hq
  have HS0 := Lib.hid (Has.new w 24 #[.slice A n c, .int .i64 k])
  have HB0 := Lib.hid ((Below.refl w.heap.size w).alloc (Nat.le_refl _) (.cells #[.slice A n c, .int .i64 k] 24))
  obtain ⟨sA, sn, sc⟩ := s
  dsimp only at HK ⊢
  go_enter Tryd.func40, Tryd.ntmps40
  go_wp2_with fail
  obtain ⟨w0, hw0⟩ : ∃ W, w.alloc (.cells #[.slice A n c, .int .i64 k] 24) = W := ⟨_, rfl⟩
  rw [hw0] at HS0 HB0 ⊢
  clear hw0
  have g0 : w0.cell? ⟨w.heap.size, 0, none⟩ = some (.slice A n c) := HS0.out.cell 0
  have g1 : w0.cell? ⟨w.heap.size, 1, none⟩ = some (.int .i64 k) := HS0.out.cell 1
  refine wp_region_held_drew (S := fun X => X.cell? ⟨w.heap.size, 0, none⟩ = some (.slice A n c) ∧ X.cell? ⟨w.heap.size, 1, none⟩ = some (.int .i64 k)) (by kernel_rfl) (by exact ⟨g0, g1⟩) (fun _ => ?_)
  (refine wpAnyH_take (i := 0) (v := ?_) rfl (by kernel_rfl) (by kernel_rfl) (by kernel_rfl) (fun _ _ _ h => h) (Or.inl ⟨by rfl, ?_⟩) (by assumption) ?_; rotate_left; (intro w hSw; (try dsimp only at hSw); go_simp; try with_reducible rfl); ((try simp only [List.getElem_toArray]); (try simp only [List.getElem_cons_succ]); (try simp only [List.getElem_cons_zero]); (try simp only [Act.put]); (try simp only [List.setIfInBounds_toArray]); (try simp only [List.set_cons_succ]); (try simp only [List.set_cons_zero])))
  (refine wpAnyH_take (i := 1) (v := ?_) rfl (by kernel_rfl) (by kernel_rfl) (by kernel_rfl) (fun _ _ _ h => h) (Or.inl ⟨by rfl, ?_⟩) (by assumption) ?_; rotate_left; (intro w hSw; (try dsimp only at hSw); go_simp; try with_reducible rfl); ((try simp only [List.getElem_toArray]); (try simp only [List.getElem_cons_succ]); (try simp only [List.getElem_cons_zero]); (try simp only [Act.put]); (try simp only [List.setIfInBounds_toArray]); (try simp only [List.set_cons_succ]); (try simp only [List.set_cons_zero])))
  (refine wpAnyH_take (i := 2) (v := ?_) rfl (by kernel_rfl) (by kernel_rfl) (by kernel_rfl) (fun _ _ _ h => h) (Or.inl ⟨by rfl, ?_⟩) (by assumption) ?_; rotate_left; (intro w hSw; (try dsimp only at hSw); go_simp; try with_reducible rfl); ((try simp only [List.getElem_toArray]); (try simp only [List.getElem_cons_succ]); (try simp only [List.getElem_cons_zero]); (try simp only [Act.put]); (try simp only [List.setIfInBounds_toArray]); (try simp only [List.set_cons_succ]); (try simp only [List.set_cons_zero])))
  (refine wpAnyH_take (i := 3) (v := ?_) rfl (by kernel_rfl) (by kernel_rfl) (by kernel_rfl) (fun _ _ _ h => h) (Or.inl ⟨by rfl, ?_⟩) (by assumption) ?_; rotate_left; (intro w hSw; (try dsimp only at hSw); go_simp; try with_reducible rfl); ((try simp only [List.getElem_toArray]); (try simp only [List.getElem_cons_succ]); (try simp only [List.getElem_cons_zero]); (try simp only [Act.put]); (try simp only [List.setIfInBounds_toArray]); (try simp only [List.set_cons_succ]); (try simp only [List.set_cons_zero])))
  refine wpAnyH_ready (rs := [4]) (by kernel_rfl) (by simp) ?_
  refine AllReadyH.cons rfl (fun K2 hK2 => ?_) AllReadyH.nil
  go_simp
  refine (HK.out _ HB0.out.drew).mono ?_
  rintro e w1 ⟨rfl, hb1⟩
  have HB1 : Hid (Below w0.heap.size w0 w1) := (Below.refl w0.heap.size w0).drew.trans hb1.out
  have HS1 := Lib.hid (HS0.out.below HB1.out HS0.out.lt)
  have g01 : w1.cell? ⟨w.heap.size, 0, none⟩ = some (.slice A n c) := HS1.out.cell 0
  have g11 : w1.cell? ⟨w.heap.size, 1, none⟩ = some (.int .i64 k) := HS1.out.cell 1
  clear hb1 g0 g1
  go_wp2_with fail
  refine hK2.out _ _ (by (try dsimp only); exact ⟨g01, g11⟩) (fun _ => ?_)
  clear hK2 K2
  (try simp only [List.getElem_toArray]); (try simp only [List.getElem_cons_succ]); (try simp only [List.getElem_cons_zero]); (try simp only [Act.put]); (try simp only [List.setIfInBounds_toArray]); (try simp only [List.set_cons_succ]); (try simp only [List.set_cons_zero])
  refine wpAnyH_ready (rs := [5]) (by kernel_rfl) (by simp) ?_
  refine AllReadyH.cons rfl (fun K2 hK2 => ?_) AllReadyH.nil
  go_simp
  refine (HP.out _ (HB0.out.trans (HB1.out.mono HB0.out.size))).mono ?_
  rintro e w2 ⟨rfl, hb2⟩
  have HB2 : Hid (Below w0.heap.size w0 w2) := HB1.out.trans (hb2.out.mono HB1.out.size)
  have HS2 := Lib.hid (HS0.out.below HB2.out HS0.out.lt)
  have g02 : w2.cell? ⟨w.heap.size, 0, none⟩ = some (.slice A n c) := HS2.out.cell 0
  have g12 : w2.cell? ⟨w.heap.size, 1, none⟩ = some (.int .i64 k) := HS2.out.cell 1
  clear hb2 g01 g11
  go_wp2_with fail
  refine hK2.out _ _ (by (try dsimp only); exact ⟨g02, g12⟩) (fun _ => ?_)
  clear hK2 K2
  (try simp only [List.getElem_toArray]); (try simp only [List.getElem_cons_succ]); (try simp only [List.getElem_cons_zero]); (try simp only [Act.put]); (try simp only [List.setIfInBounds_toArray]); (try simp only [List.set_cons_succ]); (try simp only [List.set_cons_zero])
  (refine wpAnyH_take (i := 6) (v := ?_) rfl (by kernel_rfl) (by kernel_rfl) (by kernel_rfl) (fun _ _ _ h => h) (Or.inl ⟨by rfl, ?_⟩) (by assumption) ?_; rotate_left; (intro w hSw; (try dsimp only at hSw); go_simp; try with_reducible rfl); ((try simp only [List.getElem_toArray]); (try simp only [List.getElem_cons_succ]); (try simp only [List.getElem_cons_zero]); (try simp only [Act.put]); (try simp only [List.setIfInBounds_toArray]); (try simp only [List.set_cons_succ]); (try simp only [List.set_cons_zero])))
  (refine wpAnyH_take (i := 7) (v := ?_) rfl (by kernel_rfl) (by kernel_rfl) (by kernel_rfl) (fun _ _ _ h => h) (Or.inl ⟨by rfl, ?_⟩) (by assumption) ?_; rotate_left; (intro w hSw; (try dsimp only at hSw); go_simp; try with_reducible rfl); ((try simp only [List.getElem_toArray]); (try simp only [List.getElem_cons_succ]); (try simp only [List.getElem_cons_zero]); (try simp only [Act.put]); (try simp only [List.setIfInBounds_toArray]); (try simp only [List.set_cons_succ]); (try simp only [List.set_cons_zero])))
  (refine wpAnyH_take (i := 8) (v := ?_) rfl (by kernel_rfl) (by kernel_rfl) (by kernel_rfl) (fun _ _ _ h => h) (Or.inl ⟨by rfl, ?_⟩) (by assumption) ?_; rotate_left; (intro w hSw; (try dsimp only at hSw); go_simp; try with_reducible rfl); ((try simp only [List.getElem_toArray]); (try simp only [List.getElem_cons_succ]); (try simp only [List.getElem_cons_zero]); (try simp only [Act.put]); (try simp only [List.setIfInBounds_toArray]); (try simp only [List.set_cons_succ]); (try simp only [List.set_cons_zero])))
  (refine wpAnyH_take (i := 9) (v := ?_) rfl (by kernel_rfl) (by kernel_rfl) (by kernel_rfl) (fun _ _ _ h => h) (Or.inl ⟨by rfl, ?_⟩) (by assumption) ?_; rotate_left; (intro w hSw; (try dsimp only at hSw); go_simp; try with_reducible rfl); ((try simp only [List.getElem_toArray]); (try simp only [List.getElem_cons_succ]); (try simp only [List.getElem_cons_zero]); (try simp only [Act.put]); (try simp only [List.setIfInBounds_toArray]); (try simp only [List.set_cons_succ]); (try simp only [List.set_cons_zero])))
  (refine wpAnyH_take (i := 10) (v := ?_) rfl (by kernel_rfl) (by kernel_rfl) (by kernel_rfl) (fun _ _ _ h => h) (Or.inl ⟨by rfl, ?_⟩) (by assumption) ?_; rotate_left; (intro w hSw; (try dsimp only at hSw); go_simp; try with_reducible rfl); ((try simp only [List.getElem_toArray]); (try simp only [List.getElem_cons_succ]); (try simp only [List.getElem_cons_zero]); (try simp only [Act.put]); (try simp only [List.setIfInBounds_toArray]); (try simp only [List.set_cons_succ]); (try simp only [List.set_cons_zero])))
  refine wpAnyH_done (by kernel_rfl) ?_ _
  have hcr := hR.cap
  have hpc : (p : Int) ≤ (cr : Int) := by omega
  have hpn : (p : Int) ≤ (nr : Int) := by omega
  have hp0 : (0 : Int) ≤ (p : Int) := by omega
  have HBw2 := Lib.hid (HB0.out.trans (HB2.out.mono HB0.out.size))
  have HR2 := Lib.hid (hR.below HBw2.out)
  have HRn := Lib.hid (hr.below HBw2.out)
  have HN0 := Lib.hid hn0
  have hR0 := Lib.hid hR
  clear hn0 hR hr hA hK hkr
  have HAP1 := Lib.hid (appRs w2 w.heap.size (.slice none 0 0) [] Ar p cr (S.take p) (ownRs_nil _ _) HBw2.out.size (by rw [List.length_take, HR2.out.len]; omega) (fun e => by have := HN0.out e; omega)
    (fun hne => by
      obtain ⟨b, off, e, hc⟩ := HR2.out.cells (fun e => hne (by rw [e]; simp))
      refine ⟨b, off, e, fun i hi => ?_⟩
      rw [List.getElem_take]
      exact hc i (by rw [List.length_take] at hi; omega)) (by simp; omega))
  have hSl := HR2.out.len
  have HBB := Lib.hid (fun (W : World) (hb : Below w2.heap.size w2 W) => HBw2.out.trans (hb.mono HBw2.out.size))
  cases q with
  | true =>
    have hpt := hq1 rfl
    have hpc1 : (p : Int) + 1 ≤ (cr : Int) := by omega
    have hpn1 : (p : Int) + 1 ≤ (nr : Int) := by omega
    have hp01 : (0 : Int) ≤ (p : Int) + 1 := by omega
    have HSD := Lib.hid (fun (W : World) (hb : Below w.heap.size w W) => src_drop (p' := p + 1) (fun x => { block := x.block, off := x.off + (p + 1) }) (fun b off => rfl) (hR0.out.below hb) HN0.out (by omega))
    go_wp2_with (first
    | (at_builtin; refine wpList_app rfl _ _ 27 27 rfl (.slice none 0 0) (.slice Ar p cr) rfl rfl ?_; obtain ⟨R1, W1, hrun, ho1, hu1, hf1⟩ := HAP1.out; refine ⟨R1, W1, hrun, ?_⟩; obtain ⟨A1, n1, c1, rfl, _, _, _, _⟩ := ownRs_open ho1; have HO1 : Hid (OwnRs w.heap.size W1 (.slice A1 n1 c1) ([] ++ S.take p)) := ho1; have HW1 : Hid (Below w.heap.size w W1) := HBw2.out.trans (hu1.below (by simp [Value.ownBlock]) HBw2.out.size); clear HAP1 hrun ho1 hu1 hf1; have HAP2 := Lib.hid (appR1 W1 W1.heap.size rfl w.heap.size (.slice A1 n1 c1) ([] ++ S.take p) ⟨sA, sn, sc⟩ HO1.out HW1.out.size (by simp; omega)))
    | (at_builtin; refine wpList_app rfl _ _ 27 27 rfl (.slice A1 n1 c1) (.slice (some ⟨W1.heap.size, 0, none⟩) 1 1) rfl rfl ?_; obtain ⟨R2, W2, hrun, ho2, hu2, hf2⟩ := HAP2.out; refine ⟨R2, W2, hrun, ?_⟩; obtain ⟨A2, n2, c2, rfl, _, _, _, _⟩ := ownRs_open ho2; have HO2 : Hid (OwnRs w.heap.size W2 (.slice A2 n2 c2) ([] ++ S.take p ++ [⟨sA, sn, sc⟩])) := ho2; have HW2 : Hid (Below w.heap.size w W2) := HW1.out.trans (hu2.below (fun b hb => (World.ownsRow.lt HO1.out b (by simpa using hb)).1) HW1.out.size); clear HAP2 hrun ho2 hu2 hf2; have HAP3 := Lib.hid (appRs W2 w.heap.size (.slice A2 n2 c2) ([] ++ S.take p ++ [⟨sA, sn, sc⟩]) _ _ _ _ HO2.out HW2.out.size (HSD.out W2 HW2.out).1 (HSD.out W2 HW2.out).2.1 (HSD.out W2 HW2.out).2.2 (by simp; omega)))
    | (at_builtin; refine wpList_app rfl _ _ 27 27 rfl (.slice A2 n2 c2) (.slice (if cr = p + 1 then Ar else Option.map (fun x => { block := x.block, off := x.off + (p + 1) }) Ar) (nr - (p + 1)) (cr - (p + 1))) rfl rfl ?_; obtain ⟨R3, W3, hrun, ho3, hu3, hf3⟩ := HAP3.out; refine ⟨R3, W3, hrun, ?_⟩; have HO3 := Lib.hid ho3; have HW3 : Hid (Below w.heap.size w W3) := HW2.out.trans (hu3.below (fun b hb => (World.ownsRow.lt HO2.out b (by simpa using hb)).1) HW2.out.size); clear HAP3 hrun ho3 hu3 hf3))
    all_goals
      go_ret
      exact ⟨_, rfl, HO3, HW3⟩
  | false =>
    clear hq1
    have HSD := Lib.hid (fun (W : World) (hb : Below w.heap.size w W) => src_drop (p' := p) (fun x => x.add p) (fun b off => by simp [Addr.add]) (hR0.out.below hb) HN0.out (by omega))
    go_wp2_with (first
    | (at_builtin; refine wpList_app rfl _ _ 27 27 rfl (.slice none 0 0) (.slice Ar p cr) rfl rfl ?_; obtain ⟨R1, W1, hrun, ho1, hu1, hf1⟩ := HAP1.out; refine ⟨R1, W1, hrun, ?_⟩; obtain ⟨A1, n1, c1, rfl, _, _, _, _⟩ := ownRs_open ho1; have HO1 : Hid (OwnRs w.heap.size W1 (.slice A1 n1 c1) ([] ++ S.take p)) := ho1; have HW1 : Hid (Below w.heap.size w W1) := HBw2.out.trans (hu1.below (by simp [Value.ownBlock]) HBw2.out.size); clear HAP1 hrun ho1 hu1 hf1; have HAP2 := Lib.hid (appR1 W1 W1.heap.size rfl w.heap.size (.slice A1 n1 c1) ([] ++ S.take p) ⟨sA, sn, sc⟩ HO1.out HW1.out.size (by simp; omega)))
    | (at_builtin; refine wpList_app rfl _ _ 27 27 rfl (.slice A1 n1 c1) (.slice (some ⟨W1.heap.size, 0, none⟩) 1 1) rfl rfl ?_; obtain ⟨R2, W2, hrun, ho2, hu2, hf2⟩ := HAP2.out; refine ⟨R2, W2, hrun, ?_⟩; obtain ⟨A2, n2, c2, rfl, _, _, _, _⟩ := ownRs_open ho2; have HO2 : Hid (OwnRs w.heap.size W2 (.slice A2 n2 c2) ([] ++ S.take p ++ [⟨sA, sn, sc⟩])) := ho2; have HW2 : Hid (Below w.heap.size w W2) := HW1.out.trans (hu2.below (fun b hb => (World.ownsRow.lt HO1.out b (by simpa using hb)).1) HW1.out.size); clear HAP2 hrun ho2 hu2 hf2; have HAP3 := Lib.hid (appRs W2 w.heap.size (.slice A2 n2 c2) ([] ++ S.take p ++ [⟨sA, sn, sc⟩]) _ _ _ _ HO2.out HW2.out.size (HSD.out W2 HW2.out).1 (HSD.out W2 HW2.out).2.1 (HSD.out W2 HW2.out).2.2 (by simp; omega)))
    | (at_builtin; refine wpList_app rfl _ _ 27 27 rfl (.slice A2 n2 c2) (.slice (if cr = p then Ar else Option.map (fun x => x.add p) Ar) (nr - p) (cr - p)) rfl rfl ?_; obtain ⟨R3, W3, hrun, ho3, hu3, hf3⟩ := HAP3.out; refine ⟨R3, W3, hrun, ?_⟩; have HO3 := Lib.hid ho3; have HW3 : Hid (Below w.heap.size w W3) := HW2.out.trans (hu3.below (fun b hb => (World.ownsRow.lt HO2.out b (by simpa using hb)).1) HW2.out.size); clear HAP3 hrun ho3 hu3 hf3))
    all_goals
      go_ret
      exact ⟨_, rfl, HO3, HW3⟩
end Go.Proofs.YtcdjeibcnkpadaaDoor
