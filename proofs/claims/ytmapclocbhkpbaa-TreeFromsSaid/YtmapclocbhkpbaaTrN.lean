/-
  build: a tree of a row of nodes.
-/
import Derived.Test.YtmapclocbhkpbaaTrI
import Derived.Test.YtmapclocbhkpbaaTrM
namespace Go.Proofs.Ytmapclocbhkpbaa
open Go.RowKit Go.Maps Dg
set_option linter.unusedVariables false
/-- A node's key, thing and lot lie there. -/
def NdAt (w : World) (x : Nd) : Prop := ∃ lo : Int, w.cell? ⟨x.b, 0, none⟩ = some (.string x.k) ∧ w.cell? ⟨x.b, 1, none⟩ = some (.int .i64 x.v) ∧ w.cell? ⟨x.b, 6, none⟩ = some (.int .i64 lo)
theorem NdAt.below {w w' : World} {x : Nd} (h : NdAt w x) (hb : Below w.heap.size w w') : NdAt w' x := by
  obtain ⟨lo, h0, h1, h6⟩ := h
  have e : ∀ (j : Nat) u, w.cell? ⟨x.b, j, none⟩ = some u → w'.cell? ⟨x.b, j, none⟩ = some u := fun j u hu => (hb.cell (p := ⟨x.b, j, none⟩) (World.block_lt_of_cell? w _ hu)).trans hu
  exact ⟨lo, e _ _ h0, e _ _ h1, e _ _ h6⟩
theorem RdP.below {w w' : World} {A : Option Addr} {L : List Nd} (h : RdP w A L) (hb : Below w.heap.size w w') : RdP w' A L := fun i hi => by
  obtain ⟨b, off, e, hc⟩ := h i hi
  exact ⟨b, off, e, (hb.cell (p := ⟨b, off + i, none⟩) (World.block_lt_of_cell? w _ hc)).trans hc⟩
theorem RdP.take {w : World} {A : Option Addr} {L : List Nd} (h : RdP w A L) (k : Nat) : RdP w A (L.take k) := fun i hi => by
  rw [List.length_take] at hi
  obtain ⟨b, off, e, hc⟩ := h i (by omega)
  exact ⟨b, off, e, by rw [List.getElem_take]; exact hc⟩
theorem RdP.drop {w : World} {b off : Nat} {L : List Nd} (h : RdP w (some ⟨b, off, none⟩) L) (k : Nat) : RdP w (some ⟨b, off + k, none⟩) (L.drop k) := fun i hi => by
  rw [List.length_drop] at hi
  obtain ⟨b', off', e, hc⟩ := h (k + i) (by omega)
  cases e
  exact ⟨b, off + k, rfl, by rw [List.getElem_drop, Nat.add_assoc]; exact hc⟩
theorem nds_at {n : Nat} {w : World} : ∀ {T : Tr}, IsTr n w T → ∀ x ∈ T.nds, NdAt w x
  | .nil, _, x, hx => by cases hx
  | .node b l k v lo le r, ⟨h1, h2, h3, h4⟩, x, hx => by
    rcases List.mem_append.1 hx with hx | hx
    · exact nds_at h3 x hx
    · rcases List.mem_cons.1 hx with rfl | hx
      · exact ⟨lo, h2.cell 0, h2.cell 1, h2.cell 6⟩
      · exact nds_at h4 x hx
def conL (L : List Nd) : List (ByteArray × Int) := L.map fun x => (x.k, x.v)
/-- What a call leaves that makes a tree. -/
def OutT (w : World) (C : List (ByteArray × Int)) (e : Ending) (w' : World) : Prop := ∃ T : Tr, e = .returned (.pointer T.ptr) ∧ IsTr w'.heap.size w' T ∧ T.con = C ∧ Bal T ∧ Below w.heap.size w w'
set_option maxHeartbeats 4000000 in
set_option maxRecDepth 100000 in
theorem build_any (m : Nat) : ∀ (L : List Nd) (w : World) (A : Option Addr) (n c : Nat), L.length ≤ m → L.length = n → n ≤ c → c ≤ maxLen → RdP w A L → (∀ x ∈ L, NdAt w x) → n ≤ 1000000 →
    Calls Try.prog 38 #[.slice A n c] w fun e w' => OutT w (conL L) e w' := by
  induction m with
  | zero =>
    intro L w A n c hm hn hnc hcm hr hx hz
    have hL : L = [] := List.eq_nil_of_length_eq_zero (by omega)
    subst hL
    subst hn
    go_enter Try.func38, Try.ntmps38
    go_wp2_with fail
    go_ret
    exact ⟨.nil, rfl, trivial, rfl, trivial, Below.refl _ _⟩
  | succ m ih =>
    intro L w A n c hm hn hnc hcm hr hx hz
    by_cases h0 : n = 0
    · subst h0
      have hL : L = [] := List.eq_nil_of_length_eq_zero hn
      subst hL
      go_enter Try.func38, Try.ntmps38
      go_wp2_with fail
      go_ret
      exact ⟨.nil, rfl, trivial, rfl, trivial, Below.refl _ _⟩
    · obtain ⟨b, off, rfl, -⟩ := hr 0 (by omega)
      have hcI : (c : Int) ≤ 9223372036854775807 := by unfold maxLen at hcm; omega
      have hnI : ¬ (n : Int) = 0 := by omega
      have HR := Lib.hid hr
      have HX := Lib.hid hx
      have HM := Lib.hid (middle_any w n hz)
      have HN := Lib.hid hn
      obtain ⟨f, hf⟩ : ∃ f : Nat, Hid (f = n / 3) := ⟨_, rfl⟩
      obtain ⟨g, hg⟩ : ∃ g : Nat, Hid (g = n - f) := ⟨_, rfl⟩
      have hft : f < g := by have := hf.out; have := hg.out; omega
      have hgn : g ≤ n := by have := hg.out; omega
      rw [show (n : Int) / 3 = (f : Int) by have := hf.out; omega, show (n : Int) - (f : Int) = (g : Int) by have := hf.out; have := hg.out; omega] at HM
      clear hr hx hn
      go_enter Try.func38, Try.ntmps38
      go_wp2_with fail
      refine HM.out.mono ?_
      rintro e w1 ⟨rfl, rfl⟩
      go_wp2_with fail
      go_loopw [5, 6] (fun p i wr => ∃ (t k j : Nat), f ≤ t ∧ t < g ∧ f ≤ k ∧ k ≤ g ∧ p = .int .i64 t ∧ i = .int .i64 k ∧ wr = w1.drewN j) (fun _ i _ => g - (intOf i).toNat)
      case atStart => exact ⟨f, f, 0, by omega, by omega, by omega, by omega, rfl, rfl, rfl⟩
      case round =>
        obtain ⟨t, k, j, ht1, ht2, hk1, hk2, rfl, rfl, rfl⟩ := hrel
        have htL : t < L.length := by rw [HN.out]; omega
        obtain ⟨bt, ot, ebt, ct⟩ := HR.out t htL
        cases ebt
        obtain ⟨lt, xt0, xt1, xt6⟩ := HX.out _ (List.getElem_mem htL)
        by_cases hlt : k < g
        · have hkL : k < L.length := by rw [HN.out]; omega
          obtain ⟨bk, ok, ebk, ck⟩ := HR.out k hkL
          cases ebk
          obtain ⟨lk, xk0, xk1, xk6⟩ := HX.out _ (List.getElem_mem hkL)
          have hki : (k : Int) < (n : Int) := by omega
          have hti : (t : Int) < (n : Int) := by omega
          have hkf : (k : Int) < (g : Int) := by omega
          generalize L[t] = nt at *
          generalize L[k] = nk at *
          have ct' : (w1.drewN j).cell? ⟨b, off + t, none⟩ = some (.pointer (some ⟨nt.b, 0, none⟩)) := ct
          have ck' : (w1.drewN j).cell? ⟨b, off + k, none⟩ = some (.pointer (some ⟨nk.b, 0, none⟩)) := ck
          have xt' : (w1.drewN j).cell? ⟨nt.b, 6, none⟩ = some (.int .i64 lt) := xt6
          have xk' : (w1.drewN j).cell? ⟨nk.b, 6, none⟩ = some (.int .i64 lk) := xk6
          by_cases hll : lk < lt
          · go_wp2_with fail
            go_region_held3 (fun X => X.cell? ⟨b, off + t, none⟩ = some (.pointer (some ⟨nt.b, 0, none⟩)) ∧ X.cell? ⟨b, off + k, none⟩ = some (.pointer (some ⟨nk.b, 0, none⟩)) ∧ X.cell? ⟨nt.b, 6, none⟩ = some (.int .i64 lt) ∧ X.cell? ⟨nk.b, 6, none⟩ = some (.int .i64 lk)) (exact ⟨ct', ck', xt', xk'⟩) (first | fail)
            go_wp2_with fail
            go_roundw
            case rel => exact ⟨k, k + 1, _, by omega, by omega, by omega, by omega, rfl, by go_num, rfl⟩
            case measure => simp [intOf]; omega
          · go_wp2_with fail
            go_region_held3 (fun X => X.cell? ⟨b, off + t, none⟩ = some (.pointer (some ⟨nt.b, 0, none⟩)) ∧ X.cell? ⟨b, off + k, none⟩ = some (.pointer (some ⟨nk.b, 0, none⟩)) ∧ X.cell? ⟨nt.b, 6, none⟩ = some (.int .i64 lt) ∧ X.cell? ⟨nk.b, 6, none⟩ = some (.int .i64 lk)) (exact ⟨ct', ck', xt', xk'⟩) (first | fail)
            go_wp2_with fail
            go_roundw
            case rel => exact ⟨t, k + 1, _, by omega, by omega, by omega, by omega, rfl, by go_num, rfl⟩
            case measure => simp [intOf]; omega
        · have hmem := List.getElem_mem htL
          have htc : t + 1 ≤ c := by omega
          have HLT : Hid (L.take t ++ L[t] :: L.drop (t + 1) = L) := by
            show _ = _
            rw [← List.drop_eq_getElem_cons htL]
            exact List.take_append_drop t L
          have HLl : Hid (L.length = n) := HN
          have hB0 : Below w1.heap.size w1 (w1.drewN j).drew := (Below.drewN (Below.refl _ w1) j).drew
          have HRW := Lib.hid (HR.out.below hB0)
          have HXW := Lib.hid (fun x hx => (HX.out x hx).below hB0)
          have hRtk := HRW.out.take t
          have hRdr := HRW.out.drop (t + 1)
          have hdl : (L.drop (t + 1)).length = n - (t + 1) := by rw [List.length_drop, HN.out]
          have htl : (L.take t).length = t := by rw [List.length_take, HN.out]; omega
          generalize L[t] = nt at *
          have ct' : (w1.drewN j).drew.cell? ⟨b, off + t, none⟩ = some (.pointer (some ⟨nt.b, 0, none⟩)) := ct
          have hti : (t : Int) < (n : Int) := by omega
          have htc2 : (t : Int) + 1 ≤ (c : Int) := by omega
          have htn2 : (t : Int) + 1 ≤ (n : Int) := by omega
          have htci : (t : Int) ≤ (c : Int) := by omega
          have hnci : (n : Int) ≤ (c : Int) := by omega
          go_wp2_with fail
          refine wp_region_held_drew (S := fun X => X.cell? ⟨b, off + t, none⟩ = some (.pointer (some ⟨nt.b, 0, none⟩))) (by kernel_rfl) (by exact ct') (fun _ => ?_)
          (refine wpAnyH_take (i := 0) (v := ?_) rfl (by kernel_rfl) (by kernel_rfl) (by kernel_rfl) (fun _ _ _ h => h) (Or.inl ⟨by rfl, ?_⟩) (by assumption) ?_; rotate_left; (intro w hSw; (try dsimp only at hSw); go_simp; try with_reducible rfl); ((try simp only [List.getElem_toArray]); (try simp only [List.getElem_cons_succ]); (try simp only [List.getElem_cons_zero]); (try simp only [Act.put]); (try simp only [List.setIfInBounds_toArray]); (try simp only [List.set_cons_succ]); (try simp only [List.set_cons_zero])))
          (refine wpAnyH_take (i := 1) (v := ?_) rfl (by kernel_rfl) (by kernel_rfl) (by kernel_rfl) (fun _ _ _ h => h) (Or.inl ⟨by rfl, ?_⟩) (by assumption) ?_; rotate_left; (intro w hSw; (try dsimp only at hSw); go_simp; try with_reducible rfl); ((try simp only [List.getElem_toArray]); (try simp only [List.getElem_cons_succ]); (try simp only [List.getElem_cons_zero]); (try simp only [Act.put]); (try simp only [List.setIfInBounds_toArray]); (try simp only [List.set_cons_succ]); (try simp only [List.set_cons_zero])))
          (refine wpAnyH_take (i := 2) (v := ?_) rfl (by kernel_rfl) (by kernel_rfl) (by kernel_rfl) (fun _ _ _ h => h) (Or.inl ⟨by rfl, ?_⟩) (by assumption) ?_; rotate_left; (intro w hSw; (try dsimp only at hSw); go_simp; try with_reducible rfl); ((try simp only [List.getElem_toArray]); (try simp only [List.getElem_cons_succ]); (try simp only [List.getElem_cons_zero]); (try simp only [Act.put]); (try simp only [List.setIfInBounds_toArray]); (try simp only [List.set_cons_succ]); (try simp only [List.set_cons_zero])))
          (refine wpAnyH_take (i := 4) (v := ?_) rfl (by kernel_rfl) (by kernel_rfl) (by kernel_rfl) (fun _ _ _ h => h) (Or.inl ⟨by rfl, ?_⟩) (by assumption) ?_; rotate_left; (intro w hSw; (try dsimp only at hSw); go_simp; try with_reducible rfl); ((try simp only [List.getElem_toArray]); (try simp only [List.getElem_cons_succ]); (try simp only [List.getElem_cons_zero]); (try simp only [Act.put]); (try simp only [List.setIfInBounds_toArray]); (try simp only [List.set_cons_succ]); (try simp only [List.set_cons_zero])))
          (refine wpAnyH_take (i := 5) (v := ?_) rfl (by kernel_rfl) (by kernel_rfl) (by kernel_rfl) (fun _ _ _ h => h) (Or.inl ⟨by rfl, ?_⟩) (by assumption) ?_; rotate_left; (intro w hSw; (try dsimp only at hSw); go_simp; try with_reducible rfl); ((try simp only [List.getElem_toArray]); (try simp only [List.getElem_cons_succ]); (try simp only [List.getElem_cons_zero]); (try simp only [Act.put]); (try simp only [List.setIfInBounds_toArray]); (try simp only [List.set_cons_succ]); (try simp only [List.set_cons_zero])))
          (refine wpAnyH_take (i := 6) (v := ?_) rfl (by kernel_rfl) (by kernel_rfl) (by kernel_rfl) (fun _ _ _ h => h) (Or.inl ⟨by rfl, ?_⟩) (by assumption) ?_; rotate_left; (intro w hSw; (try dsimp only at hSw); go_simp; try with_reducible rfl); ((try simp only [List.getElem_toArray]); (try simp only [List.getElem_cons_succ]); (try simp only [List.getElem_cons_zero]); (try simp only [Act.put]); (try simp only [List.setIfInBounds_toArray]); (try simp only [List.set_cons_succ]); (try simp only [List.set_cons_zero])))
          (refine wpAnyH_take (i := 7) (v := ?_) rfl (by kernel_rfl) (by kernel_rfl) (by kernel_rfl) (fun _ _ _ h => h) (Or.inl ⟨by rfl, ?_⟩) (by assumption) ?_; rotate_left; (intro w hSw; (try dsimp only at hSw); go_simp; try with_reducible rfl); ((try simp only [List.getElem_toArray]); (try simp only [List.getElem_cons_succ]); (try simp only [List.getElem_cons_zero]); (try simp only [Act.put]); (try simp only [List.setIfInBounds_toArray]); (try simp only [List.set_cons_succ]); (try simp only [List.set_cons_zero])))
          (refine wpAnyH_take (i := 8) (v := ?_) rfl (by kernel_rfl) (by kernel_rfl) (by kernel_rfl) (fun _ _ _ h => h) (Or.inl ⟨by rfl, ?_⟩) (by assumption) ?_; rotate_left; (intro w hSw; (try dsimp only at hSw); go_simp; try with_reducible rfl); ((try simp only [List.getElem_toArray]); (try simp only [List.getElem_cons_succ]); (try simp only [List.getElem_cons_zero]); (try simp only [Act.put]); (try simp only [List.setIfInBounds_toArray]); (try simp only [List.set_cons_succ]); (try simp only [List.set_cons_zero])))
          (refine wpAnyH_take (i := 9) (v := ?_) rfl (by kernel_rfl) (by kernel_rfl) (by kernel_rfl) (fun _ _ _ h => h) (Or.inl ⟨by rfl, ?_⟩) (by assumption) ?_; rotate_left; (intro w hSw; (try dsimp only at hSw); go_simp; try with_reducible rfl); ((try simp only [List.getElem_toArray]); (try simp only [List.getElem_cons_succ]); (try simp only [List.getElem_cons_zero]); (try simp only [Act.put]); (try simp only [List.setIfInBounds_toArray]); (try simp only [List.set_cons_succ]); (try simp only [List.set_cons_zero])))
          (refine wpAnyH_take (i := 10) (v := ?_) rfl (by kernel_rfl) (by kernel_rfl) (by kernel_rfl) (fun _ _ _ h => h) (Or.inl ⟨by rfl, ?_⟩) (by assumption) ?_; rotate_left; (intro w hSw; (try dsimp only at hSw); go_simp; try with_reducible rfl); ((try simp only [List.getElem_toArray]); (try simp only [List.getElem_cons_succ]); (try simp only [List.getElem_cons_zero]); (try simp only [Act.put]); (try simp only [List.setIfInBounds_toArray]); (try simp only [List.set_cons_succ]); (try simp only [List.set_cons_zero])))
          have hwr : IntKind.i64.wrap ((t : Int) + 1) = ((t + 1 : Nat) : Int) := by rw [IntKind.wrap_i64]; omega
          obtain ⟨A2, hA2⟩ : ∃ A2, Hid (A2 = if c = t + 1 then some ⟨b, off, none⟩ else some (⟨b, off + (t + 1), none⟩ : Addr)) := ⟨_, rfl⟩
          have hR2 : RdP (w1.drewN j).drew A2 (L.drop (t + 1)) := by
            rw [hA2.out]
            split
            · have hnil : L.drop (t + 1) = [] := List.eq_nil_of_length_eq_zero (by omega)
              rw [hnil]
              intro i hi
              cases hi
            · exact hRdr
          refine wpAnyH_take (i := 11) (v := .slice A2 (n - (t + 1)) (c - (t + 1))) rfl (by kernel_rfl) (by kernel_rfl) (by kernel_rfl) (fun _ _ _ h => h) (Or.inl ⟨by rfl, ?_⟩) (by assumption) ?_
          · intro w hSw
            go_simp
            rw [if_pos (by omega), hA2.out]
          ((try simp only [List.getElem_toArray]); (try simp only [List.getElem_cons_succ]); (try simp only [List.getElem_cons_zero]); (try simp only [Act.put]); (try simp only [List.setIfInBounds_toArray]); (try simp only [List.set_cons_succ]); (try simp only [List.set_cons_zero]))
          refine wpAnyH_ready (rs := [3]) (by kernel_rfl) (by simp) ?_
          refine AllReadyH.cons rfl (fun K2 hK2 => ?_) AllReadyH.nil
          go_simp
          refine (ih (L.take t) _ (some ⟨b, off, none⟩) t c (by rw [List.length_take]; omega) htl (by omega) hcm hRtk (fun x hx => HXW.out x (List.mem_of_mem_take hx)) (by omega)).mono ?_
          rintro e w2 ⟨T1, rfl, i1, con1, bal1, b1⟩
          have B1 := Lib.hid b1
          have I1 := Lib.hid i1
          have ct2 : w2.cell? ⟨b, off + t, none⟩ = some (.pointer (some ⟨nt.b, 0, none⟩)) := (b1.cell (p := ⟨b, off + t, none⟩) (World.block_lt_of_cell? _ _ ct')).trans ct'
          have hR3 := Lib.hid (hR2.below b1)
          have HX3 := Lib.hid (fun x hx => (HXW.out x hx).below b1)
          clear b1 i1
          go_wp2_with fail
          refine hK2.out _ _ (by exact ct2) (fun hq => ?_)
          clear hK2 K2
          ((try simp only [List.getElem_toArray]); (try simp only [List.getElem_cons_succ]); (try simp only [List.getElem_cons_zero]); (try simp only [Act.put]); (try simp only [List.setIfInBounds_toArray]); (try simp only [List.set_cons_succ]); (try simp only [List.set_cons_zero]))
          refine wpAnyH_ready (rs := [12]) (by kernel_rfl) (by simp) ?_
          refine AllReadyH.cons rfl (fun K2 hK2 => ?_) AllReadyH.nil
          go_simp
          refine (ih (L.drop (t + 1)) w2 A2 (n - (t + 1)) (c - (t + 1)) (by have := HN.out; omega) hdl (by omega) (by omega) hR3.out (fun x hx => HX3.out x (List.mem_of_mem_drop hx)) (by omega)).mono ?_
          rintro e w3 ⟨T2, rfl, i2, con2, bal2, b2⟩
          have B2 := Lib.hid b2
          have I2 := Lib.hid i2
          have I1b := Lib.hid ((I1.out.below b2).mono b2.size)
          have ct3 : w3.cell? ⟨b, off + t, none⟩ = some (.pointer (some ⟨nt.b, 0, none⟩)) := (b2.cell (p := ⟨b, off + t, none⟩) (World.block_lt_of_cell? _ _ ct2)).trans ct2
          have X4 : NdAt w3 nt := ((HXW.out nt hmem).below B1.out).below b2
          obtain ⟨lo4, x0, x1, x6⟩ := X4
          clear b2 i2
          go_wp2_with fail
          refine hK2.out _ _ (by exact ct3) (fun hq => ?_)
          clear hK2 K2
          ((try simp only [List.getElem_toArray]); (try simp only [List.getElem_cons_succ]); (try simp only [List.getElem_cons_zero]); (try simp only [Act.put]); (try simp only [List.setIfInBounds_toArray]); (try simp only [List.set_cons_succ]); (try simp only [List.set_cons_zero]))
          refine wpAnyH_ready (rs := [13]) (by kernel_rfl) (by simp) ?_
          refine AllReadyH.cons rfl (fun K2 hK2 => ?_) AllReadyH.nil
          go_simp
          have z1 : T1.size = t := by rw [← con_len, con1, conL, List.length_map, htl]
          have z2 : T2.size = n - (t + 1) := by rw [← con_len, con2, conL, List.length_map, hdl]
          have y1 := ht_size T1
          have y2 := ht_size T2
          refine (atop_any T1 T2 nt.b nt.k nt.v lo4 w3 I1b.out I2.out (by omega) (by omega) (by omega) x0 x1 x6).mono ?_
          rintro e w4 ⟨rfl, ⟨le4, h4⟩, b4, s4⟩
          have ct4 : w4.cell? ⟨b, off + t, none⟩ = some (.pointer (some ⟨nt.b, 0, none⟩)) := (b4.cell (p := ⟨b, off + t, none⟩) (World.block_lt_of_cell? _ _ ct3)).trans ct3
          have hfin : OutT w1 (conL L) (.returned (.pointer (some ⟨w3.heap.size, 0, none⟩))) w4 := by
            refine ⟨.node w3.heap.size T1 nt.k nt.v lo4 le4 T2, rfl, ⟨by omega, h4, (I1b.out.below b4).mono b4.size, (I2.out.below b4).mono b4.size⟩, ?_, ⟨?_, ?_, bal1, bal2⟩, ?_⟩
            · have hcl := congrArg conL HLT.out
              rw [Tr.con, con1, con2, ← hcl]
              unfold conL
              rw [List.map_append, List.map_cons]
            · rw [z1, z2]
              have := hf.out
              have := hg.out
              omega
            · rw [z1, z2]
              have := hf.out
              have := hg.out
              omega
            · exact hB0.trans ((B1.out.trans (B2.out.mono B1.out.size)).trans (b4.mono (Nat.le_trans B1.out.size B2.out.size)))
          have HFIN := Lib.hid hfin
          clear hfin b4 h4
          go_wp2_with fail
          refine hK2.out _ _ (by exact ct4) (fun hq => ?_)
          clear hK2 K2
          ((try simp only [List.getElem_toArray]); (try simp only [List.getElem_cons_succ]); (try simp only [List.getElem_cons_zero]); (try simp only [Act.put]); (try simp only [List.setIfInBounds_toArray]); (try simp only [List.set_cons_succ]); (try simp only [List.set_cons_zero]))
          (refine wpAnyH_take (i := 14) (v := ?_) rfl (by kernel_rfl) (by kernel_rfl) (by kernel_rfl) (fun _ _ _ h => h) (Or.inl ⟨by rfl, ?_⟩) (by assumption) ?_; rotate_left; (intro w hSw; (try dsimp only at hSw); go_simp; try with_reducible rfl); ((try simp only [List.getElem_toArray]); (try simp only [List.getElem_cons_succ]); (try simp only [List.getElem_cons_zero]); (try simp only [Act.put]); (try simp only [List.setIfInBounds_toArray]); (try simp only [List.set_cons_succ]); (try simp only [List.set_cons_zero])))
          refine wpAnyH_done (by kernel_rfl) ?_ _
          go_wp2_with fail
          go_ret
          exact HFIN.out
end Go.Proofs.Ytmapclocbhkpbaa
