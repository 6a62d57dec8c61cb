/-
  The program's put.
-/
import Derived.Test.YtiefogofiajmnaaDoorMg6
import Derived.Deep.RegionHeld3
namespace Go.Proofs.YtiefogofiajmnaaDoor
open Go.RowKit Dg
set_option maxRecDepth 100000
/-- Three rows put together. -/
theorem cat3_any (g : Nat) (A1 A2 A3 : Option Addr) (T1 T2 T3 : List Tb) (n1 c1 n2 c2 n3 c3 : Nat) (w : World) (h1 : T1.length = n1) (h2 : T2.length = n2) (h3 : T3.length = n3) (hl : n1 + n2 + n3 ≤ 1000)
    (hc0 : w.cell? ⟨g, 0, none⟩ = some (.slice A1 n1 c1)) (hc1 : w.cell? ⟨g, 1, none⟩ = some (.slice A2 n2 c2)) (hc2 : w.cell? ⟨g, 2, none⟩ = some (.slice A3 n3 c3))
    (r1 : TRow w A1 T1) (r2 : TRow w A2 T2) (r3 : TRow w A3 T3) (z1 : A1 = none → c1 = 0) (z2 : A2 = none → c2 = 0) (z3 : A3 = none → c3 = 0) :
    Calls Tryd.prog 57 #[.slice (some ⟨g, 0, none⟩) 3 3] w fun e w' => ∃ v, e = .returned v ∧ Hid (OwnT w.heap.size w' v (T1 ++ T2 ++ T3)) ∧ Hid (Below w.heap.size w w') := by
  have hcat : catT [(A1, T1, c1), (A2, T2, c2), (A3, T3, c3)] 3 = T1 ++ T2 ++ T3 := by simp [catT]
  have hC := concatT_any g [(A1, T1, c1), (A2, T2, c2), (A3, T3, c3)] 3 3 w rfl (by omega) (fun i hi => by
    have : i = 0 ∨ i = 1 ∨ i = 2 := by simp at hi; omega
    rcases this with rfl | rfl | rfl
    · exact ⟨by rw [hc0]; simp [h1], r1, z1⟩
    · exact ⟨by rw [hc1]; simp [h2], r2, z2⟩
    · exact ⟨by rw [hc2]; simp [h3], r3, z3⟩) (by rw [hcat]; simp; omega)
  rw [hcat] at hC
  exact hC
/-- The same of rows that lie at an elder world. -/
theorem catput_any (w W : World) (hb : Below w.heap.size w W) (A1 A2 A3 : Option Addr) (T1 T2 T3 : List Tb) (n1 c1 n2 c2 n3 c3 : Nat) (h1 : T1.length = n1) (h2 : T2.length = n2) (h3 : T3.length = n3) (hl : n1 + n2 + n3 ≤ 1000)
    (r1 : TRow w A1 T1) (r2 : TRow w A2 T2) (r3 : TRow w A3 T3) (z1 : A1 = none → c1 = 0) (z2 : A2 = none → c2 = 0) (z3 : A3 = none → c3 = 0) :
    Calls Tryd.prog 57 #[.slice (some ⟨W.heap.size, 0, none⟩) 3 3] (W.alloc (.cells #[.slice A1 n1 c1, .slice A2 n2 c2, .slice A3 n3 c3] 22)).drew fun e w' => ∃ v, e = .returned v ∧ Hid (OwnT W.heap.size w' v (T1 ++ T2 ++ T3)) ∧ Hid (Below W.heap.size W w') := by
  have hb2 : Below w.heap.size w (W.alloc (.cells #[.slice A1 n1 c1, .slice A2 n2 c2, .slice A3 n3 c3] 22)).drew := (hb.alloc hb.size _).drew
  have hh := (Has.new W 22 #[.slice A1 n1 c1, .slice A2 n2 c2, .slice A3 n3 c3]).drew
  refine (cat3_any W.heap.size A1 A2 A3 T1 T2 T3 n1 c1 n2 c2 n3 c3 _ h1 h2 h3 hl (hh.cell 0) (hh.cell 1) (hh.cell 2) (r1.below hb2) (r2.below hb2) (r3.below hb2) z1 z2 z3).mono ?_
  rintro e w' ⟨v, rfl, ho, hb'⟩
  exact ⟨v, rfl, ownT_down ho.out (by simp), (((Below.refl W.heap.size W).alloc (Nat.le_refl _) _).drew).trans (hb'.out.mono (by simp))⟩
theorem trow_nil (w : World) (A : Option Addr) : TRow w A [] := fun h => absurd rfl h
set_option maxHeartbeats 6000000 in
theorem putT_any (A : Option Addr) (T : List Tb) (n c f t : Nat) (B : Option Addr) (X : List Tb) (m d : Nat) (w : World) (hn : T.length = n) (hnc : n ≤ c) (hcm : c ≤ maxLen) (hft : f ≤ t) (htn : t ≤ n) (hl : n ≤ 900) (hA : TRow w A T) (hA0 : A = none → c = 0) (hI : TOks w T) (hX : X.length = m) (hm : m ≤ 1) (hB : TRow w B X) (hB0 : B = none → d = 0) (hXI : TOks w X) :
    Calls Tryd.prog 35 #[.slice A n c, .int .i64 f, .int .i64 t, .slice B m d] w fun e w' => ∃ v T', e = .returned v ∧ Hid (OwnT w.heap.size w' v T') ∧ Hid (Clns w.heap.size w' (T.take f ++ X ++ T.drop t) T') ∧ Hid (Below w.heap.size w w') := by
  have HI : Hid (TOks w (T.take f ++ X ++ T.drop t)) := fun x hx => by
    rw [List.mem_append, List.mem_append] at hx
    rcases hx with (hx | hx) | hx
    · exact hI x (List.mem_of_mem_take hx)
    · exact hXI x hx
    · exact hI x (List.mem_of_mem_drop hx)
  have hlt : (T.take f).length = f := by rw [List.length_take]; omega
  have hld : (T.drop t).length = n - t := by rw [List.length_drop, hn]
  have HT0 : Hid ((T.take f ++ X ++ T.drop t).length ≤ 1000) := by show _ ≤ _; simp [hn, hX]; omega
  obtain ⟨T0, hT0⟩ : ∃ T0, T.take f ++ X ++ T.drop t = T0 := ⟨_, rfl⟩
  have z1 : (f : Int) ≤ (t : Int) := by omega
  have z2 : (t : Int) ≤ (n : Int) := by omega
  have z3 : (n : Int) ≤ (c : Int) := by omega
  have z4 : (f : Int) ≤ (c : Int) := by omega
  have z5 : (t : Int) ≤ (c : Int) := by omega
  unfold maxLen at hcm
  rcases A with _ | ⟨b, off, sp⟩
  · obtain rfl : c = 0 := hA0 rfl
    obtain rfl : n = 0 := by omega
    obtain rfl : t = 0 := by omega
    obtain rfl : f = 0 := by omega
    have HC := Lib.hid (catput_any w w (Below.refl _ w) none B none (T.take 0) X (T.drop 0) 0 0 m d 0 0 hlt hX hld (by omega) (by rw [List.take_zero]; exact trow_nil _ _) hB (by rw [List.eq_nil_of_length_eq_zero hn]; exact trow_nil _ _) (fun _ => rfl) hB0 (fun _ => rfl))
    rw [hT0] at HC HI HT0 ⊢
    clear hA hA0 hI hX hB hB0 hXI hlt hld hT0 hn
    have hb0 : Hid (Below w.heap.size w w.drew) := (Below.refl _ w).drew
    have hbr : Hid (Below w.heap.size w w) := Below.refl _ w
    go_enter Tryd.func35, Tryd.ntmps35
    go_wp2_with fail
    go_region_held3 (fun X => Hid (Below w.heap.size w X)) (first | assumption | exact hid_d1 (by assumption) _)
      (first | (go_at_call 57; refine HC.out.mono ?_; rintro e x1 ⟨v, rfl, ho, hbx⟩; obtain ⟨A9, c9, hv, h91, h92, _, _⟩ := ownT_row ho.out; obtain ⟨n9, hn9⟩ : ∃ n9, T0.length = n9 := ⟨_, rfl⟩; rw [hn9] at hv h91; subst hv; have PS := Lib.hid (PSt.start ho.out hbx.out (Nat.le_refl _)); have hbw : Hid (Below w.heap.size w x1) := hbx; clear ho))
    all_goals
      have h1000 : n9 ≤ 1000 := by have := HT0.out; omega
      go_wp2_with fail
      go_loopw [22] (fun i wr => ∃ (k : Nat) (T1 : List Tb), k ≤ n9 ∧ i = .int .i64 k ∧ Hid (PSt w x1.heap.size A9 n9 c9 T0 k wr T1)) (fun i _ => n9 - (intOf i).toNat)
      case atStart => exact ⟨0, T0, by omega, rfl, PS⟩
      case round =>
        obtain ⟨k, T1, hk, rfl, HS⟩ := hrel
        clear PS HC
        by_cases hlt : k < n9
        · obtain ⟨g, rfl⟩ := HS.out.open_.2 hlt
          have hk0 : k < T0.length := by rw [hn9]; exact hlt
          obtain ⟨p1, p2, _, _⟩ := HS.out.cells hk0
          have hx := HI.out T0[k] (List.getElem_mem hk0)
          have HCL := Lib.hid (clone4_any T0[k].A T0[k].L T0[k].n T0[k].c T0[k].K wr hx.len hx.few (hx.row.below HS.out.bel) hx.nil)
          have HST : Hid (∀ (w2 : World) (A8 : Option Addr) (n8 c8 : Nat), Hid (OwnC wr.heap.size w2 (.slice A8 n8 c8) T0[k].L) → Hid (Below wr.heap.size wr w2) → w2.frozen? ⟨g, k * 3 + 1, none⟩ = false ∧ (w2.setCell ⟨g, k * 3 + 1, none⟩ (.slice A8 n8 c8)).frozen? ⟨g, k * 3 + 2, none⟩ = false ∧ ∃ T2, Hid (PSt w x1.heap.size (some ⟨g, 0, none⟩) n9 c9 T0 (k + 1) ((w2.setCell ⟨g, k * 3 + 1, none⟩ (.slice A8 n8 c8)).setCell ⟨g, k * 3 + 2, none⟩ (.int .i64 T0[k].K)) T2)) := fun w2 A8 n8 c8 ho hb => by
            obtain ⟨q1, q2, q3⟩ := HS.out.step hk0 ho.out hb.out
            exact ⟨q1, q2, _, q3⟩
          have hkz : (k : Int) < (n9 : Int) := by omega
          clear hx
          generalize T0[k] = x at *
          obtain ⟨xs, xA, xn, xc, xL, xK⟩ := x
          simp only at p1 p2 HCL HST
          go_wp2_with fail
          refine HCL.out.mono ?_
          rintro e w2 ⟨v8, rfl, ho8, hb8⟩
          obtain ⟨A8, n8, c8, rfl, _, _, _, _, _⟩ := ownC_open ho8.out
          obtain ⟨q1, q2, T2, S2⟩ := HST.out w2 A8 n8 c8 ho8 hb8
          have y1 := keepC hb8.out p1
          have y2 := keepC hb8.out p2
          clear HST HCL ho8 p1 p2
          go_wp2_with fail
          go_roundw
          case rel => exact ⟨k + 1, T2, by omega, by go_num, S2⟩
          case measure => simp [intOf]; omega
        · obtain rfl : k = n9 := by omega
          go_wp2_with fail
          go_ret
          exact ⟨_, T1, rfl, HS.out.own, (by have h := HS.out; rw [← hn9] at h; exact h.done hbx.out.size), HS.out.bel⟩
  · by_cases hn0 : T = []
    · subst hn0
      obtain rfl : n = 0 := by simpa using hn.symm
      obtain rfl : t = 0 := by omega
      obtain rfl : f = 0 := by omega
      have HC := Lib.hid (catput_any w w (Below.refl _ w) (some ⟨b, off, sp⟩) B (some ⟨b, off, sp⟩) ([].take 0) X ([].drop 0) 0 c m d 0 c hlt hX hld (by omega) (by rw [List.take_nil]; exact trow_nil _ _) hB (by rw [List.drop_nil]; exact trow_nil _ _) (fun e => by cases e) hB0 (fun e => by cases e))
      rw [hT0] at HC HI HT0 ⊢
      by_cases hct : c = 0
      · subst hct
        clear hA hA0 hI hX hB hB0 hXI hlt hld hT0 hn
        have hb0 : Hid (Below w.heap.size w w.drew) := (Below.refl _ w).drew
        have hbr : Hid (Below w.heap.size w w) := Below.refl _ w
        go_enter Tryd.func35, Tryd.ntmps35
        go_wp2_with fail
        go_region_held3 (fun X => Hid (Below w.heap.size w X)) (first | assumption | exact hid_d1 (by assumption) _)
          (first | (go_at_call 57; refine HC.out.mono ?_; rintro e x1 ⟨v, rfl, ho, hbx⟩; obtain ⟨A9, c9, hv, h91, h92, _, _⟩ := ownT_row ho.out; obtain ⟨n9, hn9⟩ : ∃ n9, T0.length = n9 := ⟨_, rfl⟩; rw [hn9] at hv h91; subst hv; have PS := Lib.hid (PSt.start ho.out hbx.out (Nat.le_refl _)); have hbw : Hid (Below w.heap.size w x1) := hbx; clear ho))
        all_goals
          have h1000 : n9 ≤ 1000 := by have := HT0.out; omega
          go_wp2_with fail
          go_loopw [22] (fun i wr => ∃ (k : Nat) (T1 : List Tb), k ≤ n9 ∧ i = .int .i64 k ∧ Hid (PSt w x1.heap.size A9 n9 c9 T0 k wr T1)) (fun i _ => n9 - (intOf i).toNat)
          case atStart => exact ⟨0, T0, by omega, rfl, PS⟩
          case round =>
            obtain ⟨k, T1, hk, rfl, HS⟩ := hrel
            clear PS HC
            by_cases hlt : k < n9
            · obtain ⟨g, rfl⟩ := HS.out.open_.2 hlt
              have hk0 : k < T0.length := by rw [hn9]; exact hlt
              obtain ⟨p1, p2, _, _⟩ := HS.out.cells hk0
              have hx := HI.out T0[k] (List.getElem_mem hk0)
              have HCL := Lib.hid (clone4_any T0[k].A T0[k].L T0[k].n T0[k].c T0[k].K wr hx.len hx.few (hx.row.below HS.out.bel) hx.nil)
              have HST : Hid (∀ (w2 : World) (A8 : Option Addr) (n8 c8 : Nat), Hid (OwnC wr.heap.size w2 (.slice A8 n8 c8) T0[k].L) → Hid (Below wr.heap.size wr w2) → w2.frozen? ⟨g, k * 3 + 1, none⟩ = false ∧ (w2.setCell ⟨g, k * 3 + 1, none⟩ (.slice A8 n8 c8)).frozen? ⟨g, k * 3 + 2, none⟩ = false ∧ ∃ T2, Hid (PSt w x1.heap.size (some ⟨g, 0, none⟩) n9 c9 T0 (k + 1) ((w2.setCell ⟨g, k * 3 + 1, none⟩ (.slice A8 n8 c8)).setCell ⟨g, k * 3 + 2, none⟩ (.int .i64 T0[k].K)) T2)) := fun w2 A8 n8 c8 ho hb => by
                obtain ⟨q1, q2, q3⟩ := HS.out.step hk0 ho.out hb.out
                exact ⟨q1, q2, _, q3⟩
              have hkz : (k : Int) < (n9 : Int) := by omega
              clear hx
              generalize T0[k] = x at *
              obtain ⟨xs, xA, xn, xc, xL, xK⟩ := x
              simp only at p1 p2 HCL HST
              go_wp2_with fail
              refine HCL.out.mono ?_
              rintro e w2 ⟨v8, rfl, ho8, hb8⟩
              obtain ⟨A8, n8, c8, rfl, _, _, _, _, _⟩ := ownC_open ho8.out
              obtain ⟨q1, q2, T2, S2⟩ := HST.out w2 A8 n8 c8 ho8 hb8
              have y1 := keepC hb8.out p1
              have y2 := keepC hb8.out p2
              clear HST HCL ho8 p1 p2
              go_wp2_with fail
              go_roundw
              case rel => exact ⟨k + 1, T2, by omega, by go_num, S2⟩
              case measure => simp [intOf]; omega
            · obtain rfl : k = n9 := by omega
              go_wp2_with fail
              go_ret
              exact ⟨_, T1, rfl, HS.out.own, (by have h := HS.out; rw [← hn9] at h; exact h.done hbx.out.size), HS.out.bel⟩
      · clear hA hA0 hI hX hB hB0 hXI hlt hld hT0 hn
        have hb0 : Hid (Below w.heap.size w w.drew) := (Below.refl _ w).drew
        have hbr : Hid (Below w.heap.size w w) := Below.refl _ w
        go_enter Tryd.func35, Tryd.ntmps35
        go_wp2_with fail
        go_region_held3 (fun X => Hid (Below w.heap.size w X)) (first | assumption | exact hid_d1 (by assumption) _)
          (first | (go_at_call 57; refine HC.out.mono ?_; rintro e x1 ⟨v, rfl, ho, hbx⟩; obtain ⟨A9, c9, hv, h91, h92, _, _⟩ := ownT_row ho.out; obtain ⟨n9, hn9⟩ : ∃ n9, T0.length = n9 := ⟨_, rfl⟩; rw [hn9] at hv h91; subst hv; have PS := Lib.hid (PSt.start ho.out hbx.out (Nat.le_refl _)); have hbw : Hid (Below w.heap.size w x1) := hbx; clear ho))
        all_goals
          have h1000 : n9 ≤ 1000 := by have := HT0.out; omega
          go_wp2_with fail
          go_loopw [22] (fun i wr => ∃ (k : Nat) (T1 : List Tb), k ≤ n9 ∧ i = .int .i64 k ∧ Hid (PSt w x1.heap.size A9 n9 c9 T0 k wr T1)) (fun i _ => n9 - (intOf i).toNat)
          case atStart => exact ⟨0, T0, by omega, rfl, PS⟩
          case round =>
            obtain ⟨k, T1, hk, rfl, HS⟩ := hrel
            clear PS HC
            by_cases hlt : k < n9
            · obtain ⟨g, rfl⟩ := HS.out.open_.2 hlt
              have hk0 : k < T0.length := by rw [hn9]; exact hlt
              obtain ⟨p1, p2, _, _⟩ := HS.out.cells hk0
              have hx := HI.out T0[k] (List.getElem_mem hk0)
              have HCL := Lib.hid (clone4_any T0[k].A T0[k].L T0[k].n T0[k].c T0[k].K wr hx.len hx.few (hx.row.below HS.out.bel) hx.nil)
              have HST : Hid (∀ (w2 : World) (A8 : Option Addr) (n8 c8 : Nat), Hid (OwnC wr.heap.size w2 (.slice A8 n8 c8) T0[k].L) → Hid (Below wr.heap.size wr w2) → w2.frozen? ⟨g, k * 3 + 1, none⟩ = false ∧ (w2.setCell ⟨g, k * 3 + 1, none⟩ (.slice A8 n8 c8)).frozen? ⟨g, k * 3 + 2, none⟩ = false ∧ ∃ T2, Hid (PSt w x1.heap.size (some ⟨g, 0, none⟩) n9 c9 T0 (k + 1) ((w2.setCell ⟨g, k * 3 + 1, none⟩ (.slice A8 n8 c8)).setCell ⟨g, k * 3 + 2, none⟩ (.int .i64 T0[k].K)) T2)) := fun w2 A8 n8 c8 ho hb => by
                obtain ⟨q1, q2, q3⟩ := HS.out.step hk0 ho.out hb.out
                exact ⟨q1, q2, _, q3⟩
              have hkz : (k : Int) < (n9 : Int) := by omega
              clear hx
              generalize T0[k] = x at *
              obtain ⟨xs, xA, xn, xc, xL, xK⟩ := x
              simp only at p1 p2 HCL HST
              go_wp2_with fail
              refine HCL.out.mono ?_
              rintro e w2 ⟨v8, rfl, ho8, hb8⟩
              obtain ⟨A8, n8, c8, rfl, _, _, _, _, _⟩ := ownC_open ho8.out
              obtain ⟨q1, q2, T2, S2⟩ := HST.out w2 A8 n8 c8 ho8 hb8
              have y1 := keepC hb8.out p1
              have y2 := keepC hb8.out p2
              clear HST HCL ho8 p1 p2
              go_wp2_with fail
              go_roundw
              case rel => exact ⟨k + 1, T2, by omega, by go_num, S2⟩
              case measure => simp [intOf]; omega
            · obtain rfl : k = n9 := by omega
              go_wp2_with fail
              go_ret
              exact ⟨_, T1, rfl, HS.out.own, (by have h := HS.out; rw [← hn9] at h; exact h.done hbx.out.size), HS.out.bel⟩
    · obtain ⟨b', off', e, _⟩ := hA hn0
      injection e with e
      injection e with e1 e2 e3
      subst e1 e2 e3
      by_cases hct : c = t
      · subst hct
        have HC := Lib.hid (catput_any w w (Below.refl _ w) (some ⟨b, off, none⟩) B (some ⟨b, off, none⟩) (T.take f) X (T.drop c) f c m d 0 0 hlt hX (by omega) (by omega) (hA.take f) hB (by rw [List.drop_eq_nil_of_le (by omega)]; exact trow_nil _ _) (fun e => by cases e) hB0 (fun e => by cases e))
        rw [hT0] at HC HI HT0 ⊢
        clear hA hA0 hI hX hB hB0 hXI hlt hld hT0 hn hn0
        have hb0 : Hid (Below w.heap.size w w.drew) := (Below.refl _ w).drew
        have hbr : Hid (Below w.heap.size w w) := Below.refl _ w
        go_enter Tryd.func35, Tryd.ntmps35
        go_wp2_with fail
        go_region_held3 (fun X => Hid (Below w.heap.size w X)) (first | assumption | exact hid_d1 (by assumption) _)
          (first | (go_at_call 57; refine HC.out.mono ?_; rintro e x1 ⟨v, rfl, ho, hbx⟩; obtain ⟨A9, c9, hv, h91, h92, _, _⟩ := ownT_row ho.out; obtain ⟨n9, hn9⟩ : ∃ n9, T0.length = n9 := ⟨_, rfl⟩; rw [hn9] at hv h91; subst hv; have PS := Lib.hid (PSt.start ho.out hbx.out (Nat.le_refl _)); have hbw : Hid (Below w.heap.size w x1) := hbx; clear ho))
        all_goals
          have h1000 : n9 ≤ 1000 := by have := HT0.out; omega
          go_wp2_with fail
          go_loopw [22] (fun i wr => ∃ (k : Nat) (T1 : List Tb), k ≤ n9 ∧ i = .int .i64 k ∧ Hid (PSt w x1.heap.size A9 n9 c9 T0 k wr T1)) (fun i _ => n9 - (intOf i).toNat)
          case atStart => exact ⟨0, T0, by omega, rfl, PS⟩
          case round =>
            obtain ⟨k, T1, hk, rfl, HS⟩ := hrel
            clear PS HC
            by_cases hlt : k < n9
            · obtain ⟨g, rfl⟩ := HS.out.open_.2 hlt
              have hk0 : k < T0.length := by rw [hn9]; exact hlt
              obtain ⟨p1, p2, _, _⟩ := HS.out.cells hk0
              have hx := HI.out T0[k] (List.getElem_mem hk0)
              have HCL := Lib.hid (clone4_any T0[k].A T0[k].L T0[k].n T0[k].c T0[k].K wr hx.len hx.few (hx.row.below HS.out.bel) hx.nil)
              have HST : Hid (∀ (w2 : World) (A8 : Option Addr) (n8 c8 : Nat), Hid (OwnC wr.heap.size w2 (.slice A8 n8 c8) T0[k].L) → Hid (Below wr.heap.size wr w2) → w2.frozen? ⟨g, k * 3 + 1, none⟩ = false ∧ (w2.setCell ⟨g, k * 3 + 1, none⟩ (.slice A8 n8 c8)).frozen? ⟨g, k * 3 + 2, none⟩ = false ∧ ∃ T2, Hid (PSt w x1.heap.size (some ⟨g, 0, none⟩) n9 c9 T0 (k + 1) ((w2.setCell ⟨g, k * 3 + 1, none⟩ (.slice A8 n8 c8)).setCell ⟨g, k * 3 + 2, none⟩ (.int .i64 T0[k].K)) T2)) := fun w2 A8 n8 c8 ho hb => by
                obtain ⟨q1, q2, q3⟩ := HS.out.step hk0 ho.out hb.out
                exact ⟨q1, q2, _, q3⟩
              have hkz : (k : Int) < (n9 : Int) := by omega
              clear hx
              generalize T0[k] = x at *
              obtain ⟨xs, xA, xn, xc, xL, xK⟩ := x
              simp only at p1 p2 HCL HST
              go_wp2_with fail
              refine HCL.out.mono ?_
              rintro e w2 ⟨v8, rfl, ho8, hb8⟩
              obtain ⟨A8, n8, c8, rfl, _, _, _, _, _⟩ := ownC_open ho8.out
              obtain ⟨q1, q2, T2, S2⟩ := HST.out w2 A8 n8 c8 ho8 hb8
              have y1 := keepC hb8.out p1
              have y2 := keepC hb8.out p2
              clear HST HCL ho8 p1 p2
              go_wp2_with fail
              go_roundw
              case rel => exact ⟨k + 1, T2, by omega, by go_num, S2⟩
              case measure => simp [intOf]; omega
            · obtain rfl : k = n9 := by omega
              go_wp2_with fail
              go_ret
              exact ⟨_, T1, rfl, HS.out.own, (by have h := HS.out; rw [← hn9] at h; exact h.done hbx.out.size), HS.out.bel⟩
      · have HC := Lib.hid (catput_any w w (Below.refl _ w) (some ⟨b, off, none⟩) B (some ⟨b, off + t * 3, none⟩) (T.take f) X (T.drop t) f c m d (n - t) (c - t) hlt hX hld (by omega) (hA.take f) hB (hA.drop t) (fun e => by cases e) hB0 (fun e => by cases e))
        rw [hT0] at HC HI HT0 ⊢
        clear hA hA0 hI hX hB hB0 hXI hlt hld hT0 hn hn0
        have hb0 : Hid (Below w.heap.size w w.drew) := (Below.refl _ w).drew
        have hbr : Hid (Below w.heap.size w w) := Below.refl _ w
        go_enter Tryd.func35, Tryd.ntmps35
        go_wp2_with fail
        go_region_held3 (fun X => Hid (Below w.heap.size w X)) (first | assumption | exact hid_d1 (by assumption) _)
          (first | (go_at_call 57; refine HC.out.mono ?_; rintro e x1 ⟨v, rfl, ho, hbx⟩; obtain ⟨A9, c9, hv, h91, h92, _, _⟩ := ownT_row ho.out; obtain ⟨n9, hn9⟩ : ∃ n9, T0.length = n9 := ⟨_, rfl⟩; rw [hn9] at hv h91; subst hv; have PS := Lib.hid (PSt.start ho.out hbx.out (Nat.le_refl _)); have hbw : Hid (Below w.heap.size w x1) := hbx; clear ho))
        all_goals
          have h1000 : n9 ≤ 1000 := by have := HT0.out; omega
          go_wp2_with fail
          go_loopw [22] (fun i wr => ∃ (k : Nat) (T1 : List Tb), k ≤ n9 ∧ i = .int .i64 k ∧ Hid (PSt w x1.heap.size A9 n9 c9 T0 k wr T1)) (fun i _ => n9 - (intOf i).toNat)
          case atStart => exact ⟨0, T0, by omega, rfl, PS⟩
          case round =>
            obtain ⟨k, T1, hk, rfl, HS⟩ := hrel
            clear PS HC
            by_cases hlt : k < n9
            · obtain ⟨g, rfl⟩ := HS.out.open_.2 hlt
              have hk0 : k < T0.length := by rw [hn9]; exact hlt
              obtain ⟨p1, p2, _, _⟩ := HS.out.cells hk0
              have hx := HI.out T0[k] (List.getElem_mem hk0)
              have HCL := Lib.hid (clone4_any T0[k].A T0[k].L T0[k].n T0[k].c T0[k].K wr hx.len hx.few (hx.row.below HS.out.bel) hx.nil)
              have HST : Hid (∀ (w2 : World) (A8 : Option Addr) (n8 c8 : Nat), Hid (OwnC wr.heap.size w2 (.slice A8 n8 c8) T0[k].L) → Hid (Below wr.heap.size wr w2) → w2.frozen? ⟨g, k * 3 + 1, none⟩ = false ∧ (w2.setCell ⟨g, k * 3 + 1, none⟩ (.slice A8 n8 c8)).frozen? ⟨g, k * 3 + 2, none⟩ = false ∧ ∃ T2, Hid (PSt w x1.heap.size (some ⟨g, 0, none⟩) n9 c9 T0 (k + 1) ((w2.setCell ⟨g, k * 3 + 1, none⟩ (.slice A8 n8 c8)).setCell ⟨g, k * 3 + 2, none⟩ (.int .i64 T0[k].K)) T2)) := fun w2 A8 n8 c8 ho hb => by
                obtain ⟨q1, q2, q3⟩ := HS.out.step hk0 ho.out hb.out
                exact ⟨q1, q2, _, q3⟩
              have hkz : (k : Int) < (n9 : Int) := by omega
              clear hx
              generalize T0[k] = x at *
              obtain ⟨xs, xA, xn, xc, xL, xK⟩ := x
              simp only at p1 p2 HCL HST
              go_wp2_with fail
              refine HCL.out.mono ?_
              rintro e w2 ⟨v8, rfl, ho8, hb8⟩
              obtain ⟨A8, n8, c8, rfl, _, _, _, _, _⟩ := ownC_open ho8.out
              obtain ⟨q1, q2, T2, S2⟩ := HST.out w2 A8 n8 c8 ho8 hb8
              have y1 := keepC hb8.out p1
              have y2 := keepC hb8.out p2
              clear HST HCL ho8 p1 p2
              go_wp2_with fail
              go_roundw
              case rel => exact ⟨k + 1, T2, by omega, by go_num, S2⟩
              case measure => simp [intOf]; omega
            · obtain rfl : k = n9 := by omega
              go_wp2_with fail
              go_ret
              exact ⟨_, T1, rfl, HS.out.own, (by have h := HS.out; rw [← hn9] at h; exact h.done hbx.out.size), HS.out.bel⟩
end Go.Proofs.YtiefogofiajmnaaDoor
