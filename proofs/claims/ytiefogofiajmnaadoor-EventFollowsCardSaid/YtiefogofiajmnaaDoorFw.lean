/-
  Tables with others in their place, and behind a change: put, the document's Follow of one that is made, create, Follow.
-/
import Derived.Test.YtiefogofiajmnaaDoorMg6
import Derived.Deep.RegionHeld3
import Derived.Test.YtiefogofiajmnaaDoorMg9
import Derived.Test.YtiefogofiajmnaaDoorApply
namespace Go.Proofs.YtiefogofiajmnaaDoor
open Go.RowKit Dg
set_option maxRecDepth 100000
/-- Three rows put together. -/
theorem cat3_any (g : Nat) (A1 A2 A3 : Option Addr) (T1 T2 T3 : List Tb) (n1 c1 n2 c2 n3 c3 : Nat) (w : World) (h1 : T1.length = n1) (h2 : T2.length = n2) (h3 : T3.length = n3) (hl : n1 + n2 + n3 ≤ 1000)
    (hc0 : w.cell? ⟨g, 0, none⟩ = some (.slice A1 n1 c1)) (hc1 : w.cell? ⟨g, 1, none⟩ = some (.slice A2 n2 c2)) (hc2 : w.cell? ⟨g, 2, none⟩ = some (.slice A3 n3 c3))
    (r1 : TRow w A1 T1) (r2 : TRow w A2 T2) (r3 : TRow w A3 T3) (z1 : A1 = none → c1 = 0) (z2 : A2 = none → c2 = 0) (z3 : A3 = none → c3 = 0) :
    Calls Tryd.prog 57 #[.slice (some ⟨g, 0, none⟩) 3 3] w fun e w' => ∃ v, e = .returned v ∧ Hid (OwnT w.heap.size w' v (T1 ++ T2 ++ T3)) ∧ Hid (Below w.heap.size w w') := by
  have hcat : catT [(A1, T1, c1), (A2, T2, c2), (A3, T3, c3)] 3 = T1 ++ T2 ++ T3 := by simp [catT]
  have hC := concatT_any g [(A1, T1, c1), (A2, T2, c2), (A3, T3, c3)] 3 3 w rfl (by omega) (fun i hi => by
    have : i = 0 ∨ i = 1 ∨ i = 2 := by simp at hi; omega
    rcases this with rfl | rfl | rfl
    · exact ⟨by rw [hc0]; simp [h1], r1, z1⟩
    · exact ⟨by rw [hc1]; simp [h2], r2, z2⟩
    · exact ⟨by rw [hc2]; simp [h3], r3, z3⟩) (by rw [hcat]; simp; omega)
  rw [hcat] at hC
  exact hC
/-- The same of rows that lie at an elder world. -/
theorem catput_any (w W : World) (hb : Below w.heap.size w W) (A1 A2 A3 : Option Addr) (T1 T2 T3 : List Tb) (n1 c1 n2 c2 n3 c3 : Nat) (h1 : T1.length = n1) (h2 : T2.length = n2) (h3 : T3.length = n3) (hl : n1 + n2 + n3 ≤ 1000)
    (r1 : TRow w A1 T1) (r2 : TRow w A2 T2) (r3 : TRow w A3 T3) (z1 : A1 = none → c1 = 0) (z2 : A2 = none → c2 = 0) (z3 : A3 = none → c3 = 0) :
    Calls Tryd.prog 57 #[.slice (some ⟨W.heap.size, 0, none⟩) 3 3] (W.alloc (.cells #[.slice A1 n1 c1, .slice A2 n2 c2, .slice A3 n3 c3] 22)).drew fun e w' => ∃ v, e = .returned v ∧ Hid (OwnT W.heap.size w' v (T1 ++ T2 ++ T3)) ∧ Hid (Below W.heap.size W w') := by
  have hb2 : Below w.heap.size w (W.alloc (.cells #[.slice A1 n1 c1, .slice A2 n2 c2, .slice A3 n3 c3] 22)).drew := (hb.alloc hb.size _).drew
  have hh := (Has.new W 22 #[.slice A1 n1 c1, .slice A2 n2 c2, .slice A3 n3 c3]).drew
  refine (cat3_any W.heap.size A1 A2 A3 T1 T2 T3 n1 c1 n2 c2 n3 c3 _ h1 h2 h3 hl (hh.cell 0) (hh.cell 1) (hh.cell 2) (r1.below hb2) (r2.below hb2) (r3.below hb2) z1 z2 z3).mono ?_
  rintro e w' ⟨v, rfl, ho, hb'⟩
  exact ⟨v, rfl, ownT_down ho.out (by simp), (((Below.refl W.heap.size W).alloc (Nat.le_refl _) _).drew).trans (hb'.out.mono (by simp))⟩
theorem trow_nil (w : World) (A : Option Addr) : TRow w A [] := fun h => absurd rfl h
set_option maxHeartbeats 6000000 in
theorem putT_any (A : Option Addr) (T : List Tb) (n c f t : Nat) (B : Option Addr) (X : List Tb) (m d : Nat) (w : World) (hn : T.length = n) (hnc : n ≤ c) (hcm : c ≤ maxLen) (hft : f ≤ t) (htn : t ≤ n) (hl : n ≤ 900) (hA : TRow w A T) (hA0 : A = none → c = 0) (hI : TOks w T) (hX : X.length = m) (hm : m ≤ 1) (hB : TRow w B X) (hB0 : B = none → d = 0) (hXI : TOks w X) :
    Calls Tryd.prog 35 #[.slice A n c, .int .i64 f, .int .i64 t, .slice B m d] w fun e w' => ∃ v T', e = .returned v ∧ Hid (OwnT w.heap.size w' v T') ∧ Hid (Clns w.heap.size w' (T.take f ++ X ++ T.drop t) T') ∧ Hid (Below w.heap.size w w') := by
  have HI : Hid (TOks w (T.take f ++ X ++ T.drop t)) := fun x hx => by
    rw [List.mem_append, List.mem_append] at hx
    rcases hx with (hx | hx) | hx
    · exact hI x (List.mem_of_mem_take hx)
    · exact hXI x hx
    · exact hI x (List.mem_of_mem_drop hx)
  have hlt : (T.take f).length = f := by rw [List.length_take]; omega
  have hld : (T.drop t).length = n - t := by rw [List.length_drop, hn]
  have HT0 : Hid ((T.take f ++ X ++ T.drop t).length ≤ 1000) := by show _ ≤ _; simp [hn, hX]; omega
  obtain ⟨T0, hT0⟩ : ∃ T0, T.take f ++ X ++ T.drop t = T0 := ⟨_, rfl⟩
  have z1 : (f : Int) ≤ (t : Int) := by omega
  have z2 : (t : Int) ≤ (n : Int) := by omega
  have z3 : (n : Int) ≤ (c : Int) := by omega
  have z4 : (f : Int) ≤ (c : Int) := by omega
  have z5 : (t : Int) ≤ (c : Int) := by omega
  unfold maxLen at hcm
  rcases A with _ | ⟨b, off, sp⟩
  · obtain rfl : c = 0 := hA0 rfl
    obtain rfl : n = 0 := by omega
    obtain rfl : t = 0 := by omega
    obtain rfl : f = 0 := by omega
    have HC := Lib.hid (catput_any w w (Below.refl _ w) none B none (T.take 0) X (T.drop 0) 0 0 m d 0 0 hlt hX hld (by omega) (by rw [List.take_zero]; exact trow_nil _ _) hB (by rw [List.eq_nil_of_length_eq_zero hn]; exact trow_nil _ _) (fun _ => rfl) hB0 (fun _ => rfl))
    rw [hT0] at HC HI HT0 ⊢
    clear hA hA0 hI hX hB hB0 hXI hlt hld hT0 hn
    have hb0 : Hid (Below w.heap.size w w.drew) := (Below.refl _ w).drew
    have hbr : Hid (Below w.heap.size w w) := Below.refl _ w
    go_enter Tryd.func35, Tryd.ntmps35
    go_wp2_with fail
    go_region_held3 (fun X => Hid (Below w.heap.size w X)) (first | assumption | exact hid_d1 (by assumption) _)
      (first | (go_at_call 57; refine HC.out.mono ?_; rintro e x1 ⟨v, rfl, ho, hbx⟩; obtain ⟨A9, c9, hv, h91, h92, _, _⟩ := ownT_row ho.out; obtain ⟨n9, hn9⟩ : ∃ n9, T0.length = n9 := ⟨_, rfl⟩; rw [hn9] at hv h91; subst hv; have PS := Lib.hid (PSt.start ho.out hbx.out (Nat.le_refl _)); have hbw : Hid (Below w.heap.size w x1) := hbx; clear ho))
    all_goals
      have h1000 : n9 ≤ 1000 := by have := HT0.out; omega
      go_wp2_with fail
      go_loopw [22] (fun i wr => ∃ (k : Nat) (T1 : List Tb), k ≤ n9 ∧ i = .int .i64 k ∧ Hid (PSt w x1.heap.size A9 n9 c9 T0 k wr T1)) (fun i _ => n9 - (intOf i).toNat)
      case atStart => exact ⟨0, T0, by omega, rfl, PS⟩
      case round =>
        obtain ⟨k, T1, hk, rfl, HS⟩ := hrel
        clear PS HC
        by_cases hlt : k < n9
        · obtain ⟨g, rfl⟩ := HS.out.open_.2 hlt
          have hk0 : k < T0.length := by rw [hn9]; exact hlt
          obtain ⟨p1, p2, _, _⟩ := HS.out.cells hk0
          have hx := HI.out T0[k] (List.getElem_mem hk0)
          have HCL := Lib.hid (clone4_any T0[k].A T0[k].L T0[k].n T0[k].c T0[k].K wr hx.len hx.few (hx.row.below HS.out.bel) hx.nil)
          have HST : Hid (∀ (w2 : World) (A8 : Option Addr) (n8 c8 : Nat), Hid (OwnC wr.heap.size w2 (.slice A8 n8 c8) T0[k].L) → Hid (Below wr.heap.size wr w2) → w2.frozen? ⟨g, k * 3 + 1, none⟩ = false ∧ (w2.setCell ⟨g, k * 3 + 1, none⟩ (.slice A8 n8 c8)).frozen? ⟨g, k * 3 + 2, none⟩ = false ∧ ∃ T2, Hid (PSt w x1.heap.size (some ⟨g, 0, none⟩) n9 c9 T0 (k + 1) ((w2.setCell ⟨g, k * 3 + 1, none⟩ (.slice A8 n8 c8)).setCell ⟨g, k * 3 + 2, none⟩ (.int .i64 T0[k].K)) T2)) := fun w2 A8 n8 c8 ho hb => by
            obtain ⟨q1, q2, q3⟩ := HS.out.step hk0 ho.out hb.out
            exact ⟨q1, q2, _, q3⟩
          have hkz : (k : Int) < (n9 : Int) := by omega
          clear hx
          generalize T0[k] = x at *
          obtain ⟨xs, xA, xn, xc, xL, xK⟩ := x
          simp only at p1 p2 HCL HST
          go_wp2_with fail
          refine HCL.out.mono ?_
          rintro e w2 ⟨v8, rfl, ho8, hb8⟩
          obtain ⟨A8, n8, c8, rfl, _, _, _, _, _⟩ := ownC_open ho8.out
          obtain ⟨q1, q2, T2, S2⟩ := HST.out w2 A8 n8 c8 ho8 hb8
          have y1 := keepC hb8.out p1
          have y2 := keepC hb8.out p2
          clear HST HCL ho8 p1 p2
          go_wp2_with fail
          go_roundw
          case rel => exact ⟨k + 1, T2, by omega, by go_num, S2⟩
          case measure => simp [intOf]; omega
        · obtain rfl : k = n9 := by omega
          go_wp2_with fail
          go_ret
          exact ⟨_, T1, rfl, HS.out.own, (by have h := HS.out; rw [← hn9] at h; exact h.done hbx.out.size), HS.out.bel⟩
  · by_cases hn0 : T = []
    · subst hn0
      obtain rfl : n = 0 := by simpa using hn.symm
      obtain rfl : t = 0 := by omega
      obtain rfl : f = 0 := by omega
      have HC := Lib.hid (catput_any w w (Below.refl _ w) (some ⟨b, off, sp⟩) B (some ⟨b, off, sp⟩) ([].take 0) X ([].drop 0) 0 c m d 0 c hlt hX hld (by omega) (by rw [List.take_nil]; exact trow_nil _ _) hB (by rw [List.drop_nil]; exact trow_nil _ _) (fun e => by cases e) hB0 (fun e => by cases e))
      rw [hT0] at HC HI HT0 ⊢
      by_cases hct : c = 0
      · subst hct
        clear hA hA0 hI hX hB hB0 hXI hlt hld hT0 hn
        have hb0 : Hid (Below w.heap.size w w.drew) := (Below.refl _ w).drew
        have hbr : Hid (Below w.heap.size w w) := Below.refl _ w
        go_enter Tryd.func35, Tryd.ntmps35
        go_wp2_with fail
        go_region_held3 (fun X => Hid (Below w.heap.size w X)) (first | assumption | exact hid_d1 (by assumption) _)
          (first | (go_at_call 57; refine HC.out.mono ?_; rintro e x1 ⟨v, rfl, ho, hbx⟩; obtain ⟨A9, c9, hv, h91, h92, _, _⟩ := ownT_row ho.out; obtain ⟨n9, hn9⟩ : ∃ n9, T0.length = n9 := ⟨_, rfl⟩; rw [hn9] at hv h91; subst hv; have PS := Lib.hid (PSt.start ho.out hbx.out (Nat.le_refl _)); have hbw : Hid (Below w.heap.size w x1) := hbx; clear ho))
        all_goals
          have h1000 : n9 ≤ 1000 := by have := HT0.out; omega
          go_wp2_with fail
          go_loopw [22] (fun i wr => ∃ (k : Nat) (T1 : List Tb), k ≤ n9 ∧ i = .int .i64 k ∧ Hid (PSt w x1.heap.size A9 n9 c9 T0 k wr T1)) (fun i _ => n9 - (intOf i).toNat)
          case atStart => exact ⟨0, T0, by omega, rfl, PS⟩
          case round =>
            obtain ⟨k, T1, hk, rfl, HS⟩ := hrel
            clear PS HC
            by_cases hlt : k < n9
            · obtain ⟨g, rfl⟩ := HS.out.open_.2 hlt
              have hk0 : k < T0.length := by rw [hn9]; exact hlt
              obtain ⟨p1, p2, _, _⟩ := HS.out.cells hk0
              have hx := HI.out T0[k] (List.getElem_mem hk0)
              have HCL := Lib.hid (clone4_any T0[k].A T0[k].L T0[k].n T0[k].c T0[k].K wr hx.len hx.few (hx.row.below HS.out.bel) hx.nil)
              have HST : Hid (∀ (w2 : World) (A8 : Option Addr) (n8 c8 : Nat), Hid (OwnC wr.heap.size w2 (.slice A8 n8 c8) T0[k].L) → Hid (Below wr.heap.size wr w2) → w2.frozen? ⟨g, k * 3 + 1, none⟩ = false ∧ (w2.setCell ⟨g, k * 3 + 1, none⟩ (.slice A8 n8 c8)).frozen? ⟨g, k * 3 + 2, none⟩ = false ∧ ∃ T2, Hid (PSt w x1.heap.size (some ⟨g, 0, none⟩) n9 c9 T0 (k + 1) ((w2.setCell ⟨g, k * 3 + 1, none⟩ (.slice A8 n8 c8)).setCell ⟨g, k * 3 + 2, none⟩ (.int .i64 T0[k].K)) T2)) := fun w2 A8 n8 c8 ho hb => by
                obtain ⟨q1, q2, q3⟩ := HS.out.step hk0 ho.out hb.out
                exact ⟨q1, q2, _, q3⟩
              have hkz : (k : Int) < (n9 : Int) := by omega
              clear hx
              generalize T0[k] = x at *
              obtain ⟨xs, xA, xn, xc, xL, xK⟩ := x
              simp only at p1 p2 HCL HST
              go_wp2_with fail
              refine HCL.out.mono ?_
              rintro e w2 ⟨v8, rfl, ho8, hb8⟩
              obtain ⟨A8, n8, c8, rfl, _, _, _, _, _⟩ := ownC_open ho8.out
              obtain ⟨q1, q2, T2, S2⟩ := HST.out w2 A8 n8 c8 ho8 hb8
              have y1 := keepC hb8.out p1
              have y2 := keepC hb8.out p2
              clear HST HCL ho8 p1 p2
              go_wp2_with fail
              go_roundw
              case rel => exact ⟨k + 1, T2, by omega, by go_num, S2⟩
              case measure => simp [intOf]; omega
            · obtain rfl : k = n9 := by omega
              go_wp2_with fail
              go_ret
              exact ⟨_, T1, rfl, HS.out.own, (by have h := HS.out; rw [← hn9] at h; exact h.done hbx.out.size), HS.out.bel⟩
      · clear hA hA0 hI hX hB hB0 hXI hlt hld hT0 hn
        have hb0 : Hid (Below w.heap.size w w.drew) := (Below.refl _ w).drew
        have hbr : Hid (Below w.heap.size w w) := Below.refl _ w
        go_enter Tryd.func35, Tryd.ntmps35
        go_wp2_with fail
        go_region_held3 (fun X => Hid (Below w.heap.size w X)) (first | assumption | exact hid_d1 (by assumption) _)
          (first | (go_at_call 57; refine HC.out.mono ?_; rintro e x1 ⟨v, rfl, ho, hbx⟩; obtain ⟨A9, c9, hv, h91, h92, _, _⟩ := ownT_row ho.out; obtain ⟨n9, hn9⟩ : ∃ n9, T0.length = n9 := ⟨_, rfl⟩; rw [hn9] at hv h91; subst hv; have PS := Lib.hid (PSt.start ho.out hbx.out (Nat.le_refl _)); have hbw : Hid (Below w.heap.size w x1) := hbx; clear ho))
        all_goals
          have h1000 : n9 ≤ 1000 := by have := HT0.out; omega
          go_wp2_with fail
          go_loopw [22] (fun i wr => ∃ (k : Nat) (T1 : List Tb), k ≤ n9 ∧ i = .int .i64 k ∧ Hid (PSt w x1.heap.size A9 n9 c9 T0 k wr T1)) (fun i _ => n9 - (intOf i).toNat)
          case atStart => exact ⟨0, T0, by omega, rfl, PS⟩
          case round =>
            obtain ⟨k, T1, hk, rfl, HS⟩ := hrel
            clear PS HC
            by_cases hlt : k < n9
            · obtain ⟨g, rfl⟩ := HS.out.open_.2 hlt
              have hk0 : k < T0.length := by rw [hn9]; exact hlt
              obtain ⟨p1, p2, _, _⟩ := HS.out.cells hk0
              have hx := HI.out T0[k] (List.getElem_mem hk0)
              have HCL := Lib.hid (clone4_any T0[k].A T0[k].L T0[k].n T0[k].c T0[k].K wr hx.len hx.few (hx.row.below HS.out.bel) hx.nil)
              have HST : Hid (∀ (w2 : World) (A8 : Option Addr) (n8 c8 : Nat), Hid (OwnC wr.heap.size w2 (.slice A8 n8 c8) T0[k].L) → Hid (Below wr.heap.size wr w2) → w2.frozen? ⟨g, k * 3 + 1, none⟩ = false ∧ (w2.setCell ⟨g, k * 3 + 1, none⟩ (.slice A8 n8 c8)).frozen? ⟨g, k * 3 + 2, none⟩ = false ∧ ∃ T2, Hid (PSt w x1.heap.size (some ⟨g, 0, none⟩) n9 c9 T0 (k + 1) ((w2.setCell ⟨g, k * 3 + 1, none⟩ (.slice A8 n8 c8)).setCell ⟨g, k * 3 + 2, none⟩ (.int .i64 T0[k].K)) T2)) := fun w2 A8 n8 c8 ho hb => by
                obtain ⟨q1, q2, q3⟩ := HS.out.step hk0 ho.out hb.out
                exact ⟨q1, q2, _, q3⟩
              have hkz : (k : Int) < (n9 : Int) := by omega
              clear hx
              generalize T0[k] = x at *
              obtain ⟨xs, xA, xn, xc, xL, xK⟩ := x
              simp only at p1 p2 HCL HST
              go_wp2_with fail
              refine HCL.out.mono ?_
              rintro e w2 ⟨v8, rfl, ho8, hb8⟩
              obtain ⟨A8, n8, c8, rfl, _, _, _, _, _⟩ := ownC_open ho8.out
              obtain ⟨q1, q2, T2, S2⟩ := HST.out w2 A8 n8 c8 ho8 hb8
              have y1 := keepC hb8.out p1
              have y2 := keepC hb8.out p2
              clear HST HCL ho8 p1 p2
              go_wp2_with fail
              go_roundw
              case rel => exact ⟨k + 1, T2, by omega, by go_num, S2⟩
              case measure => simp [intOf]; omega
            · obtain rfl : k = n9 := by omega
              go_wp2_with fail
              go_ret
              exact ⟨_, T1, rfl, HS.out.own, (by have h := HS.out; rw [← hn9] at h; exact h.done hbx.out.size), HS.out.bel⟩
    · obtain ⟨b', off', e, _⟩ := hA hn0
      injection e with e
      injection e with e1 e2 e3
      subst e1 e2 e3
      by_cases hct : c = t
      · subst hct
        have HC := Lib.hid (catput_any w w (Below.refl _ w) (some ⟨b, off, none⟩) B (some ⟨b, off, none⟩) (T.take f) X (T.drop c) f c m d 0 0 hlt hX (by omega) (by omega) (hA.take f) hB (by rw [List.drop_eq_nil_of_le (by omega)]; exact trow_nil _ _) (fun e => by cases e) hB0 (fun e => by cases e))
        rw [hT0] at HC HI HT0 ⊢
        clear hA hA0 hI hX hB hB0 hXI hlt hld hT0 hn hn0
        have hb0 : Hid (Below w.heap.size w w.drew) := (Below.refl _ w).drew
        have hbr : Hid (Below w.heap.size w w) := Below.refl _ w
        go_enter Tryd.func35, Tryd.ntmps35
        go_wp2_with fail
        go_region_held3 (fun X => Hid (Below w.heap.size w X)) (first | assumption | exact hid_d1 (by assumption) _)
          (first | (go_at_call 57; refine HC.out.mono ?_; rintro e x1 ⟨v, rfl, ho, hbx⟩; obtain ⟨A9, c9, hv, h91, h92, _, _⟩ := ownT_row ho.out; obtain ⟨n9, hn9⟩ : ∃ n9, T0.length = n9 := ⟨_, rfl⟩; rw [hn9] at hv h91; subst hv; have PS := Lib.hid (PSt.start ho.out hbx.out (Nat.le_refl _)); have hbw : Hid (Below w.heap.size w x1) := hbx; clear ho))
        all_goals
          have h1000 : n9 ≤ 1000 := by have := HT0.out; omega
          go_wp2_with fail
          go_loopw [22] (fun i wr => ∃ (k : Nat) (T1 : List Tb), k ≤ n9 ∧ i = .int .i64 k ∧ Hid (PSt w x1.heap.size A9 n9 c9 T0 k wr T1)) (fun i _ => n9 - (intOf i).toNat)
          case atStart => exact ⟨0, T0, by omega, rfl, PS⟩
          case round =>
            obtain ⟨k, T1, hk, rfl, HS⟩ := hrel
            clear PS HC
            by_cases hlt : k < n9
            · obtain ⟨g, rfl⟩ := HS.out.open_.2 hlt
              have hk0 : k < T0.length := by rw [hn9]; exact hlt
              obtain ⟨p1, p2, _, _⟩ := HS.out.cells hk0
              have hx := HI.out T0[k] (List.getElem_mem hk0)
              have HCL := Lib.hid (clone4_any T0[k].A T0[k].L T0[k].n T0[k].c T0[k].K wr hx.len hx.few (hx.row.below HS.out.bel) hx.nil)
              have HST : Hid (∀ (w2 : World) (A8 : Option Addr) (n8 c8 : Nat), Hid (OwnC wr.heap.size w2 (.slice A8 n8 c8) T0[k].L) → Hid (Below wr.heap.size wr w2) → w2.frozen? ⟨g, k * 3 + 1, none⟩ = false ∧ (w2.setCell ⟨g, k * 3 + 1, none⟩ (.slice A8 n8 c8)).frozen? ⟨g, k * 3 + 2, none⟩ = false ∧ ∃ T2, Hid (PSt w x1.heap.size (some ⟨g, 0, none⟩) n9 c9 T0 (k + 1) ((w2.setCell ⟨g, k * 3 + 1, none⟩ (.slice A8 n8 c8)).setCell ⟨g, k * 3 + 2, none⟩ (.int .i64 T0[k].K)) T2)) := fun w2 A8 n8 c8 ho hb => by
                obtain ⟨q1, q2, q3⟩ := HS.out.step hk0 ho.out hb.out
                exact ⟨q1, q2, _, q3⟩
              have hkz : (k : Int) < (n9 : Int) := by omega
              clear hx
              generalize T0[k] = x at *
              obtain ⟨xs, xA, xn, xc, xL, xK⟩ := x
              simp only at p1 p2 HCL HST
              go_wp2_with fail
              refine HCL.out.mono ?_
              rintro e w2 ⟨v8, rfl, ho8, hb8⟩
              obtain ⟨A8, n8, c8, rfl, _, _, _, _, _⟩ := ownC_open ho8.out
              obtain ⟨q1, q2, T2, S2⟩ := HST.out w2 A8 n8 c8 ho8 hb8
              have y1 := keepC hb8.out p1
              have y2 := keepC hb8.out p2
              clear HST HCL ho8 p1 p2
              go_wp2_with fail
              go_roundw
              case rel => exact ⟨k + 1, T2, by omega, by go_num, S2⟩
              case measure => simp [intOf]; omega
            · obtain rfl : k = n9 := by omega
              go_wp2_with fail
              go_ret
              exact ⟨_, T1, rfl, HS.out.own, (by have h := HS.out; rw [← hn9] at h; exact h.done hbx.out.size), HS.out.bel⟩
      · have HC := Lib.hid (catput_any w w (Below.refl _ w) (some ⟨b, off, none⟩) B (some ⟨b, off + t * 3, none⟩) (T.take f) X (T.drop t) f c m d (n - t) (c - t) hlt hX hld (by omega) (hA.take f) hB (hA.drop t) (fun e => by cases e) hB0 (fun e => by cases e))
        rw [hT0] at HC HI HT0 ⊢
        clear hA hA0 hI hX hB hB0 hXI hlt hld hT0 hn hn0
        have hb0 : Hid (Below w.heap.size w w.drew) := (Below.refl _ w).drew
        have hbr : Hid (Below w.heap.size w w) := Below.refl _ w
        go_enter Tryd.func35, Tryd.ntmps35
        go_wp2_with fail
        go_region_held3 (fun X => Hid (Below w.heap.size w X)) (first | assumption | exact hid_d1 (by assumption) _)
          (first | (go_at_call 57; refine HC.out.mono ?_; rintro e x1 ⟨v, rfl, ho, hbx⟩; obtain ⟨A9, c9, hv, h91, h92, _, _⟩ := ownT_row ho.out; obtain ⟨n9, hn9⟩ : ∃ n9, T0.length = n9 := ⟨_, rfl⟩; rw [hn9] at hv h91; subst hv; have PS := Lib.hid (PSt.start ho.out hbx.out (Nat.le_refl _)); have hbw : Hid (Below w.heap.size w x1) := hbx; clear ho))
        all_goals
          have h1000 : n9 ≤ 1000 := by have := HT0.out; omega
          go_wp2_with fail
          go_loopw [22] (fun i wr => ∃ (k : Nat) (T1 : List Tb), k ≤ n9 ∧ i = .int .i64 k ∧ Hid (PSt w x1.heap.size A9 n9 c9 T0 k wr T1)) (fun i _ => n9 - (intOf i).toNat)
          case atStart => exact ⟨0, T0, by omega, rfl, PS⟩
          case round =>
            obtain ⟨k, T1, hk, rfl, HS⟩ := hrel
            clear PS HC
            by_cases hlt : k < n9
            · obtain ⟨g, rfl⟩ := HS.out.open_.2 hlt
              have hk0 : k < T0.length := by rw [hn9]; exact hlt
              obtain ⟨p1, p2, _, _⟩ := HS.out.cells hk0
              have hx := HI.out T0[k] (List.getElem_mem hk0)
              have HCL := Lib.hid (clone4_any T0[k].A T0[k].L T0[k].n T0[k].c T0[k].K wr hx.len hx.few (hx.row.below HS.out.bel) hx.nil)
              have HST : Hid (∀ (w2 : World) (A8 : Option Addr) (n8 c8 : Nat), Hid (OwnC wr.heap.size w2 (.slice A8 n8 c8) T0[k].L) → Hid (Below wr.heap.size wr w2) → w2.frozen? ⟨g, k * 3 + 1, none⟩ = false ∧ (w2.setCell ⟨g, k * 3 + 1, none⟩ (.slice A8 n8 c8)).frozen? ⟨g, k * 3 + 2, none⟩ = false ∧ ∃ T2, Hid (PSt w x1.heap.size (some ⟨g, 0, none⟩) n9 c9 T0 (k + 1) ((w2.setCell ⟨g, k * 3 + 1, none⟩ (.slice A8 n8 c8)).setCell ⟨g, k * 3 + 2, none⟩ (.int .i64 T0[k].K)) T2)) := fun w2 A8 n8 c8 ho hb => by
                obtain ⟨q1, q2, q3⟩ := HS.out.step hk0 ho.out hb.out
                exact ⟨q1, q2, _, q3⟩
              have hkz : (k : Int) < (n9 : Int) := by omega
              clear hx
              generalize T0[k] = x at *
              obtain ⟨xs, xA, xn, xc, xL, xK⟩ := x
              simp only at p1 p2 HCL HST
              go_wp2_with fail
              refine HCL.out.mono ?_
              rintro e w2 ⟨v8, rfl, ho8, hb8⟩
              obtain ⟨A8, n8, c8, rfl, _, _, _, _, _⟩ := ownC_open ho8.out
              obtain ⟨q1, q2, T2, S2⟩ := HST.out w2 A8 n8 c8 ho8 hb8
              have y1 := keepC hb8.out p1
              have y2 := keepC hb8.out p2
              clear HST HCL ho8 p1 p2
              go_wp2_with fail
              go_roundw
              case rel => exact ⟨k + 1, T2, by omega, by go_num, S2⟩
              case measure => simp [intOf]; omega
            · obtain rfl : k = n9 := by omega
              go_wp2_with fail
              go_ret
              exact ⟨_, T1, rfl, HS.out.own, (by have h := HS.out; rw [← hn9] at h; exact h.done hbx.out.size), HS.out.bel⟩
end Go.Proofs.YtiefogofiajmnaaDoor
namespace Go.Proofs.YtiefogofiajmnaaDoor
open Go.RowKit Dg
set_option maxRecDepth 100000
theorem tat_yes {T : List Tb} {s : ByteArray} (h : plF T s = true) : tatI T s = ((lbN T s : Nat) : Int) := by
  obtain ⟨h1, h2⟩ := plF_tat h
  unfold tatI; rw [h2, if_pos h1]
theorem tat_no {T : List Tb} {s : ByteArray} (hS : SortT T) (h : plF T s = false) : tatI T s = -1 := by
  unfold tatI; rw [if_neg (plF_tat' hS h)]
/-- The tables behind one that is made, where there is no error. -/
def fcT (T : List Tb) (tn : ByteArray) (A' : Option Addr) (n' c' : Nat) (L' : List Cl) (K' : Int) : List Tb := if fcE T tn L' K' = 0 then T.take (lbN T tn) ++ [⟨tn, A', n', c', L', K'⟩] ++ T.drop (lbN T tn) else []
theorem fcT_ok {T : List Tb} {tn : ByteArray} {A' : Option Addr} {n' c' : Nat} {L' : List Cl} {K' : Int} (h : fcE T tn L' K' = 0) : fcT T tn A' n' c' L' K' = T.take (lbN T tn) ++ [⟨tn, A', n', c', L', K'⟩] ++ T.drop (lbN T tn) := by
  unfold fcT; rw [if_pos h]
theorem fcT_bad {T : List Tb} {tn : ByteArray} {A' : Option Addr} {n' c' : Nat} {L' : List Cl} {K' : Int} (h : fcE T tn L' K' ≠ 0) : fcT T tn A' n' c' L' K' = [] := by
  unfold fcT; rw [if_neg h]
theorem ownT_bad {B : Nat} {w : World} {T : List Tb} {tn : ByteArray} {A' : Option Addr} {n' c' : Nat} {L' : List Cl} {K' : Int} (h : fcE T tn L' K' ≠ 0) : Hid (OwnT B w (.slice none 0 0) (fcT T tn A' n' c' L' K')) := by
  show OwnT _ _ _ _
  rw [fcT_bad h]; exact ownT_nil _ _
set_option maxHeartbeats 4000000 in
theorem rfolC_any (A : Option Addr) (T : List Tb) (n c : Nat) (tn : ByteArray) (A' : Option Addr) (n' c' : Nat) (L' : List Cl) (K' : Int) (cn : ByteArray) (kd : Int) (no : Bool) (w : World) (hn : T.length = n) (hnc : n ≤ c) (hcm : c ≤ maxLen) (hl : n ≤ 900) (hA : TRow w A T) (hA0 : A = none → c = 0) (hS : SortT T) (hn' : L'.length = n') (hA' : CRow w A' L') :
    Calls Tryd.prog 19 #[.slice A n c, .agg #[.int .i64 1, .string tn, .slice A' n' c', .int .i64 K', .string cn, .int .i64 kd, .bool no]] w fun e w' => ∃ v, e = .returned (.tuple #[v, .int .i64 (fcE T tn L' K')]) ∧ Hid (OwnT w.heap.size w' v (fcT T tn A' n' c' L' K')) ∧ Hid (Below w.heap.size w w') := by
  have HB0 := Lib.hid ((Below.refl w.heap.size w).alloc (Nat.le_refl _) (.cells #[.int .i64 1, .string tn, .slice A' n' c', .int .i64 K', .string cn, .int .i64 kd, .bool no] 40))
  have HX0 := Lib.hid (Has.new w 40 #[.int .i64 1, .string tn, .slice A' n' c', .int .i64 K', .string cn, .int .i64 kd, .bool no])
  have HAT := fun (W : World) (hb : Below w.heap.size w W) => at_any A T n c tn W hn (by omega) (hA.below hb)
  have HMY := fun (W : World) (hb : Below w.heap.size w W) => rmay_all A' L' n' c' K' W hn' (hA'.below hb)
  have HAT := Lib.hid HAT
  have HMY := Lib.hid HMY
  have HN := Lib.hid hn
  have HA := Lib.hid hA
  have HS := Lib.hid hS
  have HTY := Lib.hid (@tat_yes T tn)
  have HTN := Lib.hid (@tat_no T tn hS)
  have HLE := Lib.hid (lb_le T tn)
  have e1 := @fcE_name T tn L' K'
  have e2 := @fcE_there T tn L' K'
  have e3 := @fcE_may T tn L' K'
  have e4 := @fcE_many T tn L' K'
  have e5 := @fcE_ok T tn L' K'
  rw [hn] at e4 e5
  clear hn hA hA' hn' hS
  obtain ⟨qm, hqm⟩ : ∃ q, smayF L' K' = q := ⟨_, rfl⟩
  rcases hqn : nameF tn with _ | _
  · have HE := Lib.hid (e1 hqn)
    clear e1 e2 e3 e4 e5
    obtain ⟨ti, hti⟩ : ∃ ti, tatI T tn = ti := ⟨_, rfl⟩
    have HTI := Lib.hid hti
    clear hti
    go_enter Tryd.func19, Tryd.ntmps19
    go_wp2_with fail
    refine (HAT.out _ HB0.out).mono ?_
    rintro e w1 ⟨rfl, rfl⟩
    rw [HTI.out]
    go_wp2_with fail
    refine (refName_any tn _).mono ?_
    rintro e w2 ⟨rfl, rfl⟩
    rw [hqn]
    go_wp2_with fail
    refine (HMY.out _ HB0.out).mono ?_
    rintro e w3 ⟨rfl, hb3⟩
    rw [hqm]
    have HB3 := Lib.hid (HB0.out.trans (hb3.out.mono HB0.out.size))
    have HX3 := Lib.hid (HX0.out.below hb3.out HX0.out.lt)
    have x0 : w3.cell? ⟨w.heap.size, 0, none⟩ = some (.int .i64 1) := HX3.out.cell 0
    have x1 : w3.cell? ⟨w.heap.size, 1, none⟩ = some (.string tn) := HX3.out.cell 1
    have x2 : w3.cell? ⟨w.heap.size, 2, none⟩ = some (.slice A' n' c') := HX3.out.cell 2
    have x3 : w3.cell? ⟨w.heap.size, 3, none⟩ = some (.int .i64 K') := HX3.out.cell 3
    clear hb3 HX0 HB0
    go_wp2_with fail
    go_ret2
    exact ⟨_, by rw [HE.out]; rfl, ownT_bad (by rw [HE.out]; omega), HB3⟩
  · rcases hp : plF T tn with _ | _
    · have HTI := Lib.hid (HTN.out hp)
      cases qm
      · have HE := Lib.hid (e3 hqn hp hqm)
        clear e1 e2 e3 e4 e5
        go_enter Tryd.func19, Tryd.ntmps19
        go_wp2_with fail
        refine (HAT.out _ HB0.out).mono ?_
        rintro e w1 ⟨rfl, rfl⟩
        rw [HTI.out]
        go_wp2_with fail
        refine (refName_any tn _).mono ?_
        rintro e w2 ⟨rfl, rfl⟩
        rw [hqn]
        go_wp2_with fail
        refine (HMY.out _ HB0.out).mono ?_
        rintro e w3 ⟨rfl, hb3⟩
        rw [hqm]
        have HB3 := Lib.hid (HB0.out.trans (hb3.out.mono HB0.out.size))
        have HX3 := Lib.hid (HX0.out.below hb3.out HX0.out.lt)
        have x0 : w3.cell? ⟨w.heap.size, 0, none⟩ = some (.int .i64 1) := HX3.out.cell 0
        have x1 : w3.cell? ⟨w.heap.size, 1, none⟩ = some (.string tn) := HX3.out.cell 1
        have x2 : w3.cell? ⟨w.heap.size, 2, none⟩ = some (.slice A' n' c') := HX3.out.cell 2
        have x3 : w3.cell? ⟨w.heap.size, 3, none⟩ = some (.int .i64 K') := HX3.out.cell 3
        clear hb3 HX0 HB0
        go_wp2_with fail
        go_ret2
        exact ⟨_, by rw [HE.out]; rfl, ownT_bad (by rw [HE.out]; omega), HB3⟩
      · by_cases h64 : 64 ≤ n
        · have HE := Lib.hid (e4 hqn hp hqm h64)
          have h64z : (64 : Int) ≤ (n : Int) := by omega
          clear e1 e2 e3 e4 e5
          go_enter Tryd.func19, Tryd.ntmps19
          go_wp2_with fail
          refine (HAT.out _ HB0.out).mono ?_
          rintro e w1 ⟨rfl, rfl⟩
          rw [HTI.out]
          go_wp2_with fail
          refine (refName_any tn _).mono ?_
          rintro e w2 ⟨rfl, rfl⟩
          rw [hqn]
          go_wp2_with fail
          refine (HMY.out _ HB0.out).mono ?_
          rintro e w3 ⟨rfl, hb3⟩
          rw [hqm]
          have HB3 := Lib.hid (HB0.out.trans (hb3.out.mono HB0.out.size))
          have HX3 := Lib.hid (HX0.out.below hb3.out HX0.out.lt)
          have x0 : w3.cell? ⟨w.heap.size, 0, none⟩ = some (.int .i64 1) := HX3.out.cell 0
          have x1 : w3.cell? ⟨w.heap.size, 1, none⟩ = some (.string tn) := HX3.out.cell 1
          have x2 : w3.cell? ⟨w.heap.size, 2, none⟩ = some (.slice A' n' c') := HX3.out.cell 2
          have x3 : w3.cell? ⟨w.heap.size, 3, none⟩ = some (.int .i64 K') := HX3.out.cell 3
          clear hb3 HX0 HB0
          go_wp2_with fail
          go_ret2
          exact ⟨_, by rw [HE.out]; rfl, ownT_bad (by rw [HE.out]; omega), HB3⟩
        · have HE := Lib.hid (e5 hqn hp hqm (by omega))
          have h64z : ¬ (64 : Int) ≤ (n : Int) := by omega
          clear e1 e2 e3 e4 e5
          go_enter Tryd.func19, Tryd.ntmps19
          go_wp2_with fail
          refine (HAT.out _ HB0.out).mono ?_
          rintro e w1 ⟨rfl, rfl⟩
          rw [HTI.out]
          go_wp2_with fail
          refine (refName_any tn _).mono ?_
          rintro e w2 ⟨rfl, rfl⟩
          rw [hqn]
          go_wp2_with fail
          refine (HMY.out _ HB0.out).mono ?_
          rintro e w3 ⟨rfl, hb3⟩
          rw [hqm]
          have HB3 := Lib.hid (HB0.out.trans (hb3.out.mono HB0.out.size))
          have HX3 := Lib.hid (HX0.out.below hb3.out HX0.out.lt)
          have x0 : w3.cell? ⟨w.heap.size, 0, none⟩ = some (.int .i64 1) := HX3.out.cell 0
          have x1 : w3.cell? ⟨w.heap.size, 1, none⟩ = some (.string tn) := HX3.out.cell 1
          have x2 : w3.cell? ⟨w.heap.size, 2, none⟩ = some (.slice A' n' c') := HX3.out.cell 2
          have x3 : w3.cell? ⟨w.heap.size, 3, none⟩ = some (.int .i64 K') := HX3.out.cell 3
          clear hb3 HX0 HB0
          go_wp2_with fail
          go_loopw [10] (fun i wr => ∃ k : Nat, k ≤ lbN T tn ∧ i = .int .i64 k ∧ Hid (Below w3.heap.size w3 wr)) (fun i _ => n - (intOf i).toNat)
          case atStart => exact ⟨0, by omega, rfl, Below.refl _ _⟩
          case round =>
            obtain ⟨k, hk, rfl, HB⟩ := hrel
            have HBx := Lib.hid (HB3.out.trans (HB.out.mono HB3.out.size))
            have HX := Lib.hid (HX3.out.below HB.out HX3.out.lt)
            have HBY := Lib.hid HB.out
            clear x0 x1 x2 x3 HX3 HB3 HB
            have y1 : wr.cell? ⟨w.heap.size, 1, none⟩ = some (.string tn) := HX.out.cell 1
            by_cases hlt : k < lbN T tn
            · have hkn : k < n := by have := HLE.out; have := HN.out; omega
              have hkl : k < T.length := by rw [HN.out]; exact hkn
              obtain ⟨b, off, rfl, hc⟩ := (HA.out.below HBx.out) (by intro e; rw [e] at hkl; simp at hkl)
              obtain ⟨c0, _, _⟩ := hc k hkl
              have hls := lb_lo hlt hkl
              have hkz : (k : Int) < (n : Int) := by omega
              clear hc
              generalize T[k].nm = xa at *
              go_wp2_with fail
              go_region
              all_goals
                go_wp2_with fail
                go_roundw
                case rel => exact ⟨k + 1, by omega, by go_num, HBY.out.drew⟩
                case measure => simp [intOf]; omega
            · have hkk : lbN T tn = k := by omega
              have hkn0 : k ≤ n := by have := HLE.out; have := HN.out; omega
              have hcm1 : c ≤ 2 ^ 63 - 1 := by unfold maxLen at hcm; exact hcm
              have hkc : (k : Int) ≤ (c : Int) := by omega
              have hkn1 : (k : Int) ≤ (n : Int) := by omega
              have HFT := Lib.hid (fcT_ok (T := T) (tn := tn) (A' := A') (n' := n') (c' := c') (L' := L') (K' := K') HE.out)
              rw [hkk] at HFT
              by_cases hkn : k < n
              · have hkl : k < T.length := by rw [HN.out]; exact hkn
                obtain ⟨b, off, rfl, hc⟩ := (HA.out.below HBx.out) (by intro e; rw [e] at hkl; simp at hkl)
                obtain ⟨c0, _, _⟩ := hc k hkl
                have hls := lb_hi HS.out (s := tn) (t := k) (by omega) hkl
                have hkz : (k : Int) < (n : Int) := by omega
                clear hc
                generalize T[k].nm = xa at *
                go_wp2_with fail
                go_region
                all_goals
                  clear c0 hls
                  have HXd := Lib.hid HX.out.drew
                  have HBd := Lib.hid HBx.out.drew
                  have HAd := Lib.hid (HA.out.below HBd.out)
                  clear HX HBx HBY y1
                  have HA1 := Lib.hid (appTs wr.drew (w.heap.size + 1) (.slice none 0 0) [] (ownT_nil _ _) HXd.out.lt (some ⟨b, off, none⟩) (T.take k) k c (by rw [List.length_take]; have := HN.out; omega) (HAd.out.take k) (fun e => by cases e) (by have := HN.out; simp <;> omega))
                  go_wp2_with (first
                    | (at_builtin; refine wpList_app rfl _ _ 22 22 rfl (.slice none 0 0) (.slice (some ⟨b, off, none⟩) k c) rfl rfl ?_; obtain ⟨R, W1, hrun, hm1, hm2⟩ := HA1.out; refine ⟨R, W1, hrun, ?_⟩; obtain ⟨A7, n7, c7, hR, HN7, hnc7, hcm7, _, _⟩ := ownT_open hm1; subst hR; have HB1 := Lib.hid (HBd.out.trans (hm2.mono (by omega))); have HX1 := Lib.hid (HXd.out.below hm2 (by omega)); have q1 : W1.cell? ⟨w.heap.size, 1, none⟩ = some (.string tn) := HX1.out.cell 1; have q2 : W1.cell? ⟨w.heap.size, 2, none⟩ = some (.slice A' n' c') := HX1.out.cell 2; have q3 : W1.cell? ⟨w.heap.size, 3, none⟩ = some (.int .i64 K') := HX1.out.cell 3; have HA2 := Lib.hid (appT W1 W1.heap.size rfl (w.heap.size + 1) (.slice A7 n7 c7) ([] ++ T.take k) ⟨tn, A', n', c', L', K'⟩ hm1 HX1.out.lt (by have := HN.out; simp; omega)); clear hrun hm1 hm2 HA1)
                    | (at_builtin; refine wpList_app rfl _ _ 22 22 rfl (.slice A7 n7 c7) (.slice (some ⟨W1.heap.size, 0, none⟩) 1 1) rfl rfl ?_; obtain ⟨R, W2, hrun, hm1, hm2⟩ := HA2.out; refine ⟨R, W2, hrun, ?_⟩; obtain ⟨A8, n8, c8, hR, HN8, hnc8, hcm8, _, _⟩ := ownT_open hm1; subst hR; have HB2 := Lib.hid (HB1.out.trans (hm2.mono (by omega))); have HX2 := Lib.hid (HX1.out.below hm2 (by omega)); have HA3 := Lib.hid (appTs W2 (w.heap.size + 1) (.slice A8 n8 c8) ([] ++ T.take k ++ [⟨tn, A', n', c', L', K'⟩]) hm1 HX2.out.lt (some ⟨b, off + k * 3, none⟩) (T.drop k) (n - k) (c - k) (by rw [List.length_drop]; have := HN.out; omega) (by have h : TRow W2 _ T := HA.out.below HB2.out; exact h.drop k) (fun e => by cases e) (by have := HN.out; simp; omega)); clear hrun hm1 hm2 HA2)
                    | (at_builtin; refine wpList_app rfl _ _ 22 22 rfl (.slice A8 n8 c8) (.slice (some ⟨b, off + k * 3, none⟩) (n - k) (c - k)) rfl rfl ?_; obtain ⟨R, W3, hrun, hm1, hm2⟩ := HA3.out; refine ⟨R, W3, hrun, ?_⟩; have HO := Lib.hid hm1; have HB5 := Lib.hid (HB2.out.trans (hm2.mono (by omega))); clear hrun hm1 hm2 HA3))

                  go_ret2
                  exact ⟨_, by rw [HE.out]; rfl, by rw [HFT.out]; exact ownT_down HO.out (by omega), HB5.out⟩
              · have hkz : ¬ (k : Int) < (n : Int) := by omega
                obtain rfl : k = n := by omega
                rcases A with _ | ⟨b, off, sp⟩
                · obtain rfl : c = 0 := hA0 rfl
                  obtain rfl : k = 0 := by omega
                  go_wp2_with fail
                  go_region
                  all_goals
                    have HXd := Lib.hid HX.out.drew
                    have HBd := Lib.hid HBx.out.drew
                    have HNT : Hid (T = []) := List.eq_nil_of_length_eq_zero HN.out
                    clear HX HBx HBY y1
                    have q1 : wr.drew.cell? ⟨w.heap.size, 1, none⟩ = some (.string tn) := HXd.out.cell 1
                    have q2 : wr.drew.cell? ⟨w.heap.size, 2, none⟩ = some (.slice A' n' c') := HXd.out.cell 2
                    have q3 : wr.drew.cell? ⟨w.heap.size, 3, none⟩ = some (.int .i64 K') := HXd.out.cell 3
                    have HA2 := Lib.hid (appT wr.drew wr.drew.heap.size rfl (w.heap.size + 1) (.slice none 0 0) [] ⟨tn, A', n', c', L', K'⟩ (ownT_nil _ _) HXd.out.lt (by simp))
                    obtain ⟨wx, hwx⟩ : ∃ wx, wr.drew = wx := ⟨_, rfl⟩
                    rw [hwx] at HA2 q1 q2 q3 HBd HXd ⊢
                    clear hwx
                    go_wp2_with (first
                      | (at_builtin; refine wpList_app rfl _ _ 22 22 rfl (.slice none 0 0) (.slice (some ⟨wx.heap.size, 0, none⟩) 1 1) rfl rfl ?_; obtain ⟨R, W2, hrun, hm1, hm2⟩ := HA2.out; refine ⟨R, W2, hrun, ?_⟩; obtain ⟨A8, n8, c8, hR, HN8, hnc8, hcm8, _, _⟩ := ownT_open hm1; subst hR; have HO := Lib.hid hm1; have HB5 := Lib.hid (HBd.out.trans (hm2.mono (by omega))); have HA3 := Lib.hid (appTs W2 (w.heap.size + 1) (.slice A8 n8 c8) _ hm1 (by have := HXd.out.lt; have := hm2.size; omega) none [] 0 0 rfl (fun h => absurd rfl h) (fun _ => rfl) (by simp)); clear hrun hm1 hm2 HA2)
                      | (at_builtin; refine wpList_app rfl _ _ 22 22 rfl (.slice A8 n8 c8) (.slice none 0 0) rfl rfl ?_; obtain ⟨R, W3, hrun, hm1, hm2⟩ := HA3.out; refine ⟨R, W3, hrun, ?_⟩; rw [List.append_nil] at hm1; have HO := Lib.hid hm1; have HB5 := Lib.hid (HB5.out.trans (hm2.mono (by omega))); clear hrun hm1 hm2 HA3))
                    go_ret2
                    exact ⟨_, by rw [HE.out]; rfl, by rw [HFT.out, HNT.out]; exact ownT_down HO.out (by omega), HB5.out⟩
                · by_cases hck : c = k
                  · subst hck
                    go_wp2_with fail
                    go_region
                    all_goals
                      have HXd := Lib.hid HX.out.drew
                      have HBd := Lib.hid HBx.out.drew
                      have HAd := Lib.hid (HA.out.below HBd.out)
                      clear HX HBx HBY y1
                      have HA1 := Lib.hid (appTs wr.drew (w.heap.size + 1) (.slice none 0 0) [] (ownT_nil _ _) HXd.out.lt (some ⟨b, off, sp⟩) (T.take c) c c (by rw [List.length_take]; have := HN.out; omega) (HAd.out.take c) (fun e => by cases e) (by have := HN.out; simp <;> omega))
                      go_wp2_with (first
                        | (at_builtin; refine wpList_app rfl _ _ 22 22 rfl (.slice none 0 0) (.slice (some ⟨b, off, sp⟩) c c) rfl rfl ?_; obtain ⟨R, W1, hrun, hm1, hm2⟩ := HA1.out; refine ⟨R, W1, hrun, ?_⟩; obtain ⟨A7, n7, c7, hR, HN7, hnc7, hcm7, _, _⟩ := ownT_open hm1; subst hR; have HB1 := Lib.hid (HBd.out.trans (hm2.mono (by omega))); have HX1 := Lib.hid (HXd.out.below hm2 (by omega)); have q1 : W1.cell? ⟨w.heap.size, 1, none⟩ = some (.string tn) := HX1.out.cell 1; have q2 : W1.cell? ⟨w.heap.size, 2, none⟩ = some (.slice A' n' c') := HX1.out.cell 2; have q3 : W1.cell? ⟨w.heap.size, 3, none⟩ = some (.int .i64 K') := HX1.out.cell 3; have HA2 := Lib.hid (appT W1 W1.heap.size rfl (w.heap.size + 1) (.slice A7 n7 c7) ([] ++ T.take c) ⟨tn, A', n', c', L', K'⟩ hm1 HX1.out.lt (by have := HN.out; simp; omega)); clear hrun hm1 hm2 HA1)
                        | (at_builtin; refine wpList_app rfl _ _ 22 22 rfl (.slice A7 n7 c7) (.slice (some ⟨W1.heap.size, 0, none⟩) 1 1) rfl rfl ?_; obtain ⟨R, W2, hrun, hm1, hm2⟩ := HA2.out; refine ⟨R, W2, hrun, ?_⟩; obtain ⟨A8, n8, c8, hR, HN8, hnc8, hcm8, _, _⟩ := ownT_open hm1; subst hR; have HB2 := Lib.hid (HB1.out.trans (hm2.mono (by omega))); have HX2 := Lib.hid (HX1.out.below hm2 (by omega)); have HA3 := Lib.hid (appTs W2 (w.heap.size + 1) (.slice A8 n8 c8) ([] ++ T.take c ++ [⟨tn, A', n', c', L', K'⟩]) hm1 HX2.out.lt (some ⟨b, off, sp⟩) (T.drop c) 0 0 (by rw [List.length_drop]; have := HN.out; omega) (by rw [List.drop_eq_nil_of_le (by have := HN.out; omega)]; exact fun h => absurd rfl h) (fun e => by cases e) (by have := HN.out; simp; omega)); clear hrun hm1 hm2 HA2)
                        | (at_builtin; refine wpList_app rfl _ _ 22 22 rfl (.slice A8 n8 c8) (.slice (some ⟨b, off, sp⟩) 0 0) rfl rfl ?_; obtain ⟨R, W3, hrun, hm1, hm2⟩ := HA3.out; refine ⟨R, W3, hrun, ?_⟩; have HO := Lib.hid hm1; have HB5 := Lib.hid (HB2.out.trans (hm2.mono (by omega))); clear hrun hm1 hm2 HA3))

                      go_ret2
                      exact ⟨_, by rw [HE.out]; rfl, by rw [HFT.out]; exact ownT_down HO.out (by omega), HB5.out⟩
                  · by_cases hT0 : T = []
                    · obtain rfl : k = 0 := by have := HN.out; rw [hT0] at this; simpa using this.symm
                      go_wp2_with fail
                      go_region
                      all_goals
                        have HXd := Lib.hid HX.out.drew
                        have HBd := Lib.hid HBx.out.drew
                        have HNT : Hid (T = []) := List.eq_nil_of_length_eq_zero HN.out
                        clear HX HBx HBY y1
                        have q1 : wr.drew.cell? ⟨w.heap.size, 1, none⟩ = some (.string tn) := HXd.out.cell 1
                        have q2 : wr.drew.cell? ⟨w.heap.size, 2, none⟩ = some (.slice A' n' c') := HXd.out.cell 2
                        have q3 : wr.drew.cell? ⟨w.heap.size, 3, none⟩ = some (.int .i64 K') := HXd.out.cell 3
                        have HA2 := Lib.hid (appT wr.drew wr.drew.heap.size rfl (w.heap.size + 1) (.slice none 0 0) [] ⟨tn, A', n', c', L', K'⟩ (ownT_nil _ _) HXd.out.lt (by simp))
                        obtain ⟨wx, hwx⟩ : ∃ wx, wr.drew = wx := ⟨_, rfl⟩
                        rw [hwx] at HA2 q1 q2 q3 HBd HXd ⊢
                        clear hwx
                        go_wp2_with (first
                          | (at_builtin; refine wpList_app rfl _ _ 22 22 rfl (.slice none 0 0) (.slice (some ⟨wx.heap.size, 0, none⟩) 1 1) rfl rfl ?_; obtain ⟨R, W2, hrun, hm1, hm2⟩ := HA2.out; refine ⟨R, W2, hrun, ?_⟩; obtain ⟨A8, n8, c8, hR, HN8, hnc8, hcm8, _, _⟩ := ownT_open hm1; subst hR; have HO := Lib.hid hm1; have HB5 := Lib.hid (HBd.out.trans (hm2.mono (by omega))); have HA3 := Lib.hid (appTs W2 (w.heap.size + 1) (.slice A8 n8 c8) _ hm1 (by have := HXd.out.lt; have := hm2.size; omega) (some ⟨b, off, sp⟩) [] 0 c rfl (fun h => absurd rfl h) (fun e => by cases e) (by simp)); clear hrun hm1 hm2 HA2)
                          | (at_builtin; refine wpList_app rfl _ _ 22 22 rfl (.slice A8 n8 c8) (.slice (some ⟨b, off, sp⟩) 0 c) rfl rfl ?_; obtain ⟨R, W3, hrun, hm1, hm2⟩ := HA3.out; refine ⟨R, W3, hrun, ?_⟩; rw [List.append_nil] at hm1; have HO := Lib.hid hm1; have HB5 := Lib.hid (HB5.out.trans (hm2.mono (by omega))); clear hrun hm1 hm2 HA3))
                        go_ret2
                        exact ⟨_, by rw [HE.out]; rfl, by rw [HFT.out, HNT.out]; exact ownT_down HO.out (by omega), HB5.out⟩
                    · obtain rfl : sp = none := by
                        obtain ⟨b', off', e, _⟩ := HA.out hT0
                        injection e with e
                        injection e
                      go_wp2_with fail
                      go_region
                      all_goals
                        have HXd := Lib.hid HX.out.drew
                        have HBd := Lib.hid HBx.out.drew
                        have HAd := Lib.hid (HA.out.below HBd.out)
                        clear HX HBx HBY y1
                        have HA1 := Lib.hid (appTs wr.drew (w.heap.size + 1) (.slice none 0 0) [] (ownT_nil _ _) HXd.out.lt (some ⟨b, off, none⟩) (T.take k) k c (by rw [List.length_take]; have := HN.out; omega) (HAd.out.take k) (fun e => by cases e) (by have := HN.out; simp <;> omega))
                        go_wp2_with (first
                          | (at_builtin; refine wpList_app rfl _ _ 22 22 rfl (.slice none 0 0) (.slice (some ⟨b, off, none⟩) k c) rfl rfl ?_; obtain ⟨R, W1, hrun, hm1, hm2⟩ := HA1.out; refine ⟨R, W1, hrun, ?_⟩; obtain ⟨A7, n7, c7, hR, HN7, hnc7, hcm7, _, _⟩ := ownT_open hm1; subst hR; have HB1 := Lib.hid (HBd.out.trans (hm2.mono (by omega))); have HX1 := Lib.hid (HXd.out.below hm2 (by omega)); have q1 : W1.cell? ⟨w.heap.size, 1, none⟩ = some (.string tn) := HX1.out.cell 1; have q2 : W1.cell? ⟨w.heap.size, 2, none⟩ = some (.slice A' n' c') := HX1.out.cell 2; have q3 : W1.cell? ⟨w.heap.size, 3, none⟩ = some (.int .i64 K') := HX1.out.cell 3; have HA2 := Lib.hid (appT W1 W1.heap.size rfl (w.heap.size + 1) (.slice A7 n7 c7) ([] ++ T.take k) ⟨tn, A', n', c', L', K'⟩ hm1 HX1.out.lt (by have := HN.out; simp; omega)); clear hrun hm1 hm2 HA1)
                          | (at_builtin; refine wpList_app rfl _ _ 22 22 rfl (.slice A7 n7 c7) (.slice (some ⟨W1.heap.size, 0, none⟩) 1 1) rfl rfl ?_; obtain ⟨R, W2, hrun, hm1, hm2⟩ := HA2.out; refine ⟨R, W2, hrun, ?_⟩; obtain ⟨A8, n8, c8, hR, HN8, hnc8, hcm8, _, _⟩ := ownT_open hm1; subst hR; have HB2 := Lib.hid (HB1.out.trans (hm2.mono (by omega))); have HX2 := Lib.hid (HX1.out.below hm2 (by omega)); have HA3 := Lib.hid (appTs W2 (w.heap.size + 1) (.slice A8 n8 c8) ([] ++ T.take k ++ [⟨tn, A', n', c', L', K'⟩]) hm1 HX2.out.lt (some ⟨b, off + k * 3, none⟩) (T.drop k) 0 (c - k) (by rw [List.length_drop]; have := HN.out; omega) (by rw [List.drop_eq_nil_of_le (by have := HN.out; omega)]; exact fun h => absurd rfl h) (fun e => by cases e) (by have := HN.out; simp; omega)); clear hrun hm1 hm2 HA2)
                          | (at_builtin; refine wpList_app rfl _ _ 22 22 rfl (.slice A8 n8 c8) (.slice (some ⟨b, off + k * 3, none⟩) 0 (c - k)) rfl rfl ?_; obtain ⟨R, W3, hrun, hm1, hm2⟩ := HA3.out; refine ⟨R, W3, hrun, ?_⟩; have HO := Lib.hid hm1; have HB5 := Lib.hid (HB2.out.trans (hm2.mono (by omega))); clear hrun hm1 hm2 HA3))

                        go_ret2
                        exact ⟨_, by rw [HE.out]; rfl, by rw [HFT.out]; exact ownT_down HO.out (by omega), HB5.out⟩
    · have HTI := Lib.hid (HTY.out hp)
      have HE := Lib.hid (e2 hqn hp)
      have hz : (0 : Int) ≤ ((lbN T tn : Nat) : Int) := by omega
      clear e1 e2 e3 e4 e5
      go_enter Tryd.func19, Tryd.ntmps19
      go_wp2_with fail
      refine (HAT.out _ HB0.out).mono ?_
      rintro e w1 ⟨rfl, rfl⟩
      rw [HTI.out]
      go_wp2_with fail
      refine (refName_any tn _).mono ?_
      rintro e w2 ⟨rfl, rfl⟩
      rw [hqn]
      go_wp2_with fail
      refine (HMY.out _ HB0.out).mono ?_
      rintro e w3 ⟨rfl, hb3⟩
      rw [hqm]
      have HB3 := Lib.hid (HB0.out.trans (hb3.out.mono HB0.out.size))
      have HX3 := Lib.hid (HX0.out.below hb3.out HX0.out.lt)
      have x0 : w3.cell? ⟨w.heap.size, 0, none⟩ = some (.int .i64 1) := HX3.out.cell 0
      have x1 : w3.cell? ⟨w.heap.size, 1, none⟩ = some (.string tn) := HX3.out.cell 1
      have x2 : w3.cell? ⟨w.heap.size, 2, none⟩ = some (.slice A' n' c') := HX3.out.cell 2
      have x3 : w3.cell? ⟨w.heap.size, 3, none⟩ = some (.int .i64 K') := HX3.out.cell 3
      clear hb3 HX0 HB0
      go_wp2_with fail
      go_ret2
      exact ⟨_, by rw [HE.out]; rfl, ownT_bad (by rw [HE.out]; omega), HB3⟩
end Go.Proofs.YtiefogofiajmnaaDoor
namespace Go.Proofs.YtiefogofiajmnaaDoor
open Go.RowKit Dg
set_option maxRecDepth 100000
theorem clns_nil (B : Nat) (w : World) : Clns B w [] [] := ⟨rfl, fun i h => by simp at h⟩
theorem Clns.down {B B' : Nat} {w : World} {T T' : List Tb} (h : Clns B w T T') (hb : B' ≤ B) : Clns B' w T T' := ⟨h.1, fun i h1 h2 => ⟨(h.2 i h1 h2).td, ownC_down (h.2 i h1 h2).own hb⟩⟩
theorem clns_bad {B : Nat} {w : World} {T : List Tb} {tn : ByteArray} {A' : Option Addr} {n' c' : Nat} {L' : List Cl} {K' : Int} (h : fcE T tn L' K' ≠ 0) : Hid (Clns B w (fcT T tn A' n' c' L' K') []) := by
  show Clns _ _ _ _
  rw [fcT_bad h]; exact clns_nil _ _
theorem may_few {L : List Cl} {K : Int} (h : smayF L K = true) : L.length ≤ 16 := by
  apply Decidable.byContradiction
  intro hc
  rw [smayF_no (by omega)] at h; cases h
theorem trow_one (w : World) (x : Tb) : TRow (w.alloc (.cells #[.string x.nm, .slice x.A x.n x.c, .int .i64 x.K] 30)) (some ⟨w.heap.size, 0, none⟩) [x] := TRow.one w x
set_option maxHeartbeats 4000000 in
theorem pcreate_any (A : Option Addr) (T : List Tb) (n c : Nat) (ck : Int) (tn : ByteArray) (A' : Option Addr) (n' c' : Nat) (L' : List Cl) (K' : Int) (cn : ByteArray) (kd : Int) (no : Bool) (w : World) (hn : T.length = n) (hnc : n ≤ c) (hcm : c ≤ maxLen) (hl : n ≤ 900) (hA : TRow w A T) (hA0 : A = none → c = 0) (hI : TOks w T)
    (hn' : L'.length = n') (hnc' : n' ≤ c') (hcm' : c' ≤ maxLen) (hA' : CRow w A' L') (hA0' : A' = none → c' = 0) (htn : tn.size ≤ 140737488355328) (hf : ∀ y ∈ L', y.fit) :
    Calls Tryd.prog 34 #[.slice A n c, .agg #[.int .i64 ck, .string tn, .slice A' n' c', .int .i64 K', .string cn, .int .i64 kd, .bool no], .int .i64 (lbN T tn : Nat), .bool (plF T tn)] w fun e w' => ∃ v T', e = .returned (.tuple #[v, .int .i64 (fcE T tn L' K')]) ∧ Hid (OwnT w.heap.size w' v T') ∧ Hid (Clns w.heap.size w' (fcT T tn A' n' c' L' K') T') ∧ Hid (Below w.heap.size w w') := by
  have HB0 := Lib.hid ((Below.refl w.heap.size w).alloc (Nat.le_refl _) (.cells #[.int .i64 ck, .string tn, .slice A' n' c', .int .i64 K', .string cn, .int .i64 kd, .bool no] 40))
  have HX0 := Lib.hid (Has.new w 40 #[.int .i64 ck, .string tn, .slice A' n' c', .int .i64 K', .string cn, .int .i64 kd, .bool no])
  have HMY := Lib.hid (fun (W : World) (hb : Below w.heap.size w W) => smay_all A' L' n' c' K' W hn' (hA'.below hb) hf)
  have HNM := Lib.hid (fun (W : World) => name_any tn W htn)
  have HPT := Lib.hid (fun (W : World) (hb : Below w.heap.size w W) (hq : smayF L' K' = true) => putT_any A T n c (lbN T tn) (lbN T tn) (some ⟨W.heap.size, 0, none⟩) [⟨tn, A', n', c', L', K'⟩] 1 1 (W.alloc (.cells #[.string tn, .slice A' n' c', .int .i64 K'] 30)) hn hnc hcm (Nat.le_refl _) (by rw [← hn]; exact lb_le T tn) hl (hA.below (hb.alloc hb.size _)) hA0 (hI.below (hb.alloc hb.size _)) rfl (Nat.le_refl _) (trow_one W ⟨tn, A', n', c', L', K'⟩) (fun e => by cases e) (fun x hx => by
    obtain rfl := List.mem_singleton.1 hx
    have h16 := may_few hq
    exact ⟨hn', hnc', hcm', hA'.below (hb.alloc hb.size _), hA0', by show n' ≤ 900; omega⟩))
  have HN := Lib.hid hn
  have e1 := @fcE_name T tn L' K'
  have e2 := @fcE_there T tn L' K'
  have e3 := @fcE_may T tn L' K'
  have e4 := @fcE_many T tn L' K'
  have e5 := @fcE_ok T tn L' K'
  rw [hn] at e4 e5
  have HLE : Hid (lbN T tn ≤ n) := by show _ ≤ _; rw [← hn]; exact lb_le T tn
  clear hn hA hA' hn' hI hf htn hA0'
  obtain ⟨k, hk⟩ : ∃ k, lbN T tn = k := ⟨_, rfl⟩
  obtain ⟨qm, hqm⟩ : ∃ q, smayF L' K' = q := ⟨_, rfl⟩
  rw [hk] at HPT HLE ⊢
  rcases hqn : nameF tn with _ | _
  · have HE := Lib.hid (e1 hqn)
    clear e1 e2 e3 e4 e5
    go_enter Tryd.func34, Tryd.ntmps34
    go_wp2_with fail
    refine (HNM.out _).mono ?_
    rintro e w1 ⟨rfl, hb1⟩
    rw [hqn]
    have HB1 := Lib.hid (HB0.out.trans (hb1.out.mono HB0.out.size))
    have HX1 := Lib.hid (HX0.out.below hb1.out HX0.out.lt)
    have x1 : w1.cell? ⟨w.heap.size, 1, none⟩ = some (.string tn) := HX1.out.cell 1
    have x2 : w1.cell? ⟨w.heap.size, 2, none⟩ = some (.slice A' n' c') := HX1.out.cell 2
    have x3 : w1.cell? ⟨w.heap.size, 3, none⟩ = some (.int .i64 K') := HX1.out.cell 3
    clear hb1 HX0 HB0
    go_wp2_with fail
    go_ret2
    exact ⟨_, [], by rw [HE.out]; rfl, ownT_nil _ _, clns_bad (by rw [HE.out]; omega), HB1⟩
  · rcases hp : plF T tn with _ | _
    · cases qm
      · have HE := Lib.hid (e3 hqn hp hqm)
        clear e1 e2 e3 e4 e5
        go_enter Tryd.func34, Tryd.ntmps34
        go_wp2_with fail
        refine (HNM.out _).mono ?_
        rintro e w1 ⟨rfl, hb1⟩
        rw [hqn]
        have HB1 := Lib.hid (HB0.out.trans (hb1.out.mono HB0.out.size))
        have HX1 := Lib.hid (HX0.out.below hb1.out HX0.out.lt)
        have x1 : w1.cell? ⟨w.heap.size, 1, none⟩ = some (.string tn) := HX1.out.cell 1
        have x2 : w1.cell? ⟨w.heap.size, 2, none⟩ = some (.slice A' n' c') := HX1.out.cell 2
        have x3 : w1.cell? ⟨w.heap.size, 3, none⟩ = some (.int .i64 K') := HX1.out.cell 3
        clear hb1 HX0 HB0
        go_wp2_with fail
        refine (HMY.out _ HB1.out).mono ?_
        rintro e w3 ⟨rfl, hb3⟩
        rw [hqm]
        have HB3 := Lib.hid (HB1.out.trans (hb3.out.mono HB1.out.size))
        have HX3 := Lib.hid (HX1.out.below hb3.out HX1.out.lt)
        have y1 : w3.cell? ⟨w.heap.size, 1, none⟩ = some (.string tn) := HX3.out.cell 1
        have y2 : w3.cell? ⟨w.heap.size, 2, none⟩ = some (.slice A' n' c') := HX3.out.cell 2
        have y3 : w3.cell? ⟨w.heap.size, 3, none⟩ = some (.int .i64 K') := HX3.out.cell 3
        clear hb3 HX1 HB1 x1 x2 x3
        go_wp2_with fail
        go_ret2
        exact ⟨_, [], by rw [HE.out]; rfl, ownT_nil _ _, clns_bad (by rw [HE.out]; omega), HB3⟩
      · by_cases h64 : 64 ≤ n
        · have HE := Lib.hid (e4 hqn hp hqm h64)
          have h64z : (64 : Int) ≤ (n : Int) := by omega
          clear e1 e2 e3 e4 e5
          go_enter Tryd.func34, Tryd.ntmps34
          go_wp2_with fail
          refine (HNM.out _).mono ?_
          rintro e w1 ⟨rfl, hb1⟩
          rw [hqn]
          have HB1 := Lib.hid (HB0.out.trans (hb1.out.mono HB0.out.size))
          have HX1 := Lib.hid (HX0.out.below hb1.out HX0.out.lt)
          have x1 : w1.cell? ⟨w.heap.size, 1, none⟩ = some (.string tn) := HX1.out.cell 1
          have x2 : w1.cell? ⟨w.heap.size, 2, none⟩ = some (.slice A' n' c') := HX1.out.cell 2
          have x3 : w1.cell? ⟨w.heap.size, 3, none⟩ = some (.int .i64 K') := HX1.out.cell 3
          clear hb1 HX0 HB0
          go_wp2_with fail
          refine (HMY.out _ HB1.out).mono ?_
          rintro e w3 ⟨rfl, hb3⟩
          rw [hqm]
          have HB3 := Lib.hid (HB1.out.trans (hb3.out.mono HB1.out.size))
          have HX3 := Lib.hid (HX1.out.below hb3.out HX1.out.lt)
          have y1 : w3.cell? ⟨w.heap.size, 1, none⟩ = some (.string tn) := HX3.out.cell 1
          have y2 : w3.cell? ⟨w.heap.size, 2, none⟩ = some (.slice A' n' c') := HX3.out.cell 2
          have y3 : w3.cell? ⟨w.heap.size, 3, none⟩ = some (.int .i64 K') := HX3.out.cell 3
          clear hb3 HX1 HB1 x1 x2 x3
          go_wp2_with fail
          go_ret2
          exact ⟨_, [], by rw [HE.out]; rfl, ownT_nil _ _, clns_bad (by rw [HE.out]; omega), HB3⟩
        · have HE := Lib.hid (e5 hqn hp hqm (by omega))
          have h64z : ¬ (64 : Int) ≤ (n : Int) := by omega
          clear e1 e2 e3 e4 e5
          go_enter Tryd.func34, Tryd.ntmps34
          go_wp2_with fail
          refine (HNM.out _).mono ?_
          rintro e w1 ⟨rfl, hb1⟩
          rw [hqn]
          have HB1 := Lib.hid (HB0.out.trans (hb1.out.mono HB0.out.size))
          have HX1 := Lib.hid (HX0.out.below hb1.out HX0.out.lt)
          have x1 : w1.cell? ⟨w.heap.size, 1, none⟩ = some (.string tn) := HX1.out.cell 1
          have x2 : w1.cell? ⟨w.heap.size, 2, none⟩ = some (.slice A' n' c') := HX1.out.cell 2
          have x3 : w1.cell? ⟨w.heap.size, 3, none⟩ = some (.int .i64 K') := HX1.out.cell 3
          clear hb1 HX0 HB0
          go_wp2_with fail
          refine (HMY.out _ HB1.out).mono ?_
          rintro e w3 ⟨rfl, hb3⟩
          rw [hqm]
          have HB3 := Lib.hid (HB1.out.trans (hb3.out.mono HB1.out.size))
          have HX3 := Lib.hid (HX1.out.below hb3.out HX1.out.lt)
          have y1 : w3.cell? ⟨w.heap.size, 1, none⟩ = some (.string tn) := HX3.out.cell 1
          have y2 : w3.cell? ⟨w.heap.size, 2, none⟩ = some (.slice A' n' c') := HX3.out.cell 2
          have y3 : w3.cell? ⟨w.heap.size, 3, none⟩ = some (.int .i64 K') := HX3.out.cell 3
          clear hb3 HX1 HB1 x1 x2 x3
          have HPP := Lib.hid (HPT.out w3 HB3.out hqm)
          have HFT := Lib.hid (fcT_ok (T := T) (tn := tn) (A' := A') (n' := n') (c' := c') (L' := L') (K' := K') HE.out)
          rw [hk] at HFT
          have hal : Below w3.heap.size w3 (w3.alloc (.cells #[.string tn, .slice A' n' c', .int .i64 K'] 30)) := (Below.refl _ w3).alloc (Nat.le_refl _) _
          have HBa := Lib.hid (HB3.out.trans (hal.mono HB3.out.size))
          clear HPT HMY HNM hal
          go_wp2_with fail
          refine HPP.out.mono ?_
          rintro e w5 ⟨v5, T5, rfl, ho5, hc5, hb5⟩
          have HB5 := Lib.hid (HBa.out.trans (hb5.out.mono HBa.out.size))
          obtain ⟨A7, n7, c7, rfl, _, _, _, _, _⟩ := ownT_open ho5.out
          have HO5 := Lib.hid (ownT_down ho5.out HBa.out.size)
          have HC5 := Lib.hid (hc5.out.down HBa.out.size)
          clear ho5 hc5 hb5 HPP
          go_wp2_with fail
          go_ret2
          exact ⟨_, T5, by rw [HE.out]; rfl, HO5, by rw [HFT.out]; exact HC5, HB5⟩
    · have HE := Lib.hid (e2 hqn hp)
      clear e1 e2 e3 e4 e5
      go_enter Tryd.func34, Tryd.ntmps34
      go_wp2_with fail
      refine (HNM.out _).mono ?_
      rintro e w1 ⟨rfl, hb1⟩
      rw [hqn]
      have HB1 := Lib.hid (HB0.out.trans (hb1.out.mono HB0.out.size))
      have HX1 := Lib.hid (HX0.out.below hb1.out HX0.out.lt)
      have x1 : w1.cell? ⟨w.heap.size, 1, none⟩ = some (.string tn) := HX1.out.cell 1
      have x2 : w1.cell? ⟨w.heap.size, 2, none⟩ = some (.slice A' n' c') := HX1.out.cell 2
      have x3 : w1.cell? ⟨w.heap.size, 3, none⟩ = some (.int .i64 K') := HX1.out.cell 3
      clear hb1 HX0 HB0
      go_wp2_with fail
      go_ret2
      exact ⟨_, [], by rw [HE.out]; rfl, ownT_nil _ _, clns_bad (by rw [HE.out]; omega), HB1⟩
end Go.Proofs.YtiefogofiajmnaaDoor
namespace Go.Proofs.YtiefogofiajmnaaDoor
open Go.RowKit Dg
set_option maxRecDepth 100000
/-- Tables that lie in memory of the call's own, with all their columns. -/
structure OwnTs (B : Nat) (w : World) (v : Value) (T : List Tb) : Prop where
  own : OwnT B w v T
  col : ∀ x ∈ T, OwnC B w (.slice x.A x.n x.c) x.L
theorem Clns.cols {B : Nat} {w : World} {T T' : List Tb} (h : Clns B w T T') : ∀ y ∈ T', OwnC B w (.slice y.A y.n y.c) y.L := fun y hy => by
  obtain ⟨i, hi, rfl⟩ := List.getElem_of_mem hy
  exact (h.2 i (by rw [← h.1]; exact hi) hi).own
theorem ownTs_nil (B : Nat) (w : World) : OwnTs B w (.slice none 0 0) [] := ⟨ownT_nil _ _, fun _ h => by cases h⟩
theorem OwnTs.below {B : Nat} {w w' : World} {v : Value} {T : List Tb} (h : OwnTs B w v T) (hb : Below w.heap.size w w') : OwnTs B w' v T := ⟨h.own.below hb, fun x hx => (h.col x hx).below hb⟩
theorem OwnTs.down {B B' : Nat} {w : World} {v : Value} {T : List Tb} (h : OwnTs B w v T) (hb : B' ≤ B) : OwnTs B' w v T := ⟨ownT_down h.own hb, fun x hx => ownC_down (h.col x hx) hb⟩
theorem OwnTs.oks {B : Nat} {w : World} {v : Value} {T : List Tb} (h : OwnTs B w v T) (hl : ∀ x ∈ T, x.L.length ≤ 900) : TOks w T := fun x hx => Cln.ok (B := B) (x := x) ⟨rfl, h.col x hx⟩ (hl x hx)
theorem fcT_td {T : List Tb} {tn : ByteArray} {A' : Option Addr} {n' c' : Nat} {L' : List Cl} {K' : Int} {cn : ByteArray} {kd : Int} {no : Bool} : tds (fcT T tn A' n' c' L' K') = foD T 1 tn L' K' cn kd no := by
  by_cases h : fcE T tn L' K' = 0
  · rw [fcT_ok h, tds_ins, foD_c h]; rfl
  · rw [fcT_bad h, foD_bad (by rw [foE_c]; exact h)]; rfl
theorem apply_len {L : List Cl} {K ck : Int} {cn : ByteArray} {kd : Int} {no : Bool} (h : L.length ≤ 800) : (applyL L (doesF L K ck cn kd no) cn kd).length ≤ 900 := by
  have ho := doesF_ok L K ck cn kd no
  unfold applyL
  split
  · next he =>
    obtain ⟨h1, h2, h3⟩ := ho he
    simp
    omega
  · simp
theorem hid_a1 {w W : World} (h : Hid (Below w.heap.size w W)) (o : Obj) : Hid (Below w.heap.size w (W.alloc o)) := h.out.alloc h.out.size o
theorem hid_c1 {w W : World} (h : Hid (Below w.heap.size w W)) {g i : Nat} (hg : w.heap.size ≤ g) (u : Value) : Hid (Below w.heap.size w (W.setCell ⟨g, i, none⟩ u)) := h.out.setCell hg u
theorem hid_c2 {w W : World} (h : Hid (Below w.heap.size w W)) {g : Nat} (hg : w.heap.size ≤ g) (u u' : Value) : Hid (Below w.heap.size w ((W.setCell ⟨g, 0, none⟩ u).setCell ⟨g, 1, none⟩ u')) := (h.out.setCell hg u).setCell hg u'
set_option maxHeartbeats 4000000 in
theorem pfollow_any (A : Option Addr) (T : List Tb) (n c : Nat) (ck : Int) (tn : ByteArray) (A' : Option Addr) (n' c' : Nat) (L' : List Cl) (K' : Int) (cn : ByteArray) (kd : Int) (no : Bool) (w : World) (hn : T.length = n) (hnc : n ≤ c) (hcm : c ≤ maxLen) (hl : n ≤ 900) (hA : TRow w A T) (hA0 : A = none → c = 0) (hI : TOks w T) (hS : SortT T) (hsm : ∀ x ∈ T, 0 < x.L.length ∧ x.L.length ≤ 800)
    (hn' : L'.length = n') (hnc' : n' ≤ c') (hcm' : c' ≤ maxLen) (hA' : CRow w A' L') (hA0' : A' = none → c' = 0) (htn : tn.size ≤ 140737488355328) (hcn : cn.size ≤ 140737488355328) (hf : ∀ y ∈ L', y.fit) :
    Calls Tryd.prog 18 #[.slice A n c, .agg #[.int .i64 ck, .string tn, .slice A' n' c', .int .i64 K', .string cn, .int .i64 kd, .bool no]] w fun e w' => ∃ v T', e = .returned (.tuple #[v, .int .i64 (foE T ck tn L' K' cn kd no)]) ∧ Hid (OwnTs w.heap.size w' v T') ∧ Hid (tds T' = foD T ck tn L' K' cn kd no) ∧ Hid (Below w.heap.size w w') := by
  have HB0 := Lib.hid ((Below.refl w.heap.size w).alloc (Nat.le_refl _) (.cells #[.int .i64 ck, .string tn, .slice A' n' c', .int .i64 K', .string cn, .int .i64 kd, .bool no] 40))
  have HX0 := Lib.hid (Has.new w 40 #[.int .i64 ck, .string tn, .slice A' n' c', .int .i64 K', .string cn, .int .i64 kd, .bool no])
  have HPL := Lib.hid (fun (W : World) (hb : Below w.heap.size w W) => place_any A T n c tn W hn (by omega) (hA.below hb) hS)
  have HCR := Lib.hid (fun (W : World) (hb : Below w.heap.size w W) => pcreate_any A T n c ck tn A' n' c' L' K' cn kd no W hn hnc hcm hl (hA.below hb) hA0 (hI.below hb) hn' hnc' hcm' (hA'.below hb) hA0' htn hf)
  have HPD := Lib.hid (fun (W : World) (hb : Below w.heap.size w W) (hk : lbN T tn + 1 ≤ n) => putT_any A T n c (lbN T tn) (lbN T tn + 1) none [] 0 0 W hn hnc hcm (Nat.le_succ _) hk hl (hA.below hb) hA0 (hI.below hb) rfl (by omega) (fun h => absurd rfl h) (fun _ => rfl) (fun x hx => by cases hx))
  have HPA := Lib.hid (fun (W : World) (hb : Below w.heap.size w W) (hk : lbN T tn + 1 ≤ n) (A8 : Option Addr) (n8 c8 : Nat) (L8 : List Cl) (K8 : Int) (ho : OwnC w.heap.size W (.slice A8 n8 c8) L8) (h8 : L8.length ≤ 900) => putT_any A T n c (lbN T tn) (lbN T tn + 1) (some ⟨W.heap.size, 0, none⟩) [⟨tn, A8, n8, c8, L8, K8⟩] 1 1 (W.alloc (.cells #[.string tn, .slice A8 n8 c8, .int .i64 K8] 30)) hn hnc hcm (Nat.le_succ _) hk hl (hA.below (hb.alloc hb.size _)) hA0 (hI.below (hb.alloc hb.size _)) rfl (Nat.le_refl _) (trow_one W ⟨tn, A8, n8, c8, L8, K8⟩) (fun e => by cases e) (fun x hx => by
    obtain rfl := List.mem_singleton.1 hx
    have h := (Cln.ok (B := w.heap.size) (x := ⟨tn, A8, n8, c8, L8, K8⟩) (y := ⟨tn, A8, n8, c8, L8, K8⟩) ⟨rfl, ho⟩ h8)
    exact h.below ((Below.refl _ W).alloc (Nat.le_refl _) _)))
  have HN := Lib.hid hn
  have HA := Lib.hid hA
  have HI := Lib.hid hI
  have HSM := Lib.hid hsm
  clear hn hA hA' hn' hI hf hsm hS hA0' htn
  by_cases h1 : ck = 1
  · subst h1
    go_enter Tryd.func18, Tryd.ntmps18
    go_wp2_with fail
    refine (HPL.out _ HB0.out).mono ?_
    rintro e w1 ⟨rfl, hb1⟩
    have HB1 := Lib.hid (HB0.out.trans (hb1.out.mono HB0.out.size))
    have HX1 := Lib.hid (HX0.out.below hb1.out HX0.out.lt)
    have x0 : w1.cell? ⟨w.heap.size, 0, none⟩ = some (.int .i64 1) := HX1.out.cell 0
    have x1 : w1.cell? ⟨w.heap.size, 1, none⟩ = some (.string tn) := HX1.out.cell 1
    have x2 : w1.cell? ⟨w.heap.size, 2, none⟩ = some (.slice A' n' c') := HX1.out.cell 2
    have x3 : w1.cell? ⟨w.heap.size, 3, none⟩ = some (.int .i64 K') := HX1.out.cell 3
    have x4 : w1.cell? ⟨w.heap.size, 4, none⟩ = some (.string cn) := HX1.out.cell 4
    have x5 : w1.cell? ⟨w.heap.size, 5, none⟩ = some (.int .i64 kd) := HX1.out.cell 5
    have x6 : w1.cell? ⟨w.heap.size, 6, none⟩ = some (.bool no) := HX1.out.cell 6
    clear hb1 HX0 HB0
    go_wp2_with fail
    refine (HCR.out _ HB1.out).mono ?_
    rintro e w2 ⟨v2, T2, rfl, ho2, hc2, hb2⟩
    have HB2 := Lib.hid (HB1.out.trans (hb2.out.mono HB1.out.size))
    obtain ⟨A7, n7, c7, rfl, _, _, _, _, _⟩ := ownT_open ho2.out
    go_wp2_with fail
    go_ret2
    exact ⟨_, T2, by rw [foE_c]; rfl, ⟨ownT_down ho2.out HB1.out.size, fun x hx => ownC_down (hc2.out.cols x hx) HB1.out.size⟩, by show _ = _; rw [hc2.out.td]; exact fcT_td, HB2⟩
  · rcases hp : plF T tn with _ | _
    · go_enter Tryd.func18, Tryd.ntmps18
      go_wp2_with fail
      refine (HPL.out _ HB0.out).mono ?_
      rintro e w1 ⟨rfl, hb1⟩
      have HB1 := Lib.hid (HB0.out.trans (hb1.out.mono HB0.out.size))
      have HX1 := Lib.hid (HX0.out.below hb1.out HX0.out.lt)
      have x0 : w1.cell? ⟨w.heap.size, 0, none⟩ = some (.int .i64 ck) := HX1.out.cell 0
      have x1 : w1.cell? ⟨w.heap.size, 1, none⟩ = some (.string tn) := HX1.out.cell 1
      have x2 : w1.cell? ⟨w.heap.size, 2, none⟩ = some (.slice A' n' c') := HX1.out.cell 2
      have x3 : w1.cell? ⟨w.heap.size, 3, none⟩ = some (.int .i64 K') := HX1.out.cell 3
      have x4 : w1.cell? ⟨w.heap.size, 4, none⟩ = some (.string cn) := HX1.out.cell 4
      have x5 : w1.cell? ⟨w.heap.size, 5, none⟩ = some (.int .i64 kd) := HX1.out.cell 5
      have x6 : w1.cell? ⟨w.heap.size, 6, none⟩ = some (.bool no) := HX1.out.cell 6
      clear hb1 HX0 HB0
      rw [hp]
      have HE := Lib.hid (foE_none (L' := L') (K' := K') (cn := cn) (kd := kd) (no := no) h1 hp)
      go_wp2_with fail
      go_ret2
      exact ⟨_, [], by rw [HE.out]; rfl, ownTs_nil _ _, by show _ = _; rw [foD_bad (by rw [HE.out]; omega)]; rfl, HB1⟩
    · have hkl := plF_lt hp
      have hk1 : lbN T tn + 1 ≤ n := by rw [← HN.out]; omega
      by_cases h2 : ck = 2
      · subst h2
        go_enter Tryd.func18, Tryd.ntmps18
        go_wp2_with fail
        refine (HPL.out _ HB0.out).mono ?_
        rintro e w1 ⟨rfl, hb1⟩
        have HB1 := Lib.hid (HB0.out.trans (hb1.out.mono HB0.out.size))
        have HX1 := Lib.hid (HX0.out.below hb1.out HX0.out.lt)
        have x0 : w1.cell? ⟨w.heap.size, 0, none⟩ = some (.int .i64 2) := HX1.out.cell 0
        have x1 : w1.cell? ⟨w.heap.size, 1, none⟩ = some (.string tn) := HX1.out.cell 1
        have x2 : w1.cell? ⟨w.heap.size, 2, none⟩ = some (.slice A' n' c') := HX1.out.cell 2
        have x3 : w1.cell? ⟨w.heap.size, 3, none⟩ = some (.int .i64 K') := HX1.out.cell 3
        have x4 : w1.cell? ⟨w.heap.size, 4, none⟩ = some (.string cn) := HX1.out.cell 4
        have x5 : w1.cell? ⟨w.heap.size, 5, none⟩ = some (.int .i64 kd) := HX1.out.cell 5
        have x6 : w1.cell? ⟨w.heap.size, 6, none⟩ = some (.bool no) := HX1.out.cell 6
        clear hb1 HX0 HB0
        rw [hp]
        have HPX := Lib.hid (HPD.out w1 HB1.out hk1)
        have HE := Lib.hid (foE_drop (L' := L') (K' := K') (cn := cn) (kd := kd) (no := no) hp)
        have HD := Lib.hid (foD_drop (L' := L') (K' := K') (cn := cn) (kd := kd) (no := no) hp)
        have hcast : ((lbN T tn + 1 : Nat) : Int) = ((lbN T tn : Nat) : Int) + 1 := by omega
        rw [hcast] at HPX
        clear HPD HPA HCR HPL hcast
        go_wp2_with fail
        refine HPX.out.mono ?_
        rintro e w2 ⟨v2, T2, rfl, ho2, hc2, hb2⟩
        have HB2 := Lib.hid (HB1.out.trans (hb2.out.mono HB1.out.size))
        obtain ⟨A7, n7, c7, rfl, _, _, _, _, _⟩ := ownT_open ho2.out
        go_wp2_with fail
        go_ret2
        exact ⟨_, T2, by rw [HE.out]; rfl, ⟨ownT_down ho2.out HB1.out.size, fun x hx => ownC_down (hc2.out.cols x hx) HB1.out.size⟩, by show _ = _; rw [hc2.out.td, HD.out, List.append_nil, tds_del], HB2⟩
      · go_enter Tryd.func18, Tryd.ntmps18
        go_wp2_with fail
        refine (HPL.out _ HB0.out).mono ?_
        rintro e w1 ⟨rfl, hb1⟩
        have HB1 := Lib.hid (HB0.out.trans (hb1.out.mono HB0.out.size))
        have HX1 := Lib.hid (HX0.out.below hb1.out HX0.out.lt)
        have x0 : w1.cell? ⟨w.heap.size, 0, none⟩ = some (.int .i64 ck) := HX1.out.cell 0
        have x1 : w1.cell? ⟨w.heap.size, 1, none⟩ = some (.string tn) := HX1.out.cell 1
        have x2 : w1.cell? ⟨w.heap.size, 2, none⟩ = some (.slice A' n' c') := HX1.out.cell 2
        have x3 : w1.cell? ⟨w.heap.size, 3, none⟩ = some (.int .i64 K') := HX1.out.cell 3
        have x4 : w1.cell? ⟨w.heap.size, 4, none⟩ = some (.string cn) := HX1.out.cell 4
        have x5 : w1.cell? ⟨w.heap.size, 5, none⟩ = some (.int .i64 kd) := HX1.out.cell 5
        have x6 : w1.cell? ⟨w.heap.size, 6, none⟩ = some (.bool no) := HX1.out.cell 6
        clear hb1 HX0 HB0
        rw [hp]
        have HE := Lib.hid (foE_alter (L' := L') (K' := K') (cn := cn) (kd := kd) (no := no) h1 h2 hp hkl)
        have HD := Lib.hid (foD_alter (L' := L') (K' := K') (cn := cn) (kd := kd) (no := no) h1 h2 hp hkl)
        have HBD := Lib.hid (foD_bad (T := T) (ck := ck) (tn := tn) (L' := L') (K' := K') (cn := cn) (kd := kd) (no := no))
        have hx := HI.out T[lbN T tn] (List.getElem_mem hkl)
        have hxs := HSM.out T[lbN T tn] (List.getElem_mem hkl)
        obtain ⟨b, off, rfl, hc⟩ := (HA.out.below HB1.out) (by intro e; rw [e] at hkl; simp at hkl)
        obtain ⟨c0, c1, c2⟩ := hc _ hkl
        have hkz : ((lbN T tn : Nat) : Int) < (n : Int) := by omega
        have HPX := Lib.hid (fun (W : World) hb A8 n8 c8 L8 K8 ho h8 => HPA.out W hb hk1 A8 n8 c8 L8 K8 ho h8)
        have HTD := Lib.hid (tds_ins T)
        obtain ⟨k, hk⟩ : ∃ k, lbN T tn = k := ⟨_, rfl⟩
        have hcast : ((k + 1 : Nat) : Int) = ((k : Nat) : Int) + 1 := by omega
        clear hc HPD HPA HCR HPL c0
        simp only [hk] at HPX HE HD c1 c2 hkz hx hxs ⊢
        rw [hcast] at HPX
        clear hcast
        generalize T[k]'(by rw [← hk]; exact hkl) = x at *
        obtain ⟨xs, xA, xn, xc, xL, xK⟩ := x
        simp only at c1 c2 HE HD hxs
        have hlen : xL.length = xn := hx.len
        have HAP := Lib.hid (fun (W : World) (hb : Below w.heap.size w W) => apply_any xA xL xn xc xK ck tn A' n' c' K' cn kd no W hlen (by omega) hx.few hx.cap hx.max hcn (hx.row.below hb))
        have HLN := Lib.hid (apply_len (L := xL) (K := xK) (ck := ck) (cn := cn) (kd := kd) (no := no) hxs.2)
        have hb0 : Hid (Below w.heap.size w w1.drew) := HB1.out.drew
        have HXd := Lib.hid HX1.out.drew
        have d0 : w1.drew.cell? ⟨w.heap.size, 0, none⟩ = some (.int .i64 ck) := HXd.out.cell 0
        have d1 : w1.drew.cell? ⟨w.heap.size, 1, none⟩ = some (.string tn) := HXd.out.cell 1
        have d2 : w1.drew.cell? ⟨w.heap.size, 2, none⟩ = some (.slice A' n' c') := HXd.out.cell 2
        have d3 : w1.drew.cell? ⟨w.heap.size, 3, none⟩ = some (.int .i64 K') := HXd.out.cell 3
        have d4 : w1.drew.cell? ⟨w.heap.size, 4, none⟩ = some (.string cn) := HXd.out.cell 4
        have d5 : w1.drew.cell? ⟨w.heap.size, 5, none⟩ = some (.int .i64 kd) := HXd.out.cell 5
        have d6 : w1.drew.cell? ⟨w.heap.size, 6, none⟩ = some (.bool no) := HXd.out.cell 6
        have d7 : w1.drew.cell? ⟨b, off + k * 3 + 1, none⟩ = some (.slice xA xn xc) := c1
        have d8 : w1.drew.cell? ⟨b, off + k * 3 + 2, none⟩ = some (.int .i64 xK) := c2
        clear hx hxs HXd
        go_wp2_with fail
        have hal : Below w1.heap.size w1 (w1.alloc (.cells #[.slice none 0 0, .int .i64 0] 28)) := (Below.refl _ w1).alloc (Nat.le_refl _) _
        have hbA : Hid (Below w.heap.size w (w1.alloc (.cells #[.slice none 0 0, .int .i64 0] 28)).drew) := (HB1.out.trans (hal.mono HB1.out.size)).drew
        have f0 : (w1.alloc (.cells #[.slice none 0 0, .int .i64 0] 28)).drew.cell? ⟨w.heap.size, 0, none⟩ = some (.int .i64 ck) := keepC hal.drew x0
        have f1 : (w1.alloc (.cells #[.slice none 0 0, .int .i64 0] 28)).drew.cell? ⟨w.heap.size, 1, none⟩ = some (.string tn) := keepC hal.drew x1
        have f2 : (w1.alloc (.cells #[.slice none 0 0, .int .i64 0] 28)).drew.cell? ⟨w.heap.size, 2, none⟩ = some (.slice A' n' c') := keepC hal.drew x2
        have f3 : (w1.alloc (.cells #[.slice none 0 0, .int .i64 0] 28)).drew.cell? ⟨w.heap.size, 3, none⟩ = some (.int .i64 K') := keepC hal.drew x3
        have f4 : (w1.alloc (.cells #[.slice none 0 0, .int .i64 0] 28)).drew.cell? ⟨w.heap.size, 4, none⟩ = some (.string cn) := keepC hal.drew x4
        have f5 : (w1.alloc (.cells #[.slice none 0 0, .int .i64 0] 28)).drew.cell? ⟨w.heap.size, 5, none⟩ = some (.int .i64 kd) := keepC hal.drew x5
        have f6 : (w1.alloc (.cells #[.slice none 0 0, .int .i64 0] 28)).drew.cell? ⟨w.heap.size, 6, none⟩ = some (.bool no) := keepC hal.drew x6
        have f7 : (w1.alloc (.cells #[.slice none 0 0, .int .i64 0] 28)).drew.cell? ⟨b, off + k * 3 + 1, none⟩ = some (.slice xA xn xc) := keepC hal.drew c1
        have f8 : (w1.alloc (.cells #[.slice none 0 0, .int .i64 0] 28)).drew.cell? ⟨b, off + k * 3 + 2, none⟩ = some (.int .i64 xK) := keepC hal.drew c2
        have HBX := Lib.hid (Has.new w1 28 #[.slice none 0 0, .int .i64 0]).drew
        clear hal
        have hne0 : w1.heap.size ≠ w.heap.size := by have := HX1.out.lt; omega
        have hneb : w1.heap.size ≠ b := by have := World.block_lt_of_cell? _ _ c1; intro e; simp at this; omega
        go_region_held3 (fun X => Hid (Below w.heap.size w X) ∧ X.cell? ⟨w.heap.size, 0, none⟩ = some (.int .i64 ck) ∧ X.cell? ⟨w.heap.size, 1, none⟩ = some (.string tn) ∧ X.cell? ⟨w.heap.size, 2, none⟩ = some (.slice A' n' c') ∧ X.cell? ⟨w.heap.size, 3, none⟩ = some (.int .i64 K') ∧ X.cell? ⟨w.heap.size, 4, none⟩ = some (.string cn) ∧ X.cell? ⟨w.heap.size, 5, none⟩ = some (.int .i64 kd) ∧ X.cell? ⟨w.heap.size, 6, none⟩ = some (.bool no) ∧ X.cell? ⟨b, off + k * 3 + 1, none⟩ = some (.slice xA xn xc) ∧ X.cell? ⟨b, off + k * 3 + 2, none⟩ = some (.int .i64 xK)) (first | (refine ⟨by first | assumption | exact hid_d1 (by assumption) _ | exact hid_a1 (by assumption) _, ?_⟩; go_keep) | exact ⟨hid_c2 (by assumption) HB1.out.size _ _, cell_s2 hne0 (by assumption), cell_s2 hne0 (by assumption), cell_s2 hne0 (by assumption), cell_s2 hne0 (by assumption), cell_s2 hne0 (by assumption), cell_s2 hne0 (by assumption), cell_s2 hne0 (by assumption), cell_s2 hneb (by assumption), cell_s2 hneb (by assumption)⟩)
          (first | (go_at_call 36; (with_reducible refine (HAP.out w1.drew hb0.out).mono ?_); rintro e w2 ⟨v8, rfl, ho8, hb8⟩; obtain ⟨A8, n8, c8, rfl, _, _, _, _, _⟩ := ownC_open ho8.out; have i0 := keepC hb8.out d0; have i1 := keepC hb8.out d1; have i2 := keepC hb8.out d2; have i3 := keepC hb8.out d3; have i4 := keepC hb8.out d4; have i5 := keepC hb8.out d5; have i6 := keepC hb8.out d6; have i7 := keepC hb8.out d7; have i8 := keepC hb8.out d8; have HB2 : Hid (Below w.heap.size w w2) := hb0.out.trans (hb8.out.mono hb0.out.size); have HO8 := Lib.hid (ownC_down ho8.out hb0.out.size); clear ho8 hb8) | (go_at_call 36; (with_reducible refine (HAP.out (w1.alloc (.cells #[.slice none 0 0, .int .i64 0] 28)).drew hbA.out).mono ?_); rintro e w2 ⟨v8, rfl, ho8, hb8⟩; obtain ⟨A8, n8, c8, rfl, _, _, _, _, _⟩ := ownC_open ho8.out; have i0 := keepC hb8.out f0; have i1 := keepC hb8.out f1; have i2 := keepC hb8.out f2; have i3 := keepC hb8.out f3; have i4 := keepC hb8.out f4; have i5 := keepC hb8.out f5; have i6 := keepC hb8.out f6; have i7 := keepC hb8.out f7; have i8 := keepC hb8.out f8; have HB2 : Hid (Below w.heap.size w w2) := hbA.out.trans (hb8.out.mono hbA.out.size); have HO8 := Lib.hid (ownC_down ho8.out hbA.out.size); have HBX2 := Lib.hid (HBX.out.below hb8.out HBX.out.lt); have b0 : w2.cell? ⟨w1.heap.size, 0, none⟩ = some (.slice none 0 0) := HBX2.out.cell 0; have b1 : w2.cell? ⟨w1.heap.size, 1, none⟩ = some (.int .i64 0) := HBX2.out.cell 1; have g0 := HBX2.out.free 0; have g1 := HBX2.out.free 1; have HO9 : Hid (OwnC (w1.heap.size + 1) w2 (.slice A8 n8 c8) (applyL xL (doesF xL xK ck cn kd no) cn kd)) := ownC_down ho8.out (by simp); clear ho8 hb8))
        all_goals
          first
            | (have HBf : Hid (Below w.heap.size w (w2.alloc (.cells #[.slice A8 n8 c8, .int .i64 (applyK xK (doesF xL xK ck cn kd no))] 28))) := HB2.out.alloc HB2.out.size _; have HOf : Hid (OwnC w.heap.size (w2.alloc (.cells #[.slice A8 n8 c8, .int .i64 (applyK xK (doesF xL xK ck cn kd no))] 28)) (.slice A8 n8 c8) (applyL xL (doesF xL xK ck cn kd no) cn kd)) := HO8.out.below ((Below.refl _ w2).alloc (Nat.le_refl _) _); have y1 : (w2.alloc (.cells #[.slice A8 n8 c8, .int .i64 (applyK xK (doesF xL xK ck cn kd no))] 28)).cell? ⟨w.heap.size, 1, none⟩ = some (.string tn) := keepC ((Below.refl _ w2).alloc (Nat.le_refl _) _) i1; obtain ⟨gb, hgb, z0, z1⟩ : ∃ gb, gb = w2.heap.size ∧ (w2.alloc (.cells #[.slice A8 n8 c8, .int .i64 (applyK xK (doesF xL xK ck cn kd no))] 28)).cell? ⟨gb, 0, none⟩ = some (.slice A8 n8 c8) ∧ (w2.alloc (.cells #[.slice A8 n8 c8, .int .i64 (applyK xK (doesF xL xK ck cn kd no))] 28)).cell? ⟨gb, 1, none⟩ = some (.int .i64 (applyK xK (doesF xL xK ck cn kd no))) := ⟨_, rfl, (Has.new w2 28 #[.slice A8 n8 c8, .int .i64 (applyK xK (doesF xL xK ck cn kd no))]).cell 0, (Has.new w2 28 #[.slice A8 n8 c8, .int .i64 (applyK xK (doesF xL xK ck cn kd no))]).cell 1⟩; obtain ⟨wf, hwf⟩ : ∃ wf, (w2.alloc (.cells #[.slice A8 n8 c8, .int .i64 (applyK xK (doesF xL xK ck cn kd no))] 28)) = wf := ⟨_, rfl⟩; rw [hwf] at HBf HOf y1 z0 z1; rw [hwf]; rw [← hgb]; clear hwf hgb)
            | (have HBf : Hid (Below w.heap.size w ((w2.setCell ⟨w1.heap.size, 0, none⟩ (.slice A8 n8 c8)).setCell ⟨w1.heap.size, 1, none⟩ (.int .i64 (applyK xK (doesF xL xK ck cn kd no))))) := hid_c2 HB2 HB1.out.size _ _; have HOf : Hid (OwnC w.heap.size ((w2.setCell ⟨w1.heap.size, 0, none⟩ (.slice A8 n8 c8)).setCell ⟨w1.heap.size, 1, none⟩ (.int .i64 (applyK xK (doesF xL xK ck cn kd no)))) (.slice A8 n8 c8) (applyL xL (doesF xL xK ck cn kd no) cn kd)) := ownC_down ((HO9.out.far (p := ⟨w1.heap.size, 0, none⟩) (Nat.lt_succ_self _) _).far (p := ⟨w1.heap.size, 1, none⟩) (Nat.lt_succ_self _) _) (by have := HB1.out.size; omega); have y1 : ((w2.setCell ⟨w1.heap.size, 0, none⟩ (.slice A8 n8 c8)).setCell ⟨w1.heap.size, 1, none⟩ (.int .i64 (applyK xK (doesF xL xK ck cn kd no)))).cell? ⟨w.heap.size, 1, none⟩ = some (.string tn) := cell_s2 hne0 i1; obtain ⟨gb, hgb, z0, z1⟩ : ∃ gb, gb = w1.heap.size ∧ ((w2.setCell ⟨w1.heap.size, 0, none⟩ (.slice A8 n8 c8)).setCell ⟨w1.heap.size, 1, none⟩ (.int .i64 (applyK xK (doesF xL xK ck cn kd no)))).cell? ⟨gb, 0, none⟩ = some (.slice A8 n8 c8) ∧ ((w2.setCell ⟨w1.heap.size, 0, none⟩ (.slice A8 n8 c8)).setCell ⟨w1.heap.size, 1, none⟩ (.int .i64 (applyK xK (doesF xL xK ck cn kd no)))).cell? ⟨gb, 1, none⟩ = some (.int .i64 (applyK xK (doesF xL xK ck cn kd no))) := ⟨_, rfl, ((HBX2.out.put 0 (.slice A8 n8 c8)).put 1 (.int .i64 (applyK xK (doesF xL xK ck cn kd no)))).cell 0, ((HBX2.out.put 0 (.slice A8 n8 c8)).put 1 (.int .i64 (applyK xK (doesF xL xK ck cn kd no)))).cell 1⟩; obtain ⟨wf, hwf⟩ : ∃ wf, ((w2.setCell ⟨w1.heap.size, 0, none⟩ (.slice A8 n8 c8)).setCell ⟨w1.heap.size, 1, none⟩ (.int .i64 (applyK xK (doesF xL xK ck cn kd no)))) = wf := ⟨_, rfl⟩; rw [hwf] at HBf HOf y1 z0 z1; rw [hwf]; rw [← hgb]; clear hwf hgb)
          have HO8 := HOf
          have HB2 := HBf
          clear HOf HBf
          obtain ⟨KA, hKA⟩ : ∃ q, applyK xK (doesF xL xK ck cn kd no) = q := ⟨_, rfl⟩
          obtain ⟨LA, hLA⟩ : ∃ q, applyL xL (doesF xL xK ck cn kd no) cn kd = q := ⟨_, rfl⟩
          rw [hLA] at HLN HO8 HD
          rw [hKA] at HD z1 ⊢
          clear hKA hLA
          obtain ⟨ee, hee⟩ : ∃ q, (doesF xL xK ck cn kd no).e = q := ⟨_, rfl⟩
          rw [hee] at HE HD ⊢
          by_cases he : ee = 0
          · subst he
            have HD2 := Lib.hid (HD.out rfl)
            have HP2 := Lib.hid (HPX.out wf HB2.out A8 n8 c8 LA KA HO8.out HLN.out)
            have hal : Below wf.heap.size wf (wf.alloc (.cells #[.string tn, .slice A8 n8 c8, .int .i64 KA] 30)) := (Below.refl _ wf).alloc (Nat.le_refl _) _
            have HBa := Lib.hid (HB2.out.trans (hal.mono HB2.out.size))
            clear HPX HBD hal HD
            go_wp2_with fail
            refine HP2.out.mono ?_
            rintro e w5 ⟨v5, T5, rfl, ho5, hc5, hb5⟩
            have HB5 := Lib.hid (HBa.out.trans (hb5.out.mono HBa.out.size))
            obtain ⟨A7, n7, c7, rfl, _, _, _, _, _⟩ := ownT_open ho5.out
            have HO5 := Lib.hid (ownT_down ho5.out HBa.out.size)
            have HC5 := Lib.hid (hc5.out.down HBa.out.size)
            clear ho5 hc5 hb5 HP2
            go_wp2_with fail
            go_ret2
            exact ⟨_, T5, by rw [HE.out]; rfl, ⟨HO5.out, HC5.out.cols⟩, by show _ = _; rw [HC5.out.td, HD2.out, HTD.out]; rfl, HB5⟩
          · have HB0 := Lib.hid (HBD.out (by rw [HE.out]; exact he))
            go_wp2_with fail
            go_ret2
            exact ⟨_, [], by rw [HE.out]; rfl, ownTs_nil _ _, by show _ = _; rw [HB0.out]; rfl, HB2⟩
end Go.Proofs.YtiefogofiajmnaaDoor
