/-
  The document's tree: Put of a new key, Cut.
-/
import Derived.Test.YtmapclocbhkpbaaRTc
namespace Go.Proofs.Ytmapclocbhkpbaa
open Go.RowKit Go.Maps Dg
set_option linter.unusedVariables false
theorem OwnS.addr {B : Nat} {w : World} {A : Option Addr} {n c : Nat} {L : List ByteArray} (h : OwnS B w (.slice A n c) L) (hc : 0 < c) : ∃ b off, A = some ⟨b, off, none⟩ := by
  rcases h.2 with ⟨h2, _⟩ | ⟨g, cap, cur, e, _⟩
  · injection h2 with e1 e2 e3; omega
  · injection e with e1 e2 e3; exact ⟨g, 0, e1⟩
theorem OwnI.addr {B : Nat} {w : World} {A : Option Addr} {n c : Nat} {L : List Int} (h : OwnI B w (.slice A n c) L) (hc : 0 < c) : ∃ b off, A = some ⟨b, off, none⟩ := by
  rcases h.2 with ⟨h2, _⟩ | ⟨g, cap, cur, e, _⟩
  · injection h2 with e1 e2 e3; omega
  · injection e with e1 e2 e3; exact ⟨g, 0, e1⟩
set_option maxHeartbeats 8000000 in
set_option maxRecDepth 100000 in
theorem rput_new {B rb : Nat} {X : List Nat} {w : World} {C : List (ByteArray × Int)} (h : RfAt B rb X w C) (hz : C.length ≤ 90000) (key : ByteArray) (v : Int) (hh : hadL key C = false) :
    Calls Try.prog 18 #[.pointer (some ⟨rb, 0, none⟩), .string key, .int .i64 v] w fun e w' => e = .returned (.bool false) ∧ ∃ X', RfAt B rb X' w' (putL key v C) ∧ Tur X w w' ∧ Fre X X' w := by
  have HAT := Lib.hid (at_any h key)
  rw [hh] at HAT
  obtain ⟨p, hp⟩ : ∃ p, p = posL key C := ⟨_, rfl⟩
  have hC := put_new (v := v) h.ris hh
  have hRR : Rises (putL key v C) := putL_rises h.ris
  rw [← hp] at HAT hC
  have hpn : p ≤ C.length := by rw [hp]; exact posL_le key C
  clear hp
  obtain ⟨A, n, c, A2, c2, h1, hn, hnc, hcm, hnc2, hcm2, hr, hr2, hz1, hz2, hk, hv, hX⟩ := h.rows
  rw [hn] at hpn
  have hg2 : ∀ a, A2 = some a → a.block ≠ rb := fun a ha => by
    obtain ⟨_, x1⟩ := hv.has (g := a.block) (by rw [ha]; rfl)
    exact x1.ne h1 (by decide)
  have hXm : rb ∈ X := by rw [hX]; simp
  have d0 : w.drew.cell? ⟨rb, 0, none⟩ = some (.slice A n c) := h1.cell 0
  have d1 : w.drew.cell? ⟨rb, 1, none⟩ = some (.slice A2 n c2) := h1.cell 1
  have hcI : (c : Int) ≤ 9223372036854775807 := by unfold maxLen at hcm; omega
  have hc2I : (c2 : Int) ≤ 9223372036854775807 := by unfold maxLen at hcm2; omega
  have hp0 : (0 : Int) ≤ (p : Int) := Int.natCast_nonneg _
  have hpnI : (p : Int) ≤ (n : Int) := by omega
  have hpc0 : (p : Int) ≤ (c : Int) := by omega
  have hpc02 : (p : Int) ≤ (c2 : Int) := by omega
  have hpc : (p : Int) ≤ (c : Int) := by omega
  have hpc2 : (p : Int) ≤ (c2 : Int) := by omega
  by_cases k5 : c = p
  · by_cases k6 : c2 = p
    · obtain rfl : n = p := by omega
      obtain rfl : n = c := by omega
      obtain rfl : n = c2 := by omega
      clear k5 k6
      obtain ⟨a1, m1, d1, w1, a2, m2, d2, w2, a3, m3, d3, w3, a4, m4, d4, w4, a5, m5, d5, w5, a6, m6, d6, w6, r1, r2, r3, r4, r5, r6, e1, e2, e3, f3, e4, e5, f5, hfin⟩ := put_chain h hz key v n h1 hn (by omega) hr hr2 hz1 hz2 hnc hnc2 hg2 (A5 := A) (n5 := 0) (c5 := 0) (A6 := A2) (n6 := 0) (c6 := 0) (by rw [List.length_drop, List.length_map, hn] <;> omega) (by rw [List.drop_of_length_le (by rw [List.length_map]; omega)]; exact RdS.nil _ _) (fun _ => ⟨rfl, rfl⟩) (by rw [List.length_drop, List.length_map, hn] <;> omega) (by rw [List.drop_of_length_le (by rw [List.length_map]; omega)]; exact RdI.nil _ _) (fun _ => ⟨rfl, rfl⟩) hg2 hXm hC hRR
      have HR1 := Lib.hid r1
      have HR2 := Lib.hid r2
      have HR3 := Lib.hid r3
      have HR4 := Lib.hid r4
      have HR5 := Lib.hid r5
      have HR6 := Lib.hid r6
      have HFIN := Lib.hid hfin
      clear r1 r2 r3 r4 r5 r6 hfin h h1 hr hr2 hk hv hX hn hh hC hRR hg2 hXm hz1 hz2
      go_enter Try.func18, Try.ntmps18
      go_wp2_with fail
      refine HAT.out.mono ?_
      rintro e w0 ⟨rfl, rfl⟩
      go_wp2_with (first
        | (at_builtin; refine wpList_app rfl _ _ 26 26 rfl (.slice none 0 0) (.slice A n n) rfl rfl ?_; refine ⟨.slice a1 m1 d1, w1, HR1.out, ?_⟩)
        | (at_builtin; refine wpList_app rfl _ _ 26 26 rfl (.slice a1 m1 d1) (.slice (some ⟨w1.heap.size, 0, none⟩) 1 1) rfl rfl ?_; refine ⟨.slice a2 m2 d2, w2, HR2.out, ?_⟩)
        | (at_builtin; refine wpList_app rfl _ _ 27 27 rfl (.slice none 0 0) (.slice A2 n n) rfl rfl ?_; refine ⟨.slice a3 m3 d3, w3, HR3.out, ?_⟩)
        | (at_builtin; refine wpList_app rfl _ _ 27 27 rfl (.slice a3 m3 d3) (.slice (some ⟨w3.heap.size, 0, none⟩) 1 1) rfl rfl ?_; refine ⟨.slice a4 m4 d4, w4, HR4.out, ?_⟩)
        | (at_builtin; refine wpList_app rfl _ _ 26 26 rfl (.slice a2 m2 d2) (.slice (A) 0 0) rfl rfl ?_; refine ⟨.slice a5 m5 d5, w5, HR5.out, ?_⟩)
        | (at_builtin; refine wpList_app rfl _ _ 27 27 rfl (.slice a4 m4 d4) (.slice (A2) 0 0) rfl rfl ?_; refine ⟨.slice a6 m6 d6, w6, HR6.out, ?_⟩))
      go_ret
      exact ⟨rfl, HFIN.out⟩
    · obtain rfl : n = p := by omega
      obtain rfl : n = c := by omega
      obtain ⟨b6, o6, rfl⟩ := hv.addr (by omega)
      have kI6 : ¬ (c2 : Int) = (n : Int) := by omega
      clear k5 k6
      obtain ⟨a1, m1, d1, w1, a2, m2, d2, w2, a3, m3, d3, w3, a4, m4, d4, w4, a5, m5, d5, w5, a6, m6, d6, w6, r1, r2, r3, r4, r5, r6, e1, e2, e3, f3, e4, e5, f5, hfin⟩ := put_chain h hz key v n h1 hn (by omega) hr hr2 hz1 hz2 hnc hnc2 hg2 (A5 := A) (n5 := 0) (c5 := 0) (A6 := some ⟨b6, o6 + n, none⟩) (n6 := 0) (c6 := (c2 - n)) (by rw [List.length_drop, List.length_map, hn] <;> omega) (by rw [List.drop_of_length_le (by rw [List.length_map]; omega)]; exact RdS.nil _ _) (fun _ => ⟨rfl, rfl⟩) (by rw [List.length_drop, List.length_map, hn] <;> omega) (by exact hr2.drop _) (fun e => by cases e) (fun a ha => by cases ha; exact hg2 ⟨b6, o6, none⟩ rfl) hXm hC hRR
      have HR1 := Lib.hid r1
      have HR2 := Lib.hid r2
      have HR3 := Lib.hid r3
      have HR4 := Lib.hid r4
      have HR5 := Lib.hid r5
      have HR6 := Lib.hid r6
      have HFIN := Lib.hid hfin
      clear r1 r2 r3 r4 r5 r6 hfin h h1 hr hr2 hk hv hX hn hh hC hRR hg2 hXm hz1 hz2
      go_enter Try.func18, Try.ntmps18
      go_wp2_with fail
      refine HAT.out.mono ?_
      rintro e w0 ⟨rfl, rfl⟩
      go_wp2_with (first
        | (at_builtin; refine wpList_app rfl _ _ 26 26 rfl (.slice none 0 0) (.slice A n n) rfl rfl ?_; refine ⟨.slice a1 m1 d1, w1, HR1.out, ?_⟩)
        | (at_builtin; refine wpList_app rfl _ _ 26 26 rfl (.slice a1 m1 d1) (.slice (some ⟨w1.heap.size, 0, none⟩) 1 1) rfl rfl ?_; refine ⟨.slice a2 m2 d2, w2, HR2.out, ?_⟩)
        | (at_builtin; refine wpList_app rfl _ _ 27 27 rfl (.slice none 0 0) (.slice (some ⟨b6, o6, none⟩) n c2) rfl rfl ?_; refine ⟨.slice a3 m3 d3, w3, HR3.out, ?_⟩)
        | (at_builtin; refine wpList_app rfl _ _ 27 27 rfl (.slice a3 m3 d3) (.slice (some ⟨w3.heap.size, 0, none⟩) 1 1) rfl rfl ?_; refine ⟨.slice a4 m4 d4, w4, HR4.out, ?_⟩)
        | (at_builtin; refine wpList_app rfl _ _ 26 26 rfl (.slice a2 m2 d2) (.slice (A) 0 0) rfl rfl ?_; refine ⟨.slice a5 m5 d5, w5, HR5.out, ?_⟩)
        | (at_builtin; refine wpList_app rfl _ _ 27 27 rfl (.slice a4 m4 d4) (.slice (some ⟨b6, o6 + n, none⟩) 0 (c2 - n)) rfl rfl ?_; refine ⟨.slice a6 m6 d6, w6, HR6.out, ?_⟩))
      go_ret
      exact ⟨rfl, HFIN.out⟩
  · by_cases k6 : c2 = p
    · obtain rfl : n = p := by omega
      obtain ⟨b5, o5, rfl⟩ := hk.addr (by omega)
      have kI5 : ¬ (c : Int) = (n : Int) := by omega
      obtain rfl : n = c2 := by omega
      clear k5 k6
      obtain ⟨a1, m1, d1, w1, a2, m2, d2, w2, a3, m3, d3, w3, a4, m4, d4, w4, a5, m5, d5, w5, a6, m6, d6, w6, r1, r2, r3, r4, r5, r6, e1, e2, e3, f3, e4, e5, f5, hfin⟩ := put_chain h hz key v n h1 hn (by omega) hr hr2 hz1 hz2 hnc hnc2 hg2 (A5 := some ⟨b5, o5 + n, none⟩) (n5 := 0) (c5 := (c - n)) (A6 := A2) (n6 := 0) (c6 := 0) (by rw [List.length_drop, List.length_map, hn] <;> omega) (by exact hr.drop _) (fun e => by cases e) (by rw [List.length_drop, List.length_map, hn] <;> omega) (by rw [List.drop_of_length_le (by rw [List.length_map]; omega)]; exact RdI.nil _ _) (fun _ => ⟨rfl, rfl⟩) hg2 hXm hC hRR
      have HR1 := Lib.hid r1
      have HR2 := Lib.hid r2
      have HR3 := Lib.hid r3
      have HR4 := Lib.hid r4
      have HR5 := Lib.hid r5
      have HR6 := Lib.hid r6
      have HFIN := Lib.hid hfin
      clear r1 r2 r3 r4 r5 r6 hfin h h1 hr hr2 hk hv hX hn hh hC hRR hg2 hXm hz1 hz2
      go_enter Try.func18, Try.ntmps18
      go_wp2_with fail
      refine HAT.out.mono ?_
      rintro e w0 ⟨rfl, rfl⟩
      go_wp2_with (first
        | (at_builtin; refine wpList_app rfl _ _ 26 26 rfl (.slice none 0 0) (.slice (some ⟨b5, o5, none⟩) n c) rfl rfl ?_; refine ⟨.slice a1 m1 d1, w1, HR1.out, ?_⟩)
        | (at_builtin; refine wpList_app rfl _ _ 26 26 rfl (.slice a1 m1 d1) (.slice (some ⟨w1.heap.size, 0, none⟩) 1 1) rfl rfl ?_; refine ⟨.slice a2 m2 d2, w2, HR2.out, ?_⟩)
        | (at_builtin; refine wpList_app rfl _ _ 27 27 rfl (.slice none 0 0) (.slice A2 n n) rfl rfl ?_; refine ⟨.slice a3 m3 d3, w3, HR3.out, ?_⟩)
        | (at_builtin; refine wpList_app rfl _ _ 27 27 rfl (.slice a3 m3 d3) (.slice (some ⟨w3.heap.size, 0, none⟩) 1 1) rfl rfl ?_; refine ⟨.slice a4 m4 d4, w4, HR4.out, ?_⟩)
        | (at_builtin; refine wpList_app rfl _ _ 26 26 rfl (.slice a2 m2 d2) (.slice (some ⟨b5, o5 + n, none⟩) 0 (c - n)) rfl rfl ?_; refine ⟨.slice a5 m5 d5, w5, HR5.out, ?_⟩)
        | (at_builtin; refine wpList_app rfl _ _ 27 27 rfl (.slice a4 m4 d4) (.slice (A2) 0 0) rfl rfl ?_; refine ⟨.slice a6 m6 d6, w6, HR6.out, ?_⟩))
      go_ret
      exact ⟨rfl, HFIN.out⟩
    · obtain ⟨b5, o5, rfl⟩ := hk.addr (by omega)
      have kI5 : ¬ (c : Int) = (p : Int) := by omega
      obtain ⟨b6, o6, rfl⟩ := hv.addr (by omega)
      have kI6 : ¬ (c2 : Int) = (p : Int) := by omega
      clear k5 k6
      obtain ⟨a1, m1, d1, w1, a2, m2, d2, w2, a3, m3, d3, w3, a4, m4, d4, w4, a5, m5, d5, w5, a6, m6, d6, w6, r1, r2, r3, r4, r5, r6, e1, e2, e3, f3, e4, e5, f5, hfin⟩ := put_chain h hz key v p h1 hn (by omega) hr hr2 hz1 hz2 hnc hnc2 hg2 (A5 := some ⟨b5, o5 + p, none⟩) (n5 := (n - p)) (c5 := (c - p)) (A6 := some ⟨b6, o6 + p, none⟩) (n6 := (n - p)) (c6 := (c2 - p)) (by rw [List.length_drop, List.length_map, hn] <;> omega) (by exact hr.drop _) (fun e => by cases e) (by rw [List.length_drop, List.length_map, hn] <;> omega) (by exact hr2.drop _) (fun e => by cases e) (fun a ha => by cases ha; exact hg2 ⟨b6, o6, none⟩ rfl) hXm hC hRR
      have HR1 := Lib.hid r1
      have HR2 := Lib.hid r2
      have HR3 := Lib.hid r3
      have HR4 := Lib.hid r4
      have HR5 := Lib.hid r5
      have HR6 := Lib.hid r6
      have HFIN := Lib.hid hfin
      clear r1 r2 r3 r4 r5 r6 hfin h h1 hr hr2 hk hv hX hn hh hC hRR hg2 hXm hz1 hz2
      go_enter Try.func18, Try.ntmps18
      go_wp2_with fail
      refine HAT.out.mono ?_
      rintro e w0 ⟨rfl, rfl⟩
      go_wp2_with (first
        | (at_builtin; refine wpList_app rfl _ _ 26 26 rfl (.slice none 0 0) (.slice (some ⟨b5, o5, none⟩) p c) rfl rfl ?_; refine ⟨.slice a1 m1 d1, w1, HR1.out, ?_⟩)
        | (at_builtin; refine wpList_app rfl _ _ 26 26 rfl (.slice a1 m1 d1) (.slice (some ⟨w1.heap.size, 0, none⟩) 1 1) rfl rfl ?_; refine ⟨.slice a2 m2 d2, w2, HR2.out, ?_⟩)
        | (at_builtin; refine wpList_app rfl _ _ 27 27 rfl (.slice none 0 0) (.slice (some ⟨b6, o6, none⟩) p c2) rfl rfl ?_; refine ⟨.slice a3 m3 d3, w3, HR3.out, ?_⟩)
        | (at_builtin; refine wpList_app rfl _ _ 27 27 rfl (.slice a3 m3 d3) (.slice (some ⟨w3.heap.size, 0, none⟩) 1 1) rfl rfl ?_; refine ⟨.slice a4 m4 d4, w4, HR4.out, ?_⟩)
        | (at_builtin; refine wpList_app rfl _ _ 26 26 rfl (.slice a2 m2 d2) (.slice (some ⟨b5, o5 + p, none⟩) (n - p) (c - p)) rfl rfl ?_; refine ⟨.slice a5 m5 d5, w5, HR5.out, ?_⟩)
        | (at_builtin; refine wpList_app rfl _ _ 27 27 rfl (.slice a4 m4 d4) (.slice (some ⟨b6, o6 + p, none⟩) (n - p) (c2 - p)) rfl rfl ?_; refine ⟨.slice a6 m6 d6, w6, HR6.out, ?_⟩))
      go_ret
      exact ⟨rfl, HFIN.out⟩
set_option maxHeartbeats 8000000 in
set_option maxRecDepth 100000 in
theorem rcut_old {B rb : Nat} {X : List Nat} {w : World} {C : List (ByteArray × Int)} (h : RfAt B rb X w C) (hz : C.length ≤ 90000) (key : ByteArray) (hh : hadL key C = true) :
    Calls Try.prog 20 #[.pointer (some ⟨rb, 0, none⟩), .string key] w fun e w' => e = .returned (.bool true) ∧ ∃ X', RfAt B rb X' w' (cutL key C) ∧ Tur X w w' ∧ Fre X X' w := by
  have HAT := Lib.hid (at_any h key)
  rw [hh] at HAT
  obtain ⟨la, u, lr, hCC, hl, hla, hlr, -⟩ := had_true h.ris hh
  obtain ⟨p, hp⟩ : ∃ p, p = posL key C := ⟨_, rfl⟩
  rw [← hp] at HAT hl
  have hpn1 : p + 1 ≤ C.length := by rw [hCC, List.length_append, List.length_cons, hl]; omega
  have hC : cutL key C = C.take p ++ C.drop (p + 1) := by
    have e1 : C.take p = la := by rw [hCC, ← hl, List.take_left]
    have e2 : C.drop (p + 1) = lr := by
      rw [hCC, ← hl, show la ++ (key, u) :: lr = (la ++ [(key, u)]) ++ lr by simp, List.drop_append_of_le_length (by simp), List.drop_of_length_le (by simp), List.nil_append]
    rw [e1, e2, hCC, cut_old hla hlr]
  have hRR : Rises (cutL key C) := by
    have := h.ris
    rw [hCC] at this
    rw [hCC, cut_old hla hlr]
    obtain ⟨x1, ⟨-, x3⟩, x2⟩ := Rises.app.1 this
    exact Rises.app.2 ⟨x1, x3, fun x hx y hy => x2 x hx y (List.mem_cons_of_mem _ hy)⟩
  have v : Int := 0
  obtain ⟨A, n, c, A2, c2, h1, hn, hnc, hcm, hnc2, hcm2, hr, hr2, hz1, hz2, hk, hv, hX⟩ := h.rows
  rw [hn] at hpn1
  have hpn : p ≤ n := by omega
  clear hCC hla hlr hl hp
  have hg2 : ∀ a, A2 = some a → a.block ≠ rb := fun a ha => by
    obtain ⟨_, x1⟩ := hv.has (g := a.block) (by rw [ha]; rfl)
    exact x1.ne h1 (by decide)
  have hXm : rb ∈ X := by rw [hX]; simp
  have d0 : w.drew.cell? ⟨rb, 0, none⟩ = some (.slice A n c) := h1.cell 0
  have d1 : w.drew.cell? ⟨rb, 1, none⟩ = some (.slice A2 n c2) := h1.cell 1
  have hcI : (c : Int) ≤ 9223372036854775807 := by unfold maxLen at hcm; omega
  have hc2I : (c2 : Int) ≤ 9223372036854775807 := by unfold maxLen at hcm2; omega
  have hp0 : (0 : Int) ≤ (p : Int) := Int.natCast_nonneg _
  have hpnI : (p : Int) + 1 ≤ (n : Int) := by omega
  have hpc0 : (p : Int) ≤ (c : Int) := by omega
  have hpc02 : (p : Int) ≤ (c2 : Int) := by omega
  have hpc : (p : Int) + 1 ≤ (c : Int) := by omega
  have hpc2 : (p : Int) + 1 ≤ (c2 : Int) := by omega
  obtain ⟨q, hqq⟩ : ∃ q, p + 1 = q := ⟨_, rfl⟩
  have hpq : (p : Int) + 1 = (q : Int) := by omega
  have hq0 : (0 : Int) ≤ (q : Int) := by omega
  have hqn : (q : Int) ≤ (n : Int) := by omega
  have hqc : (q : Int) ≤ (c : Int) := by omega
  have hqc2 : (q : Int) ≤ (c2 : Int) := by omega
  clear hpnI hpc hpc2
  by_cases k5 : c = q
  · by_cases k6 : c2 = q
    · obtain rfl : n = q := by omega
      obtain rfl : n = c := by omega
      obtain rfl : n = c2 := by omega
      clear k5 k6
      obtain ⟨a1, m1, d1, w1, a3, m3, d3, w3, a5, m5, d5, w5, a6, m6, d6, w6, r1, r3, r5, r6, e1, e2, e3, f3, e4, e5, f5, hfin⟩ := cut_chain h hz key v p h1 hn (by omega) hr hr2 hz1 hz2 hnc hnc2 hg2 (A5 := A) (n5 := 0) (c5 := 0) (A6 := A2) (n6 := 0) (c6 := 0) (by rw [List.length_drop, List.length_map, hn] <;> omega) (by rw [List.drop_of_length_le (by rw [List.length_map]; omega)]; exact RdS.nil _ _) (fun _ => ⟨rfl, rfl⟩) (by rw [List.length_drop, List.length_map, hn] <;> omega) (by rw [List.drop_of_length_le (by rw [List.length_map]; omega)]; exact RdI.nil _ _) (fun _ => ⟨rfl, rfl⟩) hg2 hXm hC hRR
      have HR1 := Lib.hid r1
      have HR3 := Lib.hid r3
      have HR5 := Lib.hid r5
      have HR6 := Lib.hid r6
      have HFIN := Lib.hid hfin
      clear r1 r3 r5 r6 hfin h h1 hr hr2 hk hv hX hn hh hC hRR hg2 hXm hz1 hz2
      go_enter Try.func20, Try.ntmps20
      go_wp2_with fail
      refine HAT.out.mono ?_
      rintro e w0 ⟨rfl, rfl⟩
      go_wp2_with (first
        | (at_builtin; refine wpList_app rfl _ _ 26 26 rfl (.slice none 0 0) (.slice A p n) rfl rfl ?_; refine ⟨.slice a1 m1 d1, w1, HR1.out, ?_⟩)
        | (at_builtin; refine wpList_app rfl _ _ 27 27 rfl (.slice none 0 0) (.slice A2 p n) rfl rfl ?_; refine ⟨.slice a3 m3 d3, w3, HR3.out, ?_⟩)
        | (at_builtin; refine wpList_app rfl _ _ 26 26 rfl (.slice a1 m1 d1) (.slice (A) 0 0) rfl rfl ?_; refine ⟨.slice a5 m5 d5, w5, HR5.out, ?_⟩)
        | (at_builtin; refine wpList_app rfl _ _ 27 27 rfl (.slice a3 m3 d3) (.slice (A2) 0 0) rfl rfl ?_; refine ⟨.slice a6 m6 d6, w6, HR6.out, ?_⟩))
      go_ret
      exact ⟨rfl, HFIN.out⟩
    · obtain rfl : n = q := by omega
      obtain rfl : n = c := by omega
      obtain ⟨b6, o6, rfl⟩ := hv.addr (by omega)
      have kI6 : ¬ (c2 : Int) = (n : Int) := by omega
      clear k5 k6
      obtain ⟨a1, m1, d1, w1, a3, m3, d3, w3, a5, m5, d5, w5, a6, m6, d6, w6, r1, r3, r5, r6, e1, e2, e3, f3, e4, e5, f5, hfin⟩ := cut_chain h hz key v p h1 hn (by omega) hr hr2 hz1 hz2 hnc hnc2 hg2 (A5 := A) (n5 := 0) (c5 := 0) (A6 := some ⟨b6, o6 + n, none⟩) (n6 := 0) (c6 := (c2 - n)) (by rw [List.length_drop, List.length_map, hn] <;> omega) (by rw [List.drop_of_length_le (by rw [List.length_map]; omega)]; exact RdS.nil _ _) (fun _ => ⟨rfl, rfl⟩) (by rw [List.length_drop, List.length_map, hn] <;> omega) (by have := hr2.drop (p + 1); rw [hqq] at this ⊢; exact hr2.drop _) (fun e => by cases e) (fun a ha => by cases ha; exact hg2 ⟨b6, o6, none⟩ rfl) hXm hC hRR
      have HR1 := Lib.hid r1
      have HR3 := Lib.hid r3
      have HR5 := Lib.hid r5
      have HR6 := Lib.hid r6
      have HFIN := Lib.hid hfin
      clear r1 r3 r5 r6 hfin h h1 hr hr2 hk hv hX hn hh hC hRR hg2 hXm hz1 hz2
      go_enter Try.func20, Try.ntmps20
      go_wp2_with fail
      refine HAT.out.mono ?_
      rintro e w0 ⟨rfl, rfl⟩
      go_wp2_with (first
        | (at_builtin; refine wpList_app rfl _ _ 26 26 rfl (.slice none 0 0) (.slice A p n) rfl rfl ?_; refine ⟨.slice a1 m1 d1, w1, HR1.out, ?_⟩)
        | (at_builtin; refine wpList_app rfl _ _ 27 27 rfl (.slice none 0 0) (.slice (some ⟨b6, o6, none⟩) p c2) rfl rfl ?_; refine ⟨.slice a3 m3 d3, w3, HR3.out, ?_⟩)
        | (at_builtin; refine wpList_app rfl _ _ 26 26 rfl (.slice a1 m1 d1) (.slice (A) 0 0) rfl rfl ?_; refine ⟨.slice a5 m5 d5, w5, HR5.out, ?_⟩)
        | (at_builtin; refine wpList_app rfl _ _ 27 27 rfl (.slice a3 m3 d3) (.slice (some ⟨b6, o6 + n, none⟩) 0 (c2 - n)) rfl rfl ?_; refine ⟨.slice a6 m6 d6, w6, HR6.out, ?_⟩))
      go_ret
      exact ⟨rfl, HFIN.out⟩
  · by_cases k6 : c2 = q
    · obtain rfl : n = q := by omega
      obtain ⟨b5, o5, rfl⟩ := hk.addr (by omega)
      have kI5 : ¬ (c : Int) = (n : Int) := by omega
      obtain rfl : n = c2 := by omega
      clear k5 k6
      obtain ⟨a1, m1, d1, w1, a3, m3, d3, w3, a5, m5, d5, w5, a6, m6, d6, w6, r1, r3, r5, r6, e1, e2, e3, f3, e4, e5, f5, hfin⟩ := cut_chain h hz key v p h1 hn (by omega) hr hr2 hz1 hz2 hnc hnc2 hg2 (A5 := some ⟨b5, o5 + n, none⟩) (n5 := 0) (c5 := (c - n)) (A6 := A2) (n6 := 0) (c6 := 0) (by rw [List.length_drop, List.length_map, hn] <;> omega) (by have := hr.drop (p + 1); rw [hqq] at this ⊢; exact hr.drop _) (fun e => by cases e) (by rw [List.length_drop, List.length_map, hn] <;> omega) (by rw [List.drop_of_length_le (by rw [List.length_map]; omega)]; exact RdI.nil _ _) (fun _ => ⟨rfl, rfl⟩) hg2 hXm hC hRR
      have HR1 := Lib.hid r1
      have HR3 := Lib.hid r3
      have HR5 := Lib.hid r5
      have HR6 := Lib.hid r6
      have HFIN := Lib.hid hfin
      clear r1 r3 r5 r6 hfin h h1 hr hr2 hk hv hX hn hh hC hRR hg2 hXm hz1 hz2
      go_enter Try.func20, Try.ntmps20
      go_wp2_with fail
      refine HAT.out.mono ?_
      rintro e w0 ⟨rfl, rfl⟩
      go_wp2_with (first
        | (at_builtin; refine wpList_app rfl _ _ 26 26 rfl (.slice none 0 0) (.slice (some ⟨b5, o5, none⟩) p c) rfl rfl ?_; refine ⟨.slice a1 m1 d1, w1, HR1.out, ?_⟩)
        | (at_builtin; refine wpList_app rfl _ _ 27 27 rfl (.slice none 0 0) (.slice A2 p n) rfl rfl ?_; refine ⟨.slice a3 m3 d3, w3, HR3.out, ?_⟩)
        | (at_builtin; refine wpList_app rfl _ _ 26 26 rfl (.slice a1 m1 d1) (.slice (some ⟨b5, o5 + n, none⟩) 0 (c - n)) rfl rfl ?_; refine ⟨.slice a5 m5 d5, w5, HR5.out, ?_⟩)
        | (at_builtin; refine wpList_app rfl _ _ 27 27 rfl (.slice a3 m3 d3) (.slice (A2) 0 0) rfl rfl ?_; refine ⟨.slice a6 m6 d6, w6, HR6.out, ?_⟩))
      go_ret
      exact ⟨rfl, HFIN.out⟩
    · obtain ⟨b5, o5, rfl⟩ := hk.addr (by omega)
      have kI5 : ¬ (c : Int) = (q : Int) := by omega
      obtain ⟨b6, o6, rfl⟩ := hv.addr (by omega)
      have kI6 : ¬ (c2 : Int) = (q : Int) := by omega
      clear k5 k6
      obtain ⟨a1, m1, d1, w1, a3, m3, d3, w3, a5, m5, d5, w5, a6, m6, d6, w6, r1, r3, r5, r6, e1, e2, e3, f3, e4, e5, f5, hfin⟩ := cut_chain h hz key v p h1 hn (by omega) hr hr2 hz1 hz2 hnc hnc2 hg2 (A5 := some ⟨b5, o5 + q, none⟩) (n5 := (n - q)) (c5 := (c - q)) (A6 := some ⟨b6, o6 + q, none⟩) (n6 := (n - q)) (c6 := (c2 - q)) (by rw [List.length_drop, List.length_map, hn] <;> omega) (by have := hr.drop (p + 1); rw [hqq] at this ⊢; exact hr.drop _) (fun e => by cases e) (by rw [List.length_drop, List.length_map, hn] <;> omega) (by have := hr2.drop (p + 1); rw [hqq] at this ⊢; exact hr2.drop _) (fun e => by cases e) (fun a ha => by cases ha; exact hg2 ⟨b6, o6, none⟩ rfl) hXm hC hRR
      have HR1 := Lib.hid r1
      have HR3 := Lib.hid r3
      have HR5 := Lib.hid r5
      have HR6 := Lib.hid r6
      have HFIN := Lib.hid hfin
      clear r1 r3 r5 r6 hfin h h1 hr hr2 hk hv hX hn hh hC hRR hg2 hXm hz1 hz2
      go_enter Try.func20, Try.ntmps20
      go_wp2_with fail
      refine HAT.out.mono ?_
      rintro e w0 ⟨rfl, rfl⟩
      go_wp2_with (first
        | (at_builtin; refine wpList_app rfl _ _ 26 26 rfl (.slice none 0 0) (.slice (some ⟨b5, o5, none⟩) p c) rfl rfl ?_; refine ⟨.slice a1 m1 d1, w1, HR1.out, ?_⟩)
        | (at_builtin; refine wpList_app rfl _ _ 27 27 rfl (.slice none 0 0) (.slice (some ⟨b6, o6, none⟩) p c2) rfl rfl ?_; refine ⟨.slice a3 m3 d3, w3, HR3.out, ?_⟩)
        | (at_builtin; refine wpList_app rfl _ _ 26 26 rfl (.slice a1 m1 d1) (.slice (some ⟨b5, o5 + q, none⟩) (n - q) (c - q)) rfl rfl ?_; refine ⟨.slice a5 m5 d5, w5, HR5.out, ?_⟩)
        | (at_builtin; refine wpList_app rfl _ _ 27 27 rfl (.slice a3 m3 d3) (.slice (some ⟨b6, o6 + q, none⟩) (n - q) (c2 - q)) rfl rfl ?_; refine ⟨.slice a6 m6 d6, w6, HR6.out, ?_⟩))
      go_ret
      exact ⟨rfl, HFIN.out⟩
set_option maxHeartbeats 4000000 in
set_option maxRecDepth 100000 in
theorem rcut_no {B rb : Nat} {X : List Nat} {w : World} {C : List (ByteArray × Int)} (h : RfAt B rb X w C) (key : ByteArray) (hh : hadL key C = false) :
    Calls Try.prog 20 #[.pointer (some ⟨rb, 0, none⟩), .string key] w fun e w' => e = .returned (.bool false) ∧ w' = w.drew := by
  have HAT := Lib.hid (at_any h key)
  rw [hh] at HAT
  clear hh h
  go_enter Try.func20, Try.ntmps20
  go_wp2_with fail
  refine HAT.out.mono ?_
  rintro e w1 ⟨rfl, rfl⟩
  go_wp2_with fail
  go_ret
  exact ⟨rfl, rfl⟩
theorem cutL_no {key : ByteArray} {C : List (ByteArray × Int)} (h : hadL key C = false) : cutL key C = C := by
  unfold cutL
  rw [List.filter_eq_self]
  intro x hx
  cases q : (x.1.toList == key.toList) with
  | false => rfl
  | true =>
    exfalso
    have h2 := get_no h
    unfold getL at h2
    cases hf : C.find? (fun x => x.1.toList == key.toList) with
    | some y => rw [hf] at h2; cases h2
    | none =>
      have := List.find?_eq_none.1 hf x hx
      exact this q
/-- Put, whether the key is there or not. -/
theorem rput_any {B rb : Nat} {X : List Nat} {w : World} {C : List (ByteArray × Int)} (h : RfAt B rb X w C) (hz : C.length ≤ 90000) (key : ByteArray) (v : Int) :
    Calls Try.prog 18 #[.pointer (some ⟨rb, 0, none⟩), .string key, .int .i64 v] w fun e w' => e = .returned (.bool (hadL key C)) ∧ ∃ X', RfAt B rb X' w' (putL key v C) ∧ Tur X w w' ∧ Fre X X' w := by
  cases hh : hadL key C with
  | true => exact rput_old h key v hh
  | false => exact rput_new h hz key v hh
/-- Cut, whether the key is there or not. -/
theorem rcut_any {B rb : Nat} {X : List Nat} {w : World} {C : List (ByteArray × Int)} (h : RfAt B rb X w C) (hz : C.length ≤ 90000) (key : ByteArray) :
    Calls Try.prog 20 #[.pointer (some ⟨rb, 0, none⟩), .string key] w fun e w' => e = .returned (.bool (hadL key C)) ∧ ∃ X', RfAt B rb X' w' (cutL key C) ∧ Tur X w w' ∧ Fre X X' w := by
  cases hh : hadL key C with
  | true => exact rcut_old h hz key hh
  | false =>
    refine (rcut_no h key hh).mono ?_
    rintro e w1 ⟨rfl, rfl⟩
    rw [cutL_no hh]
    exact ⟨rfl, X, h.tur (Y := []) (Tur.drew _ _) (fun _ _ hx => by cases hx), Tur.drew _ _, Fre.refl _ _⟩
end Go.Proofs.Ytmapclocbhkpbaa
