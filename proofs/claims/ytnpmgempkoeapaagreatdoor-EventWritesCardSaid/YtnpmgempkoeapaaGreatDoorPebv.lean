/-
  Put together, as far as it is used: Qr.
-/
import Derived.Test.YtnpmgempkoeapaaGreatDoorPeav
import Derived.Test.YtnpmgempkoeapaaGreatDoorPeaz
import Derived.Test.YtnpmgempkoeapaaGreatDoorPeat
import Derived.Test.YtnpmgempkoeapaaGreatDoorPeaq
import Derived.Test.YtnpmgempkoeapaaGreatDoorPeaj
import Derived.Test.YtnpmgempkoeapaaGreatDoorPeau
set_option linter.unusedVariables false
set_option linter.unusedSimpArgs false
set_option linter.defProp false
namespace Go.Proofs.YtnpmgempkoeapaaGreatDoor
open Go.RowKit Dg
set_option maxRecDepth 100000
theorem g6_end (T : List Tb) (k : Nat) (h : T.length ≤ k) : ∀ j, g6To T (k + j) = g6To T k
 | 0 => rfl
 | j + 1 => by
   show (match T[k + j]? with | some x => _ | none => _) = _
   rw [List.getElem?_eq_none (by omega)]
   exact g6_end T k h j
theorem g6_three {T : List Tb} {k : Nat} (h : T.length ≤ k) (hk : k ≤ 3) : g6To T 3 = g6To T k := by
 have := g6_end T k h (3 - k)
 rwa [show k + (3 - k) = 3 by omega] at this
structure G6 (w : World) (Ti : List Tb) (k : Nat) (wr : World) (v : Value) (T : List Tb) : Prop where
 own : OwnT (w.heap.size + 1) wr v T
 bel : Below w.heap.size w wr
 pool : Has wr w.heap.size 9 #[.string ⟨#[116]⟩, .string ⟨#[117]⟩, .string ⟨#[118]⟩]
 td : tds T = g6To Ti k
 ok : TOks wr T
 col : ∀ x ∈ T, OwnC (w.heap.size + 1) wr (.slice x.A x.n x.c) x.L
theorem G6.below {w wr w' : World} {Ti : List Tb} {k : Nat} {v : Value} {T : List Tb} (h : G6 w Ti k wr v T) (hb : Below wr.heap.size wr w') : G6 w Ti k w' v T :=
 ⟨h.own.below hb, h.bel.trans (hb.mono h.bel.size), h.pool.below hb h.pool.lt, h.td, h.ok.below hb, fun x hx => (h.col x hx).below hb⟩
theorem G6.stay {w wr : World} {Ti : List Tb} {k : Nat} {v : Value} {T : List Tb} (h : G6 w Ti k wr v T) (hk : k < Ti.length) (hp : plF T (nm6 Ti[k].nm k) = true) : G6 w Ti (k + 1) wr v T :=
 ⟨h.own, h.bel, h.pool, by rw [g6To_succ Ti k hk, ← h.td]; unfold insD; rw [← plF_d, if_pos hp], h.ok, h.col⟩
theorem G6.more {w wr w' : World} {Ti : List Tb} {k : Nat} {v v' : Value} {T : List Tb} {A' : Option Addr} {n' c' : Nat} (h : G6 w Ti k wr v T) (hk : k < Ti.length) (hp : plF T (nm6 Ti[k].nm k) = false) (hb : Below wr.heap.size wr w')
 (hx : OwnC wr.heap.size w' (.slice A' n' c') (gdC Ti[k].L Ti[k].K)) (ho : OwnT (w.heap.size + 1) w' v' (T.take (lbN T (nm6 Ti[k].nm k)) ++ [⟨nm6 Ti[k].nm k, A', n', c', gdC Ti[k].L Ti[k].K, gdK Ti[k].L Ti[k].K⟩] ++ T.drop (lbN T (nm6 Ti[k].nm k)))) :
 G6 w Ti (k + 1) w' v' (T.take (lbN T (nm6 Ti[k].nm k)) ++ [⟨nm6 Ti[k].nm k, A', n', c', gdC Ti[k].L Ti[k].K, gdK Ti[k].L Ti[k].K⟩] ++ T.drop (lbN T (nm6 Ti[k].nm k))) := by
 refine ⟨ho, h.bel.trans (hb.mono h.bel.size), h.pool.below hb h.pool.lt, ?_, ?_, ?_⟩
 ·rw [g6To_succ Ti k hk, ← h.td, tds_ins]
  unfold insD
  rw [← plF_d, if_neg (by rw [hp]; simp), ← lbN_d]
  rfl
 ·intro x hx'
  rw [List.append_assoc, List.mem_append] at hx'
  rcases hx' with hx' | hx'
  ·exact (h.ok x (List.mem_of_mem_take hx')).below hb
  ·rw [List.singleton_append, List.mem_cons] at hx'
   rcases hx' with rfl | hx'
   ·obtain ⟨A, c, e, h1, h2, h3, h4⟩ := ownC_row hx
    injection e with e1 e2 e3
    subst e1 e3
    have h9 := (goodS_is Ti[k].L Ti[k].K).len.2
    exact ⟨e2.symm, by show n' ≤ c'; omega, h2, h3, h4, by show n' ≤ 900; omega⟩
   ·exact (h.ok x (List.mem_of_mem_drop hx')).below hb
 ·intro x hx'
  rw [List.append_assoc, List.mem_append] at hx'
  rcases hx' with hx' | hx'
  ·exact (h.col x (List.mem_of_mem_take hx')).below hb
  ·rw [List.singleton_append, List.mem_cons] at hx'
   rcases hx' with rfl | hx'
   ·exact ownC_down hx h.pool.lt
   ·exact (h.col x (List.mem_of_mem_drop hx')).below hb
theorem fcE_good {T : List Tb} {tn : ByteArray} {L : List Cl} {k : Nat} (hn : nameF tn = true) (hG : GoodS L k) (h6 : T.length < 64) : fcE T tn L k = if plF T tn = true then 8 else 0 := by
 cases hp : plF T tn
 ·rw [fcE_ok hn hp (goodS_may _ _ hG) h6]; rfl
 ·rw [fcE_there hn hp]; rfl
set_option maxHeartbeats 4000000 in
theorem rgood6_own (A : Option Addr) (Ti : List Tb) (n c : Nat) (w : World) (hn : Ti.length = n) (hA : TRow w A Ti) (hI : ∀ x ∈ Ti, TbIn w x) :
 Calls Tryz.prog 5 #[.slice A n c] w fun e w' => ∃ v T, e = .returned v ∧ Hid (OwnT w.heap.size w' v T) ∧ Hid (tds T = g6To Ti 3) ∧ Hid (TOks w' T) ∧ Hid (∀ x ∈ T, OwnC w.heap.size w' (.slice x.A x.n x.c) x.L) ∧ Hid (Below w.heap.size w w') := by
 have HN := Lib.hid hn
 have HA := Lib.hid hA
 have HI := Lib.hid hI
 clear hn hA hI
 go_enter Tryz.func5, Tryz.ntmps5
 go_wp2_with fail
 go_loopw [3, 5] (fun v i wr => ∃ (k : Nat) (T : List Tb), k ≤ n ∧ k ≤ 3 ∧ i = .int .i64 k ∧ Hid (G6 w Ti k wr v T)) (fun _ i _ => n - (intOf i).toNat)
 case atStart => exact ⟨0, [], by omega, by omega, rfl, ownT_nil _ _, (Below.refl w.heap.size w).alloc (Nat.le_refl _) _, Has.new w 9 _, rfl, (fun x hx => by cases hx), fun x hx => by cases hx⟩
 case round =>
  obtain ⟨k, T, hk, hk3, rfl, HS⟩ := hrel
  obtain ⟨A7, n7, c7, rfl, HN7, hnc7, hcm7, HV7, HZ7⟩ := ownT_open HS.out.own
  by_cases hlt : k < n
  ·by_cases hl3 : k < 3
   ·have hkl : k < Ti.length := by rw [HN.out]; exact hlt
    obtain ⟨b, off, rfl, hc⟩ := (HA.out.below HS.out.bel) (by intro e; rw [e] at hkl; simp at hkl)
    obtain ⟨c0, c1, c2⟩ := hc k hkl
    have hx := HI.out Ti[k] (List.getElem_mem hkl)
    have hkz : (k : Int) < (n : Int) := by omega
    have hkz3 : (k : Int) < 3 := by omega
    have hp0 : wr.cell? ⟨w.heap.size, k, none⟩ = some (.string (pool6 k)) := by
     have : k = 0 ∨ k = 1 ∨ k = 2 := by omega
     rcases this with rfl | rfl | rfl
     ·exact HS.out.pool.cell 0
     ·exact HS.out.pool.cell 1
     ·exact HS.out.pool.cell 2
    have hg := g6_good Ti k
    rw [← HS.out.td] at hg
    have HGD := Lib.hid hg
    have hSrt := goodT_sort hg.1
    have h7 : n7 ≤ 3 := by have h1 := HN7.out; have h2 := hg.2; rw [tds_len] at h2; omega
    have HGO := Lib.hid (rgood_any Ti[k].A Ti[k].L Ti[k].n Ti[k].c Ti[k].K wr hx.1.1 hx.1.2.1 hx.1.2.2.1 (hx.1.2.2.2.below HS.out.bel) hx.2.1 hx.2.2.2.1 hx.2.2.2.2)
    have HNM := Lib.hid (nm6_name Ti[k].nm k)
    have HGS := Lib.hid (goodS_is Ti[k].L Ti[k].K)
    have HFO : Hid (∀ (s : ByteArray) (A8 : Option Addr) (n8 c8 : Nat) (W : World), Hid (OwnC wr.heap.size W (.slice A8 n8 c8) (gdC Ti[k].L Ti[k].K)) → Hid (Below wr.heap.size wr W) → Calls Tryz.prog 18 #[.slice A7 n7 c7, .agg #[.int .i64 1, .string s, .slice A8 n8 c8, .int .i64 (gdK Ti[k].L Ti[k].K), .string ⟨#[]⟩, .int .i64 0, .bool false]] W fun e w' => ∃ v, e = .returned (.tuple #[v, .int .i64 (fcE T s (gdC Ti[k].L Ti[k].K) (gdK Ti[k].L Ti[k].K))]) ∧ Hid (OwnT W.heap.size w' v (fcT T s A8 n8 c8 (gdC Ti[k].L Ti[k].K) (gdK Ti[k].L Ti[k].K))) ∧ Hid (Below W.heap.size W w')) := fun s A8 n8 c8 W ho hb => by
     have hr := HV7.out.below hb.out
     obtain ⟨A, c9, e, _, _, h3, _⟩ := ownC_row ho.out
     injection e with e1 e2 e3
     subst e1
     exact rfolC_any A7 T n7 c7 s A8 n8 c8 _ _ _ _ _ W HN7.out hnc7 hcm7 (by omega) hr HZ7.out hSrt e2.symm h3
    have HST := Lib.hid (fun hp => HS.out.stay hkl hp)
    have HMR := Lib.hid (fun (w' : World) (v' : Value) (A8 : Option Addr) (n8 c8 : Nat) hp hb hx ho => HS.out.more (w' := w') (v' := v') (A' := A8) (n' := n8) (c' := c8) hkl hp hb hx ho)
    have hsz : w.heap.size + 1 ≤ wr.heap.size := HS.out.pool.lt
    clear hc hx hg hSrt HV7 HZ7
    obtain ⟨nm, hnm⟩ : ∃ nm, nm6 Ti[k].nm k = nm := ⟨_, rfl⟩
    have hnmd : nm = if nameF Ti[k].nm = true then Ti[k].nm else pool6 k := hnm.symm
    rw [hnm] at HST HMR HNM
    clear hnm
    generalize gdC Ti[k].L Ti[k].K = GL at *
    generalize gdK Ti[k].L Ti[k].K = GK at *
    generalize Ti[k] = x at *
    obtain ⟨xs, xA, xn, xc, xL, xK⟩ := x
    simp only at c0 c1 c2 HGO hnmd
    rcases hqn : nameF xs with _ | _
    ·obtain rfl : nm = pool6 k := by rw [hnmd, hqn]; simp
     clear hnmd
     go_wp2_with fail
     refine (refName_any xs _).mono ?_
     rintro e w1 ⟨rfl, rfl⟩
     rw [hqn]
     go_wp2_with fail
     refine HGO.out.mono ?_
     rintro e w2 ⟨v8, rfl, ho8, hb8⟩
     obtain ⟨A8, n8, c8, rfl, _, _, _, _, _⟩ := ownC_open ho8.out
     have HB8 := Lib.hid hb8.out
     have HO8 := Lib.hid ho8.out
     clear hb8 ho8 c0 c1 c2 HGO
     go_wp2_with fail
     refine (HFO.out _ A8 n8 c8 w2 HO8 HB8).mono ?_
     rintro e w3 ⟨v9, rfl, ho9, hb9⟩
     have hE := fcE_good (T := T) HNM.out HGS.out (by have := HN7.out; omega)
     rcases hp : plF T (pool6 k) with _ | _
     ·have HE : Hid (fcE T (pool6 k) GL GK = 0) := by show _ = _; rw [hE, hp]; simp
      rw [fcT_ok HE.out] at ho9
      rw [HE.out]
      have HS3 := Lib.hid (HMR.out w3 v9 A8 n8 c8 hp (HB8.out.trans (hb9.out.mono HB8.out.size)) (HO8.out.below hb9.out) (ownT_down ho9.out (by have := HB8.out.size; omega)))
      obtain ⟨A9, n9, c9, rfl, _, _, _, _, _⟩ := ownT_open ho9.out
      clear hE ho9 hb9
      go_wp2_with fail
      go_roundw
      case rel => exact ⟨k + 1, _, by omega, by omega, by go_num, HS3⟩
      case measure => simp [intOf]; omega
     ·have HE : Hid (fcE T (pool6 k) GL GK = 8) := by show _ = _; rw [hE, hp]; simp
      rw [HE.out]
      have HS3 := Lib.hid ((HST.out hp).below (HB8.out.trans (hb9.out.mono HB8.out.size)))
      rw [fcT_bad (by rw [HE.out]; omega)] at ho9
      obtain ⟨A9, n9, c9, rfl, _, _, _, _, _⟩ := ownT_open ho9.out
      clear hE ho9 hb9
      go_wp2_with fail
      go_roundw
      case rel => exact ⟨k + 1, _, by omega, by omega, by go_num, HS3⟩
      case measure => simp [intOf]; omega
    ·obtain rfl : xs = nm := by rw [hnmd, hqn]; simp
     clear hnmd
     go_wp2_with fail
     refine (refName_any xs _).mono ?_
     rintro e w1 ⟨rfl, rfl⟩
     rw [hqn]
     go_wp2_with fail
     refine HGO.out.mono ?_
     rintro e w2 ⟨v8, rfl, ho8, hb8⟩
     obtain ⟨A8, n8, c8, rfl, _, _, _, _, _⟩ := ownC_open ho8.out
     have HB8 := Lib.hid hb8.out
     have HO8 := Lib.hid ho8.out
     clear hb8 ho8 c0 c1 c2 HGO
     go_wp2_with fail
     refine (HFO.out _ A8 n8 c8 w2 HO8 HB8).mono ?_
     rintro e w3 ⟨v9, rfl, ho9, hb9⟩
     have hE := fcE_good (T := T) HNM.out HGS.out (by have := HN7.out; omega)
     rcases hp : plF T xs with _ | _
     ·have HE : Hid (fcE T xs GL GK = 0) := by show _ = _; rw [hE, hp]; simp
      rw [fcT_ok HE.out] at ho9
      rw [HE.out]
      have HS3 := Lib.hid (HMR.out w3 v9 A8 n8 c8 hp (HB8.out.trans (hb9.out.mono HB8.out.size)) (HO8.out.below hb9.out) (ownT_down ho9.out (by have := HB8.out.size; omega)))
      obtain ⟨A9, n9, c9, rfl, _, _, _, _, _⟩ := ownT_open ho9.out
      clear hE ho9 hb9
      go_wp2_with fail
      go_roundw
      case rel => exact ⟨k + 1, _, by omega, by omega, by go_num, HS3⟩
      case measure => simp [intOf]; omega
     ·have HE : Hid (fcE T xs GL GK = 8) := by show _ = _; rw [hE, hp]; simp
      rw [HE.out]
      have HS3 := Lib.hid ((HST.out hp).below (HB8.out.trans (hb9.out.mono HB8.out.size)))
      rw [fcT_bad (by rw [HE.out]; omega)] at ho9
      obtain ⟨A9, n9, c9, rfl, _, _, _, _, _⟩ := ownT_open ho9.out
      clear hE ho9 hb9
      go_wp2_with fail
      go_roundw
      case rel => exact ⟨k + 1, _, by omega, by omega, by go_num, HS3⟩
      case measure => simp [intOf]; omega
   ·obtain rfl : k = 3 := by omega
    go_wp2_with fail
    go_ret
    exact ⟨_, T, rfl, ownT_down HS.out.own (by omega), HS.out.td, HS.out.ok, (fun x hx => ownC_down (HS.out.col x hx) (Nat.le_succ _)), HS.out.bel⟩
  ·obtain rfl : k = n := by omega
   have hkz : ¬ (k : Int) < (k : Int) := by omega
   go_wp2_with fail
   go_ret
   first
    | exact ⟨_, T, rfl, ownT_down HS.out.own (by have := HS.out.pool.lt; omega), by rw [HS.out.td]; exact (g6_three (by rw [HN.out]; omega) hk3).symm, HS.out.ok, (fun x hx => ownC_down (HS.out.col x hx) (Nat.le_succ _)), HS.out.bel⟩
    | exact ⟨_, rfl, T, ownT_down HS.out.own (by have := HS.out.pool.lt; omega), by rw [HS.out.td]; exact (g6_three (by rw [HN.out]; omega) hk3).symm, HS.out.ok, (fun x hx => ownC_down (HS.out.col x hx) (Nat.le_succ _)), HS.out.bel⟩
set_option maxHeartbeats 400000 in
theorem Number_any (A : Option Addr) (l : List Nat) (c : Nat) (n : Nat) (w : World) (hn : l.length ≤ c) (hA : Rd w A l) (hb : l.length ≤ 900000) (hn63 : (n : Int) ≤ 9223372036854775807) :
 Calls Tryz.prog 29 #[.slice A l.length c, .int .i64 n] w (Out w (l ++ digs n)) := by
 have hbig : n < big := by unfold big; omega
 have ht := digs_le_ten n hbig
 have hp := digs_pos n
 go_enter Tryz.func29, Tryz.ntmps29
 go_wp2_with fail
 refine (digits_any n _ hbig).mono ?_
 intro e w1 hd
 obtain ⟨A', d, rfl, hr, hb1⟩ := hd.out
 have HR := Lib.hid hr
 clear hr hd
 go_wp2_with fail
 refine (behind_any A l c A' (digs n) d _ hn (hA.below hb1) HR.out hp (by omega)).mono ?_
 intro e w2 ho
 have HO := Lib.hid ho
 clear ho
 obtain ⟨v, rfl, hv⟩ := HO.out
 have HV := Lib.hid hv
 clear hv
 go_wp2_with fail
 go_ret
 exact ⟨v, rfl, HV.out.after hb1⟩

theorem ev5_at (w : World) : EvAt w (.agg #[.int .i64 7, .int .i64 5, .string ⟨#[]⟩, .slice none 0 0, .slice none 0 0, .int .i64 0, .string ⟨#[]⟩, .slice none 0 0, .int .i64 0, .string ⟨#[]⟩, .int .i64 0, .bool false]) ⟨7, 5, ⟨#[]⟩, [], [], 0, ⟨#[]⟩, [], 0, ⟨⟨#[]⟩, 0, false⟩⟩ :=
 ⟨none, 0, 0, none, 0, 0, none, 0, 0, rfl, ⟨rfl, by simp, fun h => absurd rfl h⟩, ⟨rfl, by simp, fun h => absurd rfl h⟩, rfl, by omega, fun h => absurd rfl h⟩
set_option maxHeartbeats 2000000 in
set_option maxRecDepth 100000 in
theorem mayNumber5 (w : World) : Calls Tryz.prog 52 #[.agg #[.int .i64 7, .int .i64 5, .string ⟨#[]⟩, .slice none 0 0, .slice none 0 0, .int .i64 0, .string ⟨#[]⟩, .slice none 0 0, .int .i64 0, .string ⟨#[]⟩, .int .i64 0, .bool false]] w fun e w' => e = .returned (.int .i64 0) ∧ Hid (Below w.heap.size w w') := by
 have HB := Lib.hid ((Below.refl w.heap.size w).alloc (Nat.le_refl _) (.cells #[.int .i64 7, .int .i64 5, .string ⟨#[]⟩, .slice none 0 0, .slice none 0 0, .int .i64 0, .string ⟨#[]⟩, .slice none 0 0, .int .i64 0, .string ⟨#[]⟩, .int .i64 0, .bool false] 33))
 have HS := fun (W : World) => Lib.hid (esame_any (.agg #[.int .i64 7, .int .i64 5, .string ⟨#[]⟩, .slice none 0 0, .slice none 0 0, .int .i64 0, .string ⟨#[]⟩, .slice none 0 0, .int .i64 0, .string ⟨#[]⟩, .int .i64 0, .bool false]) (.agg #[.int .i64 7, .int .i64 5, .string ⟨#[]⟩, .slice none 0 0, .slice none 0 0, .int .i64 0, .string ⟨#[]⟩, .slice none 0 0, .int .i64 0, .string ⟨#[]⟩, .int .i64 0, .bool false]) _ _ W (ev5_at W) (ev5_at W))
 go_enter Tryz.func52, Tryz.ntmps52
 go_wp2_with fail
 refine ((HS _).out).mono ?_
 rintro e w1 ⟨rfl, hb1⟩
 rw [evF_refl]
 have HB1 := Lib.hid (HB.out.trans (hb1.out.mono HB.out.size))
 clear hb1 HS
 go_wp2_with fail
 go_ret
 exact ⟨rfl, HB1⟩
set_option maxHeartbeats 2000000 in
set_option maxRecDepth 100000 in
theorem may5 (w : World) : Calls Tryz.prog 23 #[.agg #[.int .i64 7, .int .i64 5, .string ⟨#[]⟩, .slice none 0 0, .slice none 0 0, .int .i64 0, .string ⟨#[]⟩, .slice none 0 0, .int .i64 0, .string ⟨#[]⟩, .int .i64 0, .bool false], .slice none 0 0] w fun e w' => e = .returned (.int .i64 0) ∧ Hid (Below w.heap.size w w') := by
 have HB := Lib.hid ((Below.refl w.heap.size w).alloc (Nat.le_refl _) (.cells #[.int .i64 7, .int .i64 5, .string ⟨#[]⟩, .slice none 0 0, .slice none 0 0, .int .i64 0, .string ⟨#[]⟩, .slice none 0 0, .int .i64 0, .string ⟨#[]⟩, .int .i64 0, .bool false] 33))
 go_enter Tryz.func23, Tryz.ntmps23
 go_wp2_with fail
 refine (mayNumber5 _).mono ?_
 rintro e w1 ⟨rfl, hb1⟩
 have HB1 := Lib.hid (HB.out.trans (hb1.out.mono HB.out.size))
 clear hb1
 go_wp2_with fail
 go_ret
 exact ⟨rfl, HB1⟩
theorem digs5 : digs 5 = [5] := by rw [digs]; simp
set_option maxHeartbeats 2000000 in
set_option maxRecDepth 100000 in
theorem write5 (w : World) : Calls Tryz.prog 8 #[.agg #[.int .i64 7, .int .i64 5, .string ⟨#[]⟩, .slice none 0 0, .slice none 0 0, .int .i64 0, .string ⟨#[]⟩, .slice none 0 0, .int .i64 0, .string ⟨#[]⟩, .int .i64 0, .bool false], .slice none 0 0] w fun e w' => (∃ A c, e = .returned (.tuple #[.slice A 2 c, .int .i64 0]) ∧ Hid (Rd w' A [7, 5])) ∧ Hid (Below w.heap.size w w') := by
 have HB := Lib.hid ((Below.refl w.heap.size w).alloc (Nat.le_refl _) (.cells #[.int .i64 7, .int .i64 5, .string ⟨#[]⟩, .slice none 0 0, .slice none 0 0, .int .i64 0, .string ⟨#[]⟩, .slice none 0 0, .int .i64 0, .string ⟨#[]⟩, .int .i64 0, .bool false] 33))
 have HX := Lib.hid (Has.new w 33 #[.int .i64 7, .int .i64 5, .string ⟨#[]⟩, .slice none 0 0, .slice none 0 0, .int .i64 0, .string ⟨#[]⟩, .slice none 0 0, .int .i64 0, .string ⟨#[]⟩, .int .i64 0, .bool false])
 go_enter Tryz.func8, Tryz.ntmps8
 go_wp2_with fail
 refine (may5 _).mono ?_
 rintro e w1 ⟨rfl, hb1⟩
 have HB1 := Lib.hid (HB.out.trans (hb1.out.mono HB.out.size))
 have HX1 := Lib.hid (HX.out.below hb1.out (by simp))
 clear hb1 HB HX
 have x0 : w1.cell? ⟨w.heap.size, 0, none⟩ = some (.int .i64 7) := HX1.out.cell 0
 have x1 : w1.cell? ⟨w.heap.size, 1, none⟩ = some (.int .i64 5) := HX1.out.cell 1
 have HB2 : Hid (Below w.heap.size w (w1.alloc (.cells #[.int .u8 7] 5))) := HB1.out.trans (((Below.refl w1.heap.size w1).alloc (Nat.le_refl _) _).mono HB1.out.size)
 have HX2 := Lib.hid (HX1.out.alloc (.cells #[.int .u8 7] 5))
 have y0 : (w1.alloc (.cells #[.int .u8 7] 5)).cell? ⟨w.heap.size, 0, none⟩ = some (.int .i64 7) := HX2.out.cell 0
 have y1 : (w1.alloc (.cells #[.int .u8 7] 5)).cell? ⟨w.heap.size, 1, none⟩ = some (.int .i64 5) := HX2.out.cell 1
 have HR := Lib.hid (show Rd (w1.alloc (.cells #[.int .u8 7] 5)) (some ⟨w1.heap.size, 0, none⟩) [7] from fun _ => ⟨w1.heap.size, 0, rfl, fun i hi => by
  obtain rfl : i = 0 := by simp at hi; omega
  exact (Has.new w1 5 #[.int .u8 7]).cell 0⟩)
 clear HX1 HX2 HB1
 go_wp2_with fail
 refine (Number_any (some ⟨w1.heap.size, 0, none⟩) [7] 1 5 _ (by simp) HR.out (by simp) (by omega)).mono ?_
 intro e w2 ho
 obtain ⟨v, rfl, Av, cv, rfl, _, hr, hb⟩ := ho
 have HR2 := Lib.hid hr
 have HB3 := Lib.hid (HB2.out.trans (hb.mono HB2.out.size))
 clear hr hb HB2 HR x0 x1 y0 y1
 rw [digs5] at *
 go_wp2_with fail
 go_ret2
 exact ⟨⟨_, _, rfl, HR2⟩, HB3⟩
set_option maxHeartbeats 2000000 in
set_option maxRecDepth 100000 in
theorem right0 (w : World) : Calls Tryz.prog 34 #[.slice none 0 0] w fun e w' => e = .returned (.bool true) ∧ Hid (Below w.heap.size w w') := by
 go_enter Tryz.func34, Tryz.ntmps34
 go_wp2_with fail
 go_loopw [10] (fun i wr => i = .int .i64 0 ∧ wr = w) (fun _ _ => 0)
 case atStart => exact ⟨rfl, rfl⟩
 case round =>
  obtain ⟨rfl, rfl⟩ := hrel
  go_wp2_with fail
  go_ret
  exact ⟨rfl, Below.refl _ _⟩
set_option maxHeartbeats 2000000 in
set_option maxRecDepth 100000 in
theorem lives6_any (w : World) : Calls Tryz.prog 10 #[] w fun e w' => e = .returned (.bool true) ∧ Hid (Below w.heap.size w w') := by
 go_enter Tryz.func10, Tryz.ntmps10
 go_wp2_with fail
 refine (write5 _).mono ?_
 rintro e w1 ⟨⟨A, c, rfl, hr⟩, hb⟩
 obtain ⟨b, off, rfl, hc⟩ := hr.out (by simp)
 have c0 : w1.cell? ⟨b, off, none⟩ = some (.int .u8 7) := hc 0 (by simp)
 have c1 : w1.cell? ⟨b, off + 1, none⟩ = some (.int .u8 5) := hc 1 (by simp)
 clear hc hr
 go_wp2_with fail
 refine (right0 _).mono ?_
 rintro e w2 ⟨rfl, hb2⟩
 have HB2 := Lib.hid (hb.out.trans (hb2.out.mono hb.out.size))
 clear c0 c1 hb hb2
 go_wp2_with fail
 go_ret
 exact ⟨rfl, HB2⟩
set_option maxHeartbeats 400000 in
theorem name6_any (s : ByteArray) (w : World) (hs : s.size ≤ 140737488355328) :
 Calls Tryz.prog 20 #[.string s] w fun e w' => e = .returned (.string (forty s)) ∧ w' = w := by
 by_cases hz : 40 < s.size
 ·have HF : Hid (s.extract 0 40 = forty s) := by show _ = _; unfold forty; rw [if_pos hz]
  go_enter Tryz.func20, Tryz.ntmps20
  go_wp2_with fail
  go_ret
  exact ⟨by rw [← HF.out]; rfl, rfl⟩
 ·have HF : Hid (forty s = s) := by show _ = _; unfold forty; rw [if_neg hz]
  go_enter Tryz.func20, Tryz.ntmps20
  go_wp2_with fail
  go_ret
  exact ⟨by rw [HF.out]; rfl, rfl⟩
structure D6 (w wr : World) (v : Value) (M : List Cl) (P : Array Value) : Prop where
 own : OwnC (w.heap.size + 2) wr v M
 bel : Below w.heap.size w wr
 prm : Has wr w.heap.size 31 P
 res : Has wr (w.heap.size + 1) 31 #[.int .i64 0, .string ⟨#[]⟩, .slice none 0 0, .int .i64 0, .string ⟨#[]⟩, .int .i64 0, .bool false]
 big : w.heap.size + 2 ≤ wr.heap.size
section
variable {w wr w' : World} {v : Value} {M : List Cl} {P : Array Value}
theorem D6.below (h : D6 w wr v M P) (hb : Below wr.heap.size wr w') : D6 w w' v M P :=
 ⟨h.own.below hb, h.bel.trans (hb.mono h.bel.size), h.prm.below hb h.prm.lt, h.res.below hb h.res.lt, Nat.le_trans h.big hb.size⟩
theorem D6.grown (h : D6 w wr v M P) {R : Value} {M' : List Cl} (ho : OwnC (w.heap.size + 2) w' R M') (hb : Below (w.heap.size + 2) wr w') : D6 w w' R M' P :=
 ⟨ho, h.bel.trans (hb.mono (by omega)), h.prm.below hb (by omega), h.res.below hb (by omega), Nat.le_trans h.big hb.size⟩
end
theorem c6End (w' : World) (g : Nat) (c0 c1 c2 c3 c4 c5 c6 : Value) (tmps : Array Value) (hp : tmps.getD 2 undef = .pointer (some ⟨g, 0, none⟩)) (hh : Has w' g 31 #[c0, c1, c2, c3, c4, c5, c6]) :
 (results Tryz.f6 tmps).run Tryz.prog w' = .ok (.agg #[c0, c1, c2, c3, c4, c5, c6]) w' :=
 results_cell_row rfl _ _ g 31 #[c0, c1, c2, c3, c4, c5, c6] (0, 0) _ hp hh Tryz.underlying31 rfl (by kernel_rfl)
theorem far7 {W : World} {g B : Nat} (hg : g < B) {v : Value} {M : List Cl} (h : OwnC B W v M) (u0 u1 u2 u3 u4 u5 u6 : Value) : OwnC B (((((((W.setCell ⟨g, 0, none⟩ u0).setCell ⟨g, 1, none⟩ u1).setCell ⟨g, 2, none⟩ u2).setCell ⟨g, 3, none⟩ u3).setCell ⟨g, 4, none⟩ u4).setCell ⟨g, 5, none⟩ u5).setCell ⟨g, 6, none⟩ u6) v M :=
 OwnC.far (OwnC.far (OwnC.far (OwnC.far (OwnC.far (OwnC.far (OwnC.far h (p := ⟨g, 0, none⟩) hg u0) (p := ⟨g, 1, none⟩) hg u1) (p := ⟨g, 2, none⟩) hg u2) (p := ⟨g, 3, none⟩) hg u3) (p := ⟨g, 4, none⟩) hg u4) (p := ⟨g, 5, none⟩) hg u5) (p := ⟨g, 6, none⟩) hg u6
theorem below7 {w W : World} {k g : Nat} (hg : k ≤ g) (h : Below k w W) (u0 u1 u2 u3 u4 u5 u6 : Value) : Below k w (((((((W.setCell ⟨g, 0, none⟩ u0).setCell ⟨g, 1, none⟩ u1).setCell ⟨g, 2, none⟩ u2).setCell ⟨g, 3, none⟩ u3).setCell ⟨g, 4, none⟩ u4).setCell ⟨g, 5, none⟩ u5).setCell ⟨g, 6, none⟩ u6) :=
 ((((((h.setCell (p := ⟨g, 0, none⟩) hg u0).setCell (p := ⟨g, 1, none⟩) hg u1).setCell (p := ⟨g, 2, none⟩) hg u2).setCell (p := ⟨g, 3, none⟩) hg u3).setCell (p := ⟨g, 4, none⟩) hg u4).setCell (p := ⟨g, 5, none⟩) hg u5).setCell (p := ⟨g, 6, none⟩) hg u6
set_option maxHeartbeats 6000000 in
set_option maxRecDepth 100000 in
theorem cut6_any (ck : Int) (ct : ByteArray) (A : Option Addr) (L : List Cl) (n c : Nat) (K : Int) (cn : ByteArray) (cq : Int) (cb : Bool) (w : World) (hn : L.length = n) (hnc : n ≤ c) (hcm : c ≤ maxLen) (hA : CRow w A L) (hf : ∀ x ∈ L, x.fit) (ht : ct.size ≤ 140737488355328) (hc : cn.size ≤ 140737488355328) :
 Calls Tryz.prog 6 #[.agg #[.int .i64 ck, .string ct, .slice A n c, .int .i64 K, .string cn, .int .i64 cq, .bool cb]] w fun e w' => ∃ v, e = .returned (.agg #[.int .i64 ck, .string (forty ct), v, .int .i64 K, .string (forty cn), .int .i64 cq, .bool cb]) ∧ Hid (OwnC w.heap.size w' v (cutL L)) ∧ Hid (Below w.heap.size w w') := by
 have HN := Lib.hid hn
 have HA := Lib.hid hA
 have HF := Lib.hid hf
 have hcm2 : n ≤ 9223372036854775807 := by unfold maxLen at hcm; omega
 have st0 : D6 w ((w.alloc (.cells #[.int .i64 ck, .string (forty ct), .slice A n c, .int .i64 K, .string (forty cn), .int .i64 cq, .bool cb] 31)).alloc (.cells #[.int .i64 0, .string ⟨#[]⟩, .slice none 0 0, .int .i64 0, .string ⟨#[]⟩, .int .i64 0, .bool false] 31)) (.slice none 0 0) (cutTo L 0) #[.int .i64 ck, .string (forty ct), .slice A n c, .int .i64 K, .string (forty cn), .int .i64 cq, .bool cb] := by
  have e1 : (w.alloc (.cells #[.int .i64 ck, .string (forty ct), .slice A n c, .int .i64 K, .string (forty cn), .int .i64 cq, .bool cb] 31)).heap.size = w.heap.size + 1 := by simp
  have h := Has.new (w.alloc (.cells #[.int .i64 ck, .string (forty ct), .slice A n c, .int .i64 K, .string (forty cn), .int .i64 cq, .bool cb] 31)) 31 #[.int .i64 0, .string ⟨#[]⟩, .slice none 0 0, .int .i64 0, .string ⟨#[]⟩, .int .i64 0, .bool false]
  rw [e1] at h
  exact ⟨ownC_nil _ _, ((Below.refl w.heap.size w).alloc (Nat.le_refl _) _).alloc (by simp) _, (Has.new w _ _).alloc _, h, by simp⟩
 have S0 := Lib.hid st0
 clear hn hA hnc hcm hf st0
 go_enter Tryz.func6, Tryz.ntmps6
 go_wp2_with fail
 refine (name6_any ct _ ht).mono ?_
 rintro e w1 ⟨rfl, rfl⟩
 obtain ⟨ft, hft⟩ : ∃ x, forty ct = x := ⟨_, rfl⟩
 have HFT := Lib.hid hft
 rw [hft] at S0 ⊢
 clear hft
 go_wp2_with fail
 refine (name6_any cn _ hc).mono ?_
 rintro e w1 ⟨rfl, rfl⟩
 obtain ⟨fn, hfn⟩ : ∃ x, forty cn = x := ⟨_, rfl⟩
 have HFN := Lib.hid hfn
 rw [hfn] at S0 ⊢
 clear hfn
 go_wp2_with fail
 go_loopw [3, 4] (fun v i wr => ∃ k : Nat, k ≤ n ∧ k ≤ 20 ∧ i = .int .i64 k ∧ Hid (D6 w wr v (cutTo L k) #[.int .i64 ck, .string ft, .slice A n c, .int .i64 K, .string fn, .int .i64 cq, .bool cb])) (fun _ i _ => n - (intOf i).toNat)
 case atStart => exact ⟨0, by omega, by omega, rfl, S0⟩
 case round =>
  obtain ⟨k, hk, hk20, rfl, HS⟩ := hrel
  clear S0
  obtain ⟨Ao, no, co, rfl, HNO, hnoc, hcom, HVO, HZO⟩ := ownC_open HS.out.own
  have hno : no ≤ 20 := by
   have h := cutTo_len L k
   have h2 := HNO.out
   omega
  have p2 : wr.cell? ⟨w.heap.size, 2, none⟩ = some (.slice A n c) := HS.out.prm.cell 2
  by_cases hlt : k < n
  ·by_cases hl2 : k < 20
   ·have hkl : k < L.length := by rw [HN.out]; exact hlt
    have hfit : L[k].nm.size ≤ 140737488355328 := (HF.out L[k] (List.getElem_mem hkl)).1
    obtain ⟨b, off, rfl, hc⟩ := (HA.out.below HS.out.bel) (by intro e; rw [e] at hkl; simp at hkl)
    obtain ⟨c0, c1, c2⟩ := hc k hkl
    have HG := Lib.hid (cutTo_succ L k hkl)
    clear hc
    generalize L[k] = x at *
    obtain ⟨xa, xb, xc⟩ := x
    simp only at c0 c1 c2 hfit
    obtain ⟨M, hM⟩ : ∃ M, cutTo L k = M := ⟨_, rfl⟩
    rw [hM] at HS HNO HVO HG
    clear hM
    have y0 : (wr.alloc (.cells #[.string xa, .int .i64 xb, .bool xc] 29)).frozen? ⟨wr.heap.size, 0, none⟩ = false := (Has.new wr 29 #[.string xa, .int .i64 xb, .bool xc]).free 0
    have HG2 : Hid (cutTo L (k + 1) = M ++ [⟨forty xa, xb, xc⟩]) := HG
    clear HG
    go_wp2_with fail
    refine (name6_any xa _ hfit).mono ?_
    rintro e w1 ⟨rfl, rfl⟩
    generalize forty xa = fm at *
    have HX : Hid (Has (wr.alloc (.cells #[.string fm, .int .i64 xb, .bool xc] 29)) wr.heap.size 29 #[.string fm, .int .i64 xb, .bool xc]) := Has.new wr 29 #[.string fm, .int .i64 xb, .bool xc]
    have HB : Hid (Below wr.heap.size wr (wr.alloc (.cells #[.string fm, .int .i64 xb, .bool xc] 29))) := (Below.refl _ wr).alloc (Nat.le_refl _) _
    have S5 := Lib.hid (HS.out.below HB.out)
    have x0 : (wr.alloc (.cells #[.string fm, .int .i64 xb, .bool xc] 29)).cell? ⟨wr.heap.size, 0, none⟩ = some (.string fm) := HX.out.cell 0
    have x1 : (wr.alloc (.cells #[.string fm, .int .i64 xb, .bool xc] 29)).cell? ⟨wr.heap.size, 1, none⟩ = some (.int .i64 xb) := HX.out.cell 1
    have x2 : (wr.alloc (.cells #[.string fm, .int .i64 xb, .bool xc] 29)).cell? ⟨wr.heap.size, 2, none⟩ = some (.bool xc) := HX.out.cell 2
    have HAP := Lib.hid (appC (wr.alloc (.cells #[.string fm, .int .i64 xb, .bool xc] 29)) (wr.heap.size + 1) (by simp) (w.heap.size + 2) (.slice Ao no co) M ⟨fm, xb, xc⟩ S5.out.own S5.out.big (by have := HNO.out; omega))
    go_wp2_with (at_builtin; refine wpList_app rfl _ _ 25 25 rfl (.slice Ao no co) (.slice (some ⟨wr.heap.size + 1, 0, none⟩) 1 1) rfl rfl ?_; obtain ⟨R, W', hrun, hmade⟩ := HAP.out; refine ⟨R, W', hrun, ?_⟩; have S7 := Lib.hid (S5.out.grown hmade.1 hmade.2); clear hrun hmade HAP x0 x1 x2)
    go_roundw
    case rel => exact ⟨k + 1, by omega, by omega, by go_num, by rw [HG2.out]; exact S7⟩
    case measure => simp [intOf]; omega
   ·obtain rfl : k = 20 := by omega
    have HE := Lib.hid (cutTo_end L 20 (.inr rfl) (by omega))
    have f2 : wr.frozen? ⟨w.heap.size, 2, none⟩ = false := HS.out.prm.free 2
    have HP2 := Lib.hid (HS.out.prm.put 2 (.slice Ao no co))
    have HR2 := Lib.hid (HS.out.res.far (p := ⟨w.heap.size, 2, none⟩) (by show w.heap.size + 1 ≠ w.heap.size; omega) (.slice Ao no co))
    have g0 : (wr.setCell ⟨w.heap.size, 2, none⟩ (.slice Ao no co)).cell? ⟨w.heap.size, 0, none⟩ = some (.int .i64 ck) := HP2.out.cell 0
    have g1 : (wr.setCell ⟨w.heap.size, 2, none⟩ (.slice Ao no co)).cell? ⟨w.heap.size, 1, none⟩ = some (.string ft) := HP2.out.cell 1
    have g2 : (wr.setCell ⟨w.heap.size, 2, none⟩ (.slice Ao no co)).cell? ⟨w.heap.size, 2, none⟩ = some (.slice Ao no co) := HP2.out.cell 2
    have g3 : (wr.setCell ⟨w.heap.size, 2, none⟩ (.slice Ao no co)).cell? ⟨w.heap.size, 3, none⟩ = some (.int .i64 K) := HP2.out.cell 3
    have g4 : (wr.setCell ⟨w.heap.size, 2, none⟩ (.slice Ao no co)).cell? ⟨w.heap.size, 4, none⟩ = some (.string fn) := HP2.out.cell 4
    have g5 : (wr.setCell ⟨w.heap.size, 2, none⟩ (.slice Ao no co)).cell? ⟨w.heap.size, 5, none⟩ = some (.int .i64 cq) := HP2.out.cell 5
    have g6 : (wr.setCell ⟨w.heap.size, 2, none⟩ (.slice Ao no co)).cell? ⟨w.heap.size, 6, none⟩ = some (.bool cb) := HP2.out.cell 6
    have r0 : (wr.setCell ⟨w.heap.size, 2, none⟩ (.slice Ao no co)).cell? ⟨w.heap.size + 1, 0, none⟩ = some (.int .i64 0) := HR2.out.cell 0
    have h0 : (wr.setCell ⟨w.heap.size, 2, none⟩ (.slice Ao no co)).frozen? ⟨w.heap.size + 1, 0, none⟩ = false := HR2.out.free 0
    have r1 : (wr.setCell ⟨w.heap.size, 2, none⟩ (.slice Ao no co)).cell? ⟨w.heap.size + 1, 1, none⟩ = some (.string ⟨#[]⟩) := HR2.out.cell 1
    have h1 : (wr.setCell ⟨w.heap.size, 2, none⟩ (.slice Ao no co)).frozen? ⟨w.heap.size + 1, 1, none⟩ = false := HR2.out.free 1
    have r2 : (wr.setCell ⟨w.heap.size, 2, none⟩ (.slice Ao no co)).cell? ⟨w.heap.size + 1, 2, none⟩ = some (.slice none 0 0) := HR2.out.cell 2
    have h2 : (wr.setCell ⟨w.heap.size, 2, none⟩ (.slice Ao no co)).frozen? ⟨w.heap.size + 1, 2, none⟩ = false := HR2.out.free 2
    have r3 : (wr.setCell ⟨w.heap.size, 2, none⟩ (.slice Ao no co)).cell? ⟨w.heap.size + 1, 3, none⟩ = some (.int .i64 0) := HR2.out.cell 3
    have h3 : (wr.setCell ⟨w.heap.size, 2, none⟩ (.slice Ao no co)).frozen? ⟨w.heap.size + 1, 3, none⟩ = false := HR2.out.free 3
    have r4 : (wr.setCell ⟨w.heap.size, 2, none⟩ (.slice Ao no co)).cell? ⟨w.heap.size + 1, 4, none⟩ = some (.string ⟨#[]⟩) := HR2.out.cell 4
    have h4 : (wr.setCell ⟨w.heap.size, 2, none⟩ (.slice Ao no co)).frozen? ⟨w.heap.size + 1, 4, none⟩ = false := HR2.out.free 4
    have r5 : (wr.setCell ⟨w.heap.size, 2, none⟩ (.slice Ao no co)).cell? ⟨w.heap.size + 1, 5, none⟩ = some (.int .i64 0) := HR2.out.cell 5
    have h5 : (wr.setCell ⟨w.heap.size, 2, none⟩ (.slice Ao no co)).frozen? ⟨w.heap.size + 1, 5, none⟩ = false := HR2.out.free 5
    have r6 : (wr.setCell ⟨w.heap.size, 2, none⟩ (.slice Ao no co)).cell? ⟨w.heap.size + 1, 6, none⟩ = some (.bool false) := HR2.out.cell 6
    have h6 : (wr.setCell ⟨w.heap.size, 2, none⟩ (.slice Ao no co)).frozen? ⟨w.heap.size + 1, 6, none⟩ = false := HR2.out.free 6
    go_wp2_with fail
    refine bodyPost_ret (v := .agg #[.int .i64 ck, .string ft, .slice Ao no co, .int .i64 K, .string fn, .int .i64 cq, .bool cb]) (c6End _ (w.heap.size + 1) _ _ _ _ _ _ _ _ rfl ?_) rfl ?_
    ·exact ((((((HR2.out.put 0 _).put 1 _).put 2 _).put 3 _).put 4 _).put 5 _).put 6 _
    ·refine ⟨_, by rw [HFT.out, HFN.out], ?_, ?_⟩
     ·rw [← HE.out]
      exact ownC_down (far7 (g := w.heap.size + 1) (by omega) (OwnC.far HS.out.own (p := ⟨w.heap.size, 2, none⟩) (by show w.heap.size < _; omega) (.slice Ao no co)) _ _ _ _ _ _ _) (by omega)
     ·exact below7 (g := w.heap.size + 1) (by omega) (HS.out.bel.setCell (p := ⟨w.heap.size, 2, none⟩) (by show w.heap.size ≤ w.heap.size; omega) _) _ _ _ _ _ _ _
  ·obtain rfl : k = n := by omega
   have HE := Lib.hid (cutTo_end L k (.inl HN.out.symm) hk20)
   have f2 : wr.frozen? ⟨w.heap.size, 2, none⟩ = false := HS.out.prm.free 2
   have HP2 := Lib.hid (HS.out.prm.put 2 (.slice Ao no co))
   have HR2 := Lib.hid (HS.out.res.far (p := ⟨w.heap.size, 2, none⟩) (by show w.heap.size + 1 ≠ w.heap.size; omega) (.slice Ao no co))
   have g0 : (wr.setCell ⟨w.heap.size, 2, none⟩ (.slice Ao no co)).cell? ⟨w.heap.size, 0, none⟩ = some (.int .i64 ck) := HP2.out.cell 0
   have g1 : (wr.setCell ⟨w.heap.size, 2, none⟩ (.slice Ao no co)).cell? ⟨w.heap.size, 1, none⟩ = some (.string ft) := HP2.out.cell 1
   have g2 : (wr.setCell ⟨w.heap.size, 2, none⟩ (.slice Ao no co)).cell? ⟨w.heap.size, 2, none⟩ = some (.slice Ao no co) := HP2.out.cell 2
   have g3 : (wr.setCell ⟨w.heap.size, 2, none⟩ (.slice Ao no co)).cell? ⟨w.heap.size, 3, none⟩ = some (.int .i64 K) := HP2.out.cell 3
   have g4 : (wr.setCell ⟨w.heap.size, 2, none⟩ (.slice Ao no co)).cell? ⟨w.heap.size, 4, none⟩ = some (.string fn) := HP2.out.cell 4
   have g5 : (wr.setCell ⟨w.heap.size, 2, none⟩ (.slice Ao no co)).cell? ⟨w.heap.size, 5, none⟩ = some (.int .i64 cq) := HP2.out.cell 5
   have g6 : (wr.setCell ⟨w.heap.size, 2, none⟩ (.slice Ao no co)).cell? ⟨w.heap.size, 6, none⟩ = some (.bool cb) := HP2.out.cell 6
   have r0 : (wr.setCell ⟨w.heap.size, 2, none⟩ (.slice Ao no co)).cell? ⟨w.heap.size + 1, 0, none⟩ = some (.int .i64 0) := HR2.out.cell 0
   have h0 : (wr.setCell ⟨w.heap.size, 2, none⟩ (.slice Ao no co)).frozen? ⟨w.heap.size + 1, 0, none⟩ = false := HR2.out.free 0
   have r1 : (wr.setCell ⟨w.heap.size, 2, none⟩ (.slice Ao no co)).cell? ⟨w.heap.size + 1, 1, none⟩ = some (.string ⟨#[]⟩) := HR2.out.cell 1
   have h1 : (wr.setCell ⟨w.heap.size, 2, none⟩ (.slice Ao no co)).frozen? ⟨w.heap.size + 1, 1, none⟩ = false := HR2.out.free 1
   have r2 : (wr.setCell ⟨w.heap.size, 2, none⟩ (.slice Ao no co)).cell? ⟨w.heap.size + 1, 2, none⟩ = some (.slice none 0 0) := HR2.out.cell 2
   have h2 : (wr.setCell ⟨w.heap.size, 2, none⟩ (.slice Ao no co)).frozen? ⟨w.heap.size + 1, 2, none⟩ = false := HR2.out.free 2
   have r3 : (wr.setCell ⟨w.heap.size, 2, none⟩ (.slice Ao no co)).cell? ⟨w.heap.size + 1, 3, none⟩ = some (.int .i64 0) := HR2.out.cell 3
   have h3 : (wr.setCell ⟨w.heap.size, 2, none⟩ (.slice Ao no co)).frozen? ⟨w.heap.size + 1, 3, none⟩ = false := HR2.out.free 3
   have r4 : (wr.setCell ⟨w.heap.size, 2, none⟩ (.slice Ao no co)).cell? ⟨w.heap.size + 1, 4, none⟩ = some (.string ⟨#[]⟩) := HR2.out.cell 4
   have h4 : (wr.setCell ⟨w.heap.size, 2, none⟩ (.slice Ao no co)).frozen? ⟨w.heap.size + 1, 4, none⟩ = false := HR2.out.free 4
   have r5 : (wr.setCell ⟨w.heap.size, 2, none⟩ (.slice Ao no co)).cell? ⟨w.heap.size + 1, 5, none⟩ = some (.int .i64 0) := HR2.out.cell 5
   have h5 : (wr.setCell ⟨w.heap.size, 2, none⟩ (.slice Ao no co)).frozen? ⟨w.heap.size + 1, 5, none⟩ = false := HR2.out.free 5
   have r6 : (wr.setCell ⟨w.heap.size, 2, none⟩ (.slice Ao no co)).cell? ⟨w.heap.size + 1, 6, none⟩ = some (.bool false) := HR2.out.cell 6
   have h6 : (wr.setCell ⟨w.heap.size, 2, none⟩ (.slice Ao no co)).frozen? ⟨w.heap.size + 1, 6, none⟩ = false := HR2.out.free 6
   go_wp2_with fail
   refine bodyPost_ret (v := .agg #[.int .i64 ck, .string ft, .slice Ao no co, .int .i64 K, .string fn, .int .i64 cq, .bool cb]) (c6End _ (w.heap.size + 1) _ _ _ _ _ _ _ _ rfl ?_) rfl ?_
   ·exact ((((((HR2.out.put 0 _).put 1 _).put 2 _).put 3 _).put 4 _).put 5 _).put 6 _
   ·refine ⟨_, by rw [HFT.out, HFN.out], ?_, ?_⟩
    ·rw [← HE.out]
     exact ownC_down (far7 (g := w.heap.size + 1) (by omega) (OwnC.far HS.out.own (p := ⟨w.heap.size, 2, none⟩) (by show w.heap.size < _; omega) (.slice Ao no co)) _ _ _ _ _ _ _) (by omega)
    ·exact below7 (g := w.heap.size + 1) (by omega) (HS.out.bel.setCell (p := ⟨w.heap.size, 2, none⟩) (by show w.heap.size ≤ w.heap.size; omega) _) _ _ _ _ _ _ _
end Go.Proofs.YtnpmgempkoeapaaGreatDoor
