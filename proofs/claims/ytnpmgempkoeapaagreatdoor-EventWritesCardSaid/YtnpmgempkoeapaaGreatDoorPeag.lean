/-
  Put together, as far as it is used: Qb.
-/
import Derived.Test.YtnpmgempkoeapaaGreatDoorPeac
import Derived.Test.YtnpmgempkoeapaaGreatDoorPead
import Derived.Test.YtnpmgempkoeapaaGreatDoorPeaf
set_option linter.unusedVariables false
set_option linter.unusedSimpArgs false
set_option linter.defProp false
namespace Go.Proofs.YtnpmgempkoeapaaGreatDoor
open Go.RowKit Dg
def forty (s : ByteArray) : ByteArray := if 40 < s.size then s.extract 0 40 else s
def kind5 (k : Int) : Int := (if k < 0 then -(k + 1) else k) % 5
def Vl.good (x : Vl) : Vl :=
 if kind5 x.k = 0 then ⟨0, 0, ⟨#[]⟩⟩ else if kind5 x.k = 1 then ⟨1, if x.n % 2 = 0 then 0 else 1, ⟨#[]⟩⟩ else if kind5 x.k = 2 then ⟨2, x.n, ⟨#[]⟩⟩
 else if kind5 x.k = 3 then ⟨3, 0, if Lib.validD (forty x.s).data.toList then forty x.s else ⟨#[]⟩⟩ else ⟨4, 0, forty x.s⟩
theorem kind_neg {k : Int} (h : k < 0) : ∃ c : Int, -((k + 1).tmod 5) = c ∧ kind5 k = c ∧ (c = 0 ∨ c = 1 ∨ c = 2 ∨ c = 3 ∨ c = 4) := by
 have e : kind5 k = -((k + 1).tmod 5) := by
  unfold kind5
  rw [if_pos h, ← Int.neg_tmod, Int.tmod_eq_emod_of_nonneg (by omega)]
 refine ⟨_, rfl, e, ?_⟩
 rw [← e]
 unfold kind5
 rw [if_pos h]
 omega
theorem kind_pos {k : Int} (h : ¬ k < 0) : ∃ c : Int, k.tmod 5 = c ∧ kind5 k = c ∧ (c = 0 ∨ c = 1 ∨ c = 2 ∨ c = 3 ∨ c = 4) := by
 have e : kind5 k = k.tmod 5 := by
  unfold kind5
  rw [if_neg h, Int.tmod_eq_emod_of_nonneg (by omega)]
 refine ⟨_, rfl, e, ?_⟩
 rw [← e]
 unfold kind5
 rw [if_neg h]
 omega
theorem odd_tmod (n : Int) : n.tmod 2 = 0 ↔ n % 2 = 0 := by
 rw [← Int.dvd_iff_tmod_eq_zero, ← Int.dvd_iff_emod_eq_zero]
theorem forty_size (s : ByteArray) : (forty s).size ≤ 40 := by
 unfold forty; split
 ·simp; omega
 ·omega
theorem goodEnd (w : World) (o1 o3 : Obj) (c0 c1 c2 : Value) (tmps : Array Value) (hp : tmps.getD 2 undef = .pointer (some ⟨w.heap.size + 1, 0, none⟩)) :
 (results Tryz.f51 tmps).run Tryz.prog (((w.alloc o1).alloc (.cells #[c0, c1, c2] 87)).alloc o3) = .ok (.agg #[c0, c1, c2]) (((w.alloc o1).alloc (.cells #[c0, c1, c2] 87)).alloc o3) := by
 have hh : Has (((w.alloc o1).alloc (.cells #[c0, c1, c2] 87)).alloc o3) (w.heap.size + 1) 87 #[c0, c1, c2] := by
  have h := Has.new (w.alloc o1) 87 #[c0, c1, c2]
  rw [show (w.alloc o1).heap.size = w.heap.size + 1 by simp] at h
  exact h.alloc o3
 exact results_cell_row rfl _ _ (w.heap.size + 1) 87 #[c0, c1, c2] (0, 0) _ hp hh Tryz.underlying87 rfl (by kernel_rfl)
set_option maxHeartbeats 4000000 in
set_option maxRecDepth 100000 in
theorem good_any (k n : Int) (s : ByteArray) (w : World) (hs : s.size ≤ 140737488355328) (h0 : -9223372036854775808 ≤ k) (h1 : k ≤ 9223372036854775807) :
 Calls Tryz.prog 51 #[.agg #[.int .i64 k, .int .i64 n, .string s]] w fun e w' => e = .returned (Vl.val (Vl.good ⟨k, n, s⟩)) ∧ Hid (Below w.heap.size w w') := by
 have HB := fun o1 o2 o3 => Lib.hid ((((Below.refl w.heap.size w).alloc (Nat.le_refl _) o1).alloc (by simp) o2).alloc (by simp; omega) o3)
 have CU := Lib.hid (fun W => refUtf8_any (forty s) W (by have := forty_size s; omega))
 have HO := Lib.hid (odd_tmod n)
 obtain ⟨t, ht⟩ : ∃ t, t = forty s := ⟨_, rfl⟩
 have HT := Lib.hid ht
 rw [← ht] at CU
 clear ht
 by_cases hk : k < 0
 ·obtain ⟨c, hc, hk5, hcs⟩ := kind_neg hk
  have HK5 := Lib.hid hk5
  clear hk5
  by_cases hz : 40 < s.size
  ·have HF : Hid (s.extract 0 40 = t) := by show _ = _; rw [HT.out]; unfold forty; rw [if_pos hz]
   have HF' := HF.out
   rcases hcs with rfl | rfl | rfl | rfl | rfl
   ·go_enter Tryz.func51, Tryz.ntmps51
    go_wp2_with fail
    exact bodyPost_ret (goodEnd _ _ _ _ _ _ _ rfl) rfl ⟨by simp [Vl.good, HK5.out, Vl.val], HB _ _ _⟩
   ·by_cases hn : n % 2 = 0
    ·have hq : (n.tmod 2 != 0) = false := by simp [HO.out, hn]
     go_enter Tryz.func51, Tryz.ntmps51
     go_wp2_with fail
     exact bodyPost_ret (goodEnd _ _ _ _ _ _ _ rfl) rfl ⟨by simp [Vl.good, HK5.out, hn, Vl.val], HB _ _ _⟩
    ·have hq : (n.tmod 2 != 0) = true := by simp [HO.out, hn]
     go_enter Tryz.func51, Tryz.ntmps51
     go_wp2_with fail
     exact bodyPost_ret (goodEnd _ _ _ _ _ _ _ rfl) rfl ⟨by simp [Vl.good, HK5.out, hn, Vl.val], HB _ _ _⟩
   ·go_enter Tryz.func51, Tryz.ntmps51
    go_wp2_with fail
    exact bodyPost_ret (goodEnd _ _ _ _ _ _ _ rfl) rfl ⟨by simp [Vl.good, HK5.out, Vl.val], HB _ _ _⟩
   ·go_enter Tryz.func51, Tryz.ntmps51
    go_wp2_with fail
    refine (CU.out _).mono ?_
    rintro e w1 ⟨rfl, rfl⟩
    cases hv : Lib.validD _
    ·go_wp2_with fail
     exact bodyPost_ret (goodEnd _ _ _ _ _ _ _ rfl) rfl ⟨by simp [Vl.good, HK5.out, Vl.val, ← HT.out, hv], HB _ _ _⟩
    ·go_wp2_with fail
     exact bodyPost_ret (goodEnd _ _ _ _ _ _ _ rfl) rfl ⟨by simp [Vl.good, HK5.out, Vl.val, ← HT.out, hv], HB _ _ _⟩
   ·go_enter Tryz.func51, Tryz.ntmps51
    go_wp2_with fail
    exact bodyPost_ret (goodEnd _ _ _ _ _ _ _ rfl) rfl ⟨by simp [Vl.good, HK5.out, Vl.val, ← HT.out], HB _ _ _⟩
  ·have HF : Hid (s = t) := by show _ = _; rw [HT.out]; unfold forty; rw [if_neg hz]
   clear HT
   obtain rfl := HF.out
   clear HF
   rcases hcs with rfl | rfl | rfl | rfl | rfl
   ·go_enter Tryz.func51, Tryz.ntmps51
    go_wp2_with fail
    exact bodyPost_ret (goodEnd _ _ _ _ _ _ _ rfl) rfl ⟨by simp [Vl.good, HK5.out, Vl.val], HB _ _ _⟩
   ·by_cases hn : n % 2 = 0
    ·have hq : (n.tmod 2 != 0) = false := by simp [HO.out, hn]
     go_enter Tryz.func51, Tryz.ntmps51
     go_wp2_with fail
     exact bodyPost_ret (goodEnd _ _ _ _ _ _ _ rfl) rfl ⟨by simp [Vl.good, HK5.out, hn, Vl.val], HB _ _ _⟩
    ·have hq : (n.tmod 2 != 0) = true := by simp [HO.out, hn]
     go_enter Tryz.func51, Tryz.ntmps51
     go_wp2_with fail
     exact bodyPost_ret (goodEnd _ _ _ _ _ _ _ rfl) rfl ⟨by simp [Vl.good, HK5.out, hn, Vl.val], HB _ _ _⟩
   ·go_enter Tryz.func51, Tryz.ntmps51
    go_wp2_with fail
    exact bodyPost_ret (goodEnd _ _ _ _ _ _ _ rfl) rfl ⟨by simp [Vl.good, HK5.out, Vl.val], HB _ _ _⟩
   ·go_enter Tryz.func51, Tryz.ntmps51
    go_wp2_with fail
    refine (CU.out _).mono ?_
    rintro e w1 ⟨rfl, rfl⟩
    cases hv : Lib.validD _
    ·go_wp2_with fail
     exact bodyPost_ret (goodEnd _ _ _ _ _ _ _ rfl) rfl ⟨by simp [Vl.good, HK5.out, Vl.val, forty, hz, hv], HB _ _ _⟩
    ·go_wp2_with fail
     exact bodyPost_ret (goodEnd _ _ _ _ _ _ _ rfl) rfl ⟨by simp [Vl.good, HK5.out, Vl.val, forty, hz, hv], HB _ _ _⟩
   ·go_enter Tryz.func51, Tryz.ntmps51
    go_wp2_with fail
    exact bodyPost_ret (goodEnd _ _ _ _ _ _ _ rfl) rfl ⟨by simp [Vl.good, HK5.out, Vl.val, forty, hz], HB _ _ _⟩
 ·obtain ⟨c, hc, hk5, hcs⟩ := kind_pos hk
  have HK5 := Lib.hid hk5
  clear hk5
  by_cases hz : 40 < s.size
  ·have HF : Hid (s.extract 0 40 = t) := by show _ = _; rw [HT.out]; unfold forty; rw [if_pos hz]
   have HF' := HF.out
   rcases hcs with rfl | rfl | rfl | rfl | rfl
   ·go_enter Tryz.func51, Tryz.ntmps51
    go_wp2_with fail
    exact bodyPost_ret (goodEnd _ _ _ _ _ _ _ rfl) rfl ⟨by simp [Vl.good, HK5.out, Vl.val], HB _ _ _⟩
   ·by_cases hn : n % 2 = 0
    ·have hq : (n.tmod 2 != 0) = false := by simp [HO.out, hn]
     go_enter Tryz.func51, Tryz.ntmps51
     go_wp2_with fail
     exact bodyPost_ret (goodEnd _ _ _ _ _ _ _ rfl) rfl ⟨by simp [Vl.good, HK5.out, hn, Vl.val], HB _ _ _⟩
    ·have hq : (n.tmod 2 != 0) = true := by simp [HO.out, hn]
     go_enter Tryz.func51, Tryz.ntmps51
     go_wp2_with fail
     exact bodyPost_ret (goodEnd _ _ _ _ _ _ _ rfl) rfl ⟨by simp [Vl.good, HK5.out, hn, Vl.val], HB _ _ _⟩
   ·go_enter Tryz.func51, Tryz.ntmps51
    go_wp2_with fail
    exact bodyPost_ret (goodEnd _ _ _ _ _ _ _ rfl) rfl ⟨by simp [Vl.good, HK5.out, Vl.val], HB _ _ _⟩
   ·go_enter Tryz.func51, Tryz.ntmps51
    go_wp2_with fail
    refine (CU.out _).mono ?_
    rintro e w1 ⟨rfl, rfl⟩
    cases hv : Lib.validD _
    ·go_wp2_with fail
     exact bodyPost_ret (goodEnd _ _ _ _ _ _ _ rfl) rfl ⟨by simp [Vl.good, HK5.out, Vl.val, ← HT.out, hv], HB _ _ _⟩
    ·go_wp2_with fail
     exact bodyPost_ret (goodEnd _ _ _ _ _ _ _ rfl) rfl ⟨by simp [Vl.good, HK5.out, Vl.val, ← HT.out, hv], HB _ _ _⟩
   ·go_enter Tryz.func51, Tryz.ntmps51
    go_wp2_with fail
    exact bodyPost_ret (goodEnd _ _ _ _ _ _ _ rfl) rfl ⟨by simp [Vl.good, HK5.out, Vl.val, ← HT.out], HB _ _ _⟩
  ·have HF : Hid (s = t) := by show _ = _; rw [HT.out]; unfold forty; rw [if_neg hz]
   clear HT
   obtain rfl := HF.out
   clear HF
   rcases hcs with rfl | rfl | rfl | rfl | rfl
   ·go_enter Tryz.func51, Tryz.ntmps51
    go_wp2_with fail
    exact bodyPost_ret (goodEnd _ _ _ _ _ _ _ rfl) rfl ⟨by simp [Vl.good, HK5.out, Vl.val], HB _ _ _⟩
   ·by_cases hn : n % 2 = 0
    ·have hq : (n.tmod 2 != 0) = false := by simp [HO.out, hn]
     go_enter Tryz.func51, Tryz.ntmps51
     go_wp2_with fail
     exact bodyPost_ret (goodEnd _ _ _ _ _ _ _ rfl) rfl ⟨by simp [Vl.good, HK5.out, hn, Vl.val], HB _ _ _⟩
    ·have hq : (n.tmod 2 != 0) = true := by simp [HO.out, hn]
     go_enter Tryz.func51, Tryz.ntmps51
     go_wp2_with fail
     exact bodyPost_ret (goodEnd _ _ _ _ _ _ _ rfl) rfl ⟨by simp [Vl.good, HK5.out, hn, Vl.val], HB _ _ _⟩
   ·go_enter Tryz.func51, Tryz.ntmps51
    go_wp2_with fail
    exact bodyPost_ret (goodEnd _ _ _ _ _ _ _ rfl) rfl ⟨by simp [Vl.good, HK5.out, Vl.val], HB _ _ _⟩
   ·go_enter Tryz.func51, Tryz.ntmps51
    go_wp2_with fail
    refine (CU.out _).mono ?_
    rintro e w1 ⟨rfl, rfl⟩
    cases hv : Lib.validD _
    ·go_wp2_with fail
     exact bodyPost_ret (goodEnd _ _ _ _ _ _ _ rfl) rfl ⟨by simp [Vl.good, HK5.out, Vl.val, forty, hz, hv], HB _ _ _⟩
    ·go_wp2_with fail
     exact bodyPost_ret (goodEnd _ _ _ _ _ _ _ rfl) rfl ⟨by simp [Vl.good, HK5.out, Vl.val, forty, hz, hv], HB _ _ _⟩
   ·go_enter Tryz.func51, Tryz.ntmps51
    go_wp2_with fail
    exact bodyPost_ret (goodEnd _ _ _ _ _ _ _ rfl) rfl ⟨by simp [Vl.good, HK5.out, Vl.val, forty, hz], HB _ _ _⟩
theorem kind5_cases (k : Int) : kind5 k = 0 ∨ kind5 k = 1 ∨ kind5 k = 2 ∨ kind5 k = 3 ∨ kind5 k = 4 := by
 unfold kind5; split <;> omega
theorem empty_zero : (⟨#[]⟩ : ByteArray).size = 0 := rfl
theorem good_size (x : Vl) : x.good.s.size ≤ 40 := by
 have h40 := forty_size x.s
 unfold Vl.good
 rcases kind5_cases x.k with h | h | h | h | h <;> simp only [h] <;> simp [empty_zero]
 ·split
  ·exact h40
  ·rw [empty_zero]; omega
 ·exact h40
theorem good_fits (x : Vl) (h : x.fits) : x.good.fits := by
 have h40 := good_size x
 obtain ⟨⟨h1, h2, h3⟩, h4, h5⟩ := h
 refine ⟨⟨?_, ?_, by omega⟩, ?_, ?_⟩
 all_goals
  unfold Vl.good
  rcases kind5_cases x.k with h | h | h | h | h <;> simp only [h] <;> simp
  all_goals first | omega | (split <;> omega)
theorem ownV_open {B : Nat} {w : World} {v : Value} {L : List Vl} (h : OwnV B w v L) : ∃ A n c, v = .slice A n c ∧ Hid (L.length = n) ∧ n ≤ c ∧ c ≤ maxLen ∧ Hid (VRow w A L) ∧ Hid (A = none → c = 0) := by
 obtain ⟨A, c, e, h1, h2, h3, h4⟩ := ownV_row h
 exact ⟨A, L.length, c, e, rfl, h1, h2, h3, h4⟩
theorem appR (w : World) (g : Nat) (hg0 : g = w.heap.size) (B : Nat) (v : Value) (L : List Vl) (x : Vl) (h : OwnV B w v L) (hB : B ≤ w.heap.size) (hl : L.length ≤ 1000) :
 ∃ R W', (Builtin.append_ #[24, 24] 24 #[v, .slice (some ⟨g, 0, none⟩) 1 1]).run Tryz.prog (w.alloc (.cells #[.int .i64 x.k, .int .i64 x.n, .string x.s] 87)) = .ok R W' ∧ OwnV B W' R (L ++ [x]) ∧ Below B w W' := by
 subst hg0
 obtain ⟨i0, hi, hz0, hz1, hz2⟩ := info_parts infoV
 obtain ⟨R, W', hrun, hown, hg, _⟩ := run_append_own (P := Tryz.prog) (w.alloc (.cells x.cells.toArray 87)) B 24 24 87 i0 _ 3 32 Tryz.underlying24 hi hz0 hz1 hz2 rfl (by decide) v L.length (L.flatMap Vl.cells) (h.alloc _)
  ⟨w.heap.size, 0, none⟩ 1 1 x.cells rfl (fun j u hj => by
    have := (Has.new w 87 x.cells.toArray).cell j
    rw [List.getElem?_toArray] at this
    rw [Addr.add_lit, Nat.zero_add]
    exact this.trans hj) (fun u hu => by simp [Vl.cells] at hu; rcases hu with rfl | rfl | rfl <;> rfl) (by unfold maxLen; omega) (by omega) (by simp; omega)
 refine ⟨R, W', hrun, ?_, ?_⟩
 ·unfold OwnV; rw [List.flatMap_append, List.length_append]; simpa using hown
 ·exact ((Below.refl B w).alloc hB _).grown hg (by simp; omega) fun k hk => (World.ownsRow.lt h k hk).1
theorem ownV_dn {B B' : Nat} {w : World} {v : Value} {l : List Vl} (h : OwnV B w v l) (hb : B' ≤ B) : OwnV B' w v l := by
 obtain ⟨h1, h2⟩ := h
 refine ⟨h1, ?_⟩
 rcases h2 with h2 | ⟨g, cap, cur, e, hg, r⟩
 ·exact .inl h2
 ·exact .inr ⟨g, cap, cur, e, Nat.le_trans hb hg, r⟩
def vlNil : Vl := ⟨0, 0, ⟨#[]⟩⟩
def rowOf (c : Cl) (v : Vl) : Vl := if c.no = true ∧ v.k % 3 = 0 then vlNil else Vl.good ⟨c.k, v.n, v.s⟩
def rowAt (M : List Cl) (R : List Vl) (i : Nat) : Vl := match M[i]? with
 | some c => rowOf c (R.getD i vlNil)
 | none => vlNil
def rowTo (M : List Cl) (R : List Vl) (k : Nat) : List Vl := (List.range k).map (rowAt M R)
def rowF (M : List Cl) (R : List Vl) : List Vl := rowTo M R M.length
theorem rowTo_succ (M : List Cl) (R : List Vl) (k : Nat) (h : k < M.length) : rowTo M R (k + 1) = rowTo M R k ++ [rowOf M[k] (R.getD k vlNil)] := by
 unfold rowTo
 rw [List.range_succ, List.map_append]
 simp only [List.map_cons, List.map_nil]
 unfold rowAt
 rw [List.getElem?_eq_getElem h]
theorem rowOf_nil {c : Cl} {v : Vl} (h : c.no = true ∧ v.k % 3 = 0) : rowOf c v = vlNil := if_pos h
theorem rowOf_some {c : Cl} {v : Vl} (h : ¬ (c.no = true ∧ v.k % 3 = 0)) : rowOf c v = Vl.good ⟨c.k, v.n, v.s⟩ := if_neg h
theorem keepA {W : World} {a : Addr} {v : Value} (o : Obj) (h : W.cell? a = some v) : (W.alloc o).cell? a = some v := (((Below.refl W.heap.size W).alloc (Nat.le_refl _) o).cell (World.block_lt_of_cell? _ _ h)).trans h
theorem rowTo_len (M : List Cl) (R : List Vl) (k : Nat) : (rowTo M R k).length = k := by simp [rowTo]
theorem mod3 (n : Int) : n.tmod 3 = 0 ↔ n % 3 = 0 := by
 rw [← Int.dvd_iff_tmod_eq_zero, ← Int.dvd_iff_emod_eq_zero]
set_option maxHeartbeats 8000000 in
set_option maxRecDepth 100000 in
theorem row_any (A : Option Addr) (M : List Cl) (n c : Nat) (K : Int) (Ar : Option Addr) (R : List Vl) (nr cr : Nat) (w : World) (hn : M.length = n) (hl : n ≤ 900) (hA : CRow w A M) (hM : ∀ x ∈ M, x.fit) (hnr : R.length = nr) (hnc : nr ≤ cr) (hcm : cr ≤ maxLen) (hR : VRow w Ar R) (hf : ∀ x ∈ R, x.fits) :
 Calls Tryz.prog 22 #[.agg #[.slice A n c, .int .i64 K], .slice Ar nr cr] w fun e w' => ∃ v, e = .returned v ∧ Hid (OwnV w.heap.size w' v (rowF M R)) ∧ Hid (Below w.heap.size w w') := by
 have HN := Lib.hid hn
 have HA := Lib.hid hA
 have HF := Lib.hid hM
 have HNR := Lib.hid hnr
 have HR := Lib.hid hR
 have HFR := Lib.hid hf
 have hcm2 : nr ≤ 9223372036854775807 := by unfold maxLen at hcm; omega
 have HB0 := Lib.hid ((Below.refl w.heap.size w).alloc (Nat.le_refl _) (.cells #[.slice A n c, .int .i64 K] 27))
 have HS0 := Lib.hid (Has.new w 27 #[.slice A n c, .int .i64 K])
 clear hn hA hM hnr hR hf hnc hcm
 go_enter Tryz.func22, Tryz.ntmps22
 go_wp2_with fail
 go_loopw [5, 6] (fun x i wr => ∃ (k : Nat) (u : Value), k ≤ n ∧ i = .int .i64 k ∧ u = x ∧ Hid (OwnV (w.heap.size + 1) wr u (rowTo M R k)) ∧ Hid (Below w.heap.size w wr) ∧ Hid (Has wr w.heap.size 27 #[.slice A n c, .int .i64 K])) (fun _ i _ => n - (intOf i).toNat)
 case atStart => exact ⟨0, _, by omega, rfl, rfl, ownV_nil _ _, HB0.out, HS0.out⟩
 case round =>
  obtain ⟨k, u, hk, rfl, rfl, HO, HB, HS⟩ := hrel
  have a0 : wr.cell? ⟨w.heap.size, 0, none⟩ = some (.slice A n c) := HS.out.cell 0
  by_cases hlt : k < n
  ·have hkl : k < M.length := by rw [HN.out]; exact hlt
   obtain ⟨b, off, rfl, hc⟩ := (HA.out.below HB.out) (by intro e; rw [e] at hkl; simp at hkl)
   obtain ⟨c0, c1, c2⟩ := hc k hkl
   obtain ⟨_, hf1, hf2⟩ := HF.out M[k] (List.getElem_mem hkl)
   have HT := Lib.hid (rowTo_succ M R k hkl)
   have HLN := Lib.hid (rowTo_len M R k)
   clear hc
   generalize M[k] = x at *
   obtain ⟨xa, xb, xc⟩ := x
   simp only at c0 c1 c2 hf1 hf2
   obtain ⟨RT, hRT⟩ : ∃ RT, rowTo M R k = RT := ⟨_, rfl⟩
   rw [hRT] at HO HT HLN
   clear hRT
   by_cases hkr : k < nr
   ·have hkrl : k < R.length := by rw [HNR.out]; exact hkr
    obtain ⟨b', off', rfl, hc'⟩ := (HR.out.below HB.out) (by intro e; rw [e] at hkrl; simp at hkrl)
    obtain ⟨d0, d1, d2⟩ := hc' k hkrl
    obtain ⟨⟨g0, g1, g2⟩, g3, g4⟩ := HFR.out R[k] (List.getElem_mem hkrl)
    have HG : Hid (R.getD k vlNil = R[k]) := by show _ = _; rw [List.getD_eq_getElem?_getD, List.getElem?_eq_getElem hkrl]; rfl
    rw [HG.out] at HT
    clear hc' HG
    generalize R[k] = y at *
    obtain ⟨yk, yn, ys⟩ := y
    simp only at d0 d1 d2 g0 g1 g2 g3 g4
    have z0 := keepA (.cells #[.int .i64 0, .int .i64 0, .string ⟨#[]⟩] 87) d0
    have z1 := keepA (.cells #[.int .i64 0, .int .i64 0, .string ⟨#[]⟩] 87) d1
    have z2 := keepA (.cells #[.int .i64 0, .int .i64 0, .string ⟨#[]⟩] 87) d2
    have a1 := keepA (.cells #[.int .i64 yk, .int .i64 yn, .string ys] 87) a0
    have b0 := keepA (.cells #[.int .i64 yk, .int .i64 yn, .string ys] 87) c0
    have b1 := keepA (.cells #[.int .i64 yk, .int .i64 yn, .string ys] 87) c1
    have b2 := keepA (.cells #[.int .i64 yk, .int .i64 yn, .string ys] 87) c2
    have HBW : Hid (Below wr.heap.size wr ((wr.alloc (.cells #[.int .i64 yk, .int .i64 yn, .string ys] 87)).alloc (.cells #[.string xa, .int .i64 xb, .bool xc] 29))) := ((Below.refl _ wr).alloc (Nat.le_refl _) _).alloc (by simp) _
    have HBU := Lib.hid (HB.out.trans (HBW.out.mono HB.out.size))
    have HOU := Lib.hid (HO.out.below HBW.out)
    have HSU := Lib.hid (HS.out.below HBW.out HS.out.lt)
    have HZ1 : Hid (wr.heap.size + 1 + 1 = ((wr.alloc (.cells #[.int .i64 yk, .int .i64 yn, .string ys] 87)).alloc (.cells #[.string xa, .int .i64 xb, .bool xc] 29)).heap.size) := by show _ = _; simp
    by_cases hnull : xc = true ∧ (yk : Int) % 3 = 0
    ·obtain ⟨rfl, h3⟩ := hnull
     have HV : Hid (rowOf ⟨xa, xb, true⟩ ⟨yk, yn, ys⟩ = vlNil) := rowOf_nil ⟨rfl, h3⟩
     rw [HV.out] at HT
     have hq : ((yk : Int).tmod 3 == 0) = true := by simp [(mod3 yk).2 h3]
     have HAP := Lib.hid (appR _ _ HZ1.out (w.heap.size + 1) u RT vlNil HOU.out HSU.out.lt (by have := HLN.out; omega))
     unfold vlNil at HAP
     go_wp2_with (at_builtin; refine wpList_app rfl _ _ 24 24 rfl u (.slice (some ⟨wr.heap.size + 1 + 1, 0, none⟩) 1 1) rfl rfl ?_; obtain ⟨R9, W', hrun, hmade⟩ := HAP.out; refine ⟨R9, W', hrun, ?_⟩; have HM := Lib.hid hmade; clear hrun hmade HAP)
     go_roundw
     case rel => exact ⟨k + 1, R9, by omega, by go_num, rfl, by rw [HT.out]; exact HM.out.1, HBU.out.trans (HM.out.2.mono (Nat.le_succ _)), HSU.out.below HM.out.2 (Nat.lt_succ_self _)⟩
     case measure => simp [intOf]; omega
    ·have HV : Hid (rowOf ⟨xa, xb, xc⟩ ⟨yk, yn, ys⟩ = Vl.good ⟨xb, yn, ys⟩) := rowOf_some hnull
     rw [HV.out] at HT
     have hq : (xc && ((yk : Int).tmod 3 == 0)) = false := by
      cases xc
      ·rfl
      ·have : ¬ (yk : Int) % 3 = 0 := fun h => hnull ⟨rfl, h⟩
       have h2 : ¬ (yk : Int).tmod 3 = 0 := fun h => this ((mod3 yk).1 h)
       exact beq_false_of_ne h2
     have hxx : xc = false ∨ (xc = true ∧ ((yk : Int).tmod 3 == 0) = false) := by
      cases xc
      ·exact .inl rfl
      ·exact .inr ⟨rfl, hq⟩
     clear hnull hq
     rcases hxx with rfl | ⟨rfl, hq⟩
     ·have HBX : Hid (Below wr.heap.size wr ((wr.alloc (.cells #[.int .i64 xb, .int .i64 yn, .string ys] 87)).alloc (.cells #[.string xa, .int .i64 xb, .bool false] 29))) := ((Below.refl _ wr).alloc (Nat.le_refl _) _).alloc (by simp) _
      have HBV := Lib.hid (HB.out.trans (HBX.out.mono HB.out.size))
      have HOV := Lib.hid (HO.out.below HBX.out)
      have HSV := Lib.hid (HS.out.below HBX.out HS.out.lt)
      clear HBX HBW HBU HOU HSU HZ1
      go_wp2_with fail
      refine (good_any xb yn ys _ g2 hf1 hf2).mono ?_
      rintro e1 w1 ⟨rfl, hb1⟩
      have HB1 := Lib.hid (HBV.out.trans (hb1.out.mono HBV.out.size))
      have HO1 := Lib.hid (HOV.out.below hb1.out)
      have HS1 := Lib.hid (HSV.out.below hb1.out HSV.out.lt)
      clear hb1 HBV HOV HSV HB HO HS a0 a1 b0 b1 b2
      generalize Vl.good ⟨xb, yn, ys⟩ = y9 at *
      have HAP := Lib.hid (appR w1 w1.heap.size rfl (w.heap.size + 1) u RT y9 HO1.out HS1.out.lt (by have := HLN.out; omega))
      unfold Vl.val
      go_wp2_with (at_builtin; refine wpList_app rfl _ _ 24 24 rfl u (.slice (some ⟨w1.heap.size, 0, none⟩) 1 1) rfl rfl ?_; obtain ⟨R9, W', hrun, hmade⟩ := HAP.out; refine ⟨R9, W', hrun, ?_⟩; have HM := Lib.hid hmade; clear hrun hmade HAP)
      go_roundw
      case rel => exact ⟨k + 1, R9, by omega, by go_num, rfl, by rw [HT.out]; exact HM.out.1, HB1.out.trans (HM.out.2.mono (Nat.le_succ _)), HS1.out.below HM.out.2 (Nat.lt_succ_self _)⟩
      case measure => simp [intOf]; omega
     ·have HBX : Hid (Below wr.heap.size wr ((wr.alloc (.cells #[.int .i64 xb, .int .i64 yn, .string ys] 87)).alloc (.cells #[.string xa, .int .i64 xb, .bool true] 29))) := ((Below.refl _ wr).alloc (Nat.le_refl _) _).alloc (by simp) _
      have HBV := Lib.hid (HB.out.trans (HBX.out.mono HB.out.size))
      have HOV := Lib.hid (HO.out.below HBX.out)
      have HSV := Lib.hid (HS.out.below HBX.out HS.out.lt)
      clear HBX HBW HBU HOU HSU HZ1
      go_wp2_with fail
      refine (good_any xb yn ys _ g2 hf1 hf2).mono ?_
      rintro e1 w1 ⟨rfl, hb1⟩
      have HB1 := Lib.hid (HBV.out.trans (hb1.out.mono HBV.out.size))
      have HO1 := Lib.hid (HOV.out.below hb1.out)
      have HS1 := Lib.hid (HSV.out.below hb1.out HSV.out.lt)
      clear hb1 HBV HOV HSV HB HO HS a0 a1 b0 b1 b2
      generalize Vl.good ⟨xb, yn, ys⟩ = y9 at *
      have HAP := Lib.hid (appR w1 w1.heap.size rfl (w.heap.size + 1) u RT y9 HO1.out HS1.out.lt (by have := HLN.out; omega))
      unfold Vl.val
      go_wp2_with (at_builtin; refine wpList_app rfl _ _ 24 24 rfl u (.slice (some ⟨w1.heap.size, 0, none⟩) 1 1) rfl rfl ?_; obtain ⟨R9, W', hrun, hmade⟩ := HAP.out; refine ⟨R9, W', hrun, ?_⟩; have HM := Lib.hid hmade; clear hrun hmade HAP)
      go_roundw
      case rel => exact ⟨k + 1, R9, by omega, by go_num, rfl, by rw [HT.out]; exact HM.out.1, HB1.out.trans (HM.out.2.mono (Nat.le_succ _)), HS1.out.below HM.out.2 (Nat.lt_succ_self _)⟩
      case measure => simp [intOf]; omega
   ·have HG : Hid (R.getD k vlNil = vlNil) := by show _ = _; rw [List.getD_eq_getElem?_getD, List.getElem?_eq_none (by rw [HNR.out]; omega)]; rfl
    rw [HG.out] at HT
    have hkz : ¬ (k : Int) < (nr : Int) := by omega
    clear HG
    have a1 := keepA (.cells #[.int .i64 0, .int .i64 0, .string ⟨#[]⟩] 87) a0
    have b0 := keepA (.cells #[.int .i64 0, .int .i64 0, .string ⟨#[]⟩] 87) c0
    have b1 := keepA (.cells #[.int .i64 0, .int .i64 0, .string ⟨#[]⟩] 87) c1
    have b2 := keepA (.cells #[.int .i64 0, .int .i64 0, .string ⟨#[]⟩] 87) c2
    have HBW : Hid (Below wr.heap.size wr ((wr.alloc (.cells #[.int .i64 0, .int .i64 0, .string ⟨#[]⟩] 87)).alloc (.cells #[.string xa, .int .i64 xb, .bool xc] 29))) := ((Below.refl _ wr).alloc (Nat.le_refl _) _).alloc (by simp) _
    have HBU := Lib.hid (HB.out.trans (HBW.out.mono HB.out.size))
    have HOU := Lib.hid (HO.out.below HBW.out)
    have HSU := Lib.hid (HS.out.below HBW.out HS.out.lt)
    have HZ1 : Hid (wr.heap.size + 1 + 1 = ((wr.alloc (.cells #[.int .i64 0, .int .i64 0, .string ⟨#[]⟩] 87)).alloc (.cells #[.string xa, .int .i64 xb, .bool xc] 29)).heap.size) := by show _ = _; simp
    by_cases hnull : xc = true ∧ (0 : Int) % 3 = 0
    ·obtain ⟨rfl, h3⟩ := hnull
     have HV : Hid (rowOf ⟨xa, xb, true⟩ vlNil = vlNil) := rowOf_nil ⟨rfl, h3⟩
     rw [HV.out] at HT
     have hq : ((0 : Int).tmod 3 == 0) = true := by simp [(mod3 0).2 h3]
     have HAP := Lib.hid (appR _ _ HZ1.out (w.heap.size + 1) u RT vlNil HOU.out HSU.out.lt (by have := HLN.out; omega))
     unfold vlNil at HAP
     go_wp2_with (at_builtin; refine wpList_app rfl _ _ 24 24 rfl u (.slice (some ⟨wr.heap.size + 1 + 1, 0, none⟩) 1 1) rfl rfl ?_; obtain ⟨R9, W', hrun, hmade⟩ := HAP.out; refine ⟨R9, W', hrun, ?_⟩; have HM := Lib.hid hmade; clear hrun hmade HAP)
     go_roundw
     case rel => exact ⟨k + 1, R9, by omega, by go_num, rfl, by rw [HT.out]; exact HM.out.1, HBU.out.trans (HM.out.2.mono (Nat.le_succ _)), HSU.out.below HM.out.2 (Nat.lt_succ_self _)⟩
     case measure => simp [intOf]; omega
    ·have HV : Hid (rowOf ⟨xa, xb, xc⟩ vlNil = Vl.good ⟨xb, 0, ⟨#[]⟩⟩) := rowOf_some hnull
     rw [HV.out] at HT
     have hq : (xc && ((0 : Int).tmod 3 == 0)) = false := by
      cases xc
      ·rfl
      ·have : ¬ (0 : Int) % 3 = 0 := fun h => hnull ⟨rfl, h⟩
       have h2 : ¬ (0 : Int).tmod 3 = 0 := fun h => this ((mod3 0).1 h)
       exact beq_false_of_ne h2
     have hxx : xc = false ∨ (xc = true ∧ ((0 : Int).tmod 3 == 0) = false) := by
      cases xc
      ·exact .inl rfl
      ·exact .inr ⟨rfl, hq⟩
     clear hnull hq
     rcases hxx with rfl | ⟨rfl, hq⟩
     ·have HBX : Hid (Below wr.heap.size wr ((wr.alloc (.cells #[.int .i64 xb, .int .i64 0, .string ⟨#[]⟩] 87)).alloc (.cells #[.string xa, .int .i64 xb, .bool false] 29))) := ((Below.refl _ wr).alloc (Nat.le_refl _) _).alloc (by simp) _
      have HBV := Lib.hid (HB.out.trans (HBX.out.mono HB.out.size))
      have HOV := Lib.hid (HO.out.below HBX.out)
      have HSV := Lib.hid (HS.out.below HBX.out HS.out.lt)
      clear HBX HBW HBU HOU HSU HZ1
      go_wp2_with fail
      refine (good_any xb 0 ⟨#[]⟩ _ (by simp [ByteArray.size]) hf1 hf2).mono ?_
      rintro e1 w1 ⟨rfl, hb1⟩
      have HB1 := Lib.hid (HBV.out.trans (hb1.out.mono HBV.out.size))
      have HO1 := Lib.hid (HOV.out.below hb1.out)
      have HS1 := Lib.hid (HSV.out.below hb1.out HSV.out.lt)
      clear hb1 HBV HOV HSV HB HO HS a0 a1 b0 b1 b2
      generalize Vl.good ⟨xb, 0, ⟨#[]⟩⟩ = y9 at *
      have HAP := Lib.hid (appR w1 w1.heap.size rfl (w.heap.size + 1) u RT y9 HO1.out HS1.out.lt (by have := HLN.out; omega))
      unfold Vl.val
      go_wp2_with (at_builtin; refine wpList_app rfl _ _ 24 24 rfl u (.slice (some ⟨w1.heap.size, 0, none⟩) 1 1) rfl rfl ?_; obtain ⟨R9, W', hrun, hmade⟩ := HAP.out; refine ⟨R9, W', hrun, ?_⟩; have HM := Lib.hid hmade; clear hrun hmade HAP)
      go_roundw
      case rel => exact ⟨k + 1, R9, by omega, by go_num, rfl, by rw [HT.out]; exact HM.out.1, HB1.out.trans (HM.out.2.mono (Nat.le_succ _)), HS1.out.below HM.out.2 (Nat.lt_succ_self _)⟩
      case measure => simp [intOf]; omega
     ·exact absurd hq (by decide)
  ·obtain rfl : k = n := by omega
   have HTF : Hid (rowF M R = rowTo M R k) := by show _ = _; unfold rowF; rw [HN.out]
   go_wp2_with fail
   go_ret
   exact ⟨u, rfl, by rw [HTF.out]; exact ownV_dn HO.out (Nat.le_succ _), HB⟩
end Go.Proofs.YtnpmgempkoeapaaGreatDoor
