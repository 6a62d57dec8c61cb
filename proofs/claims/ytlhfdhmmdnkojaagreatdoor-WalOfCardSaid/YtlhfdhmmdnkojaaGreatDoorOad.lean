/-
  Put together, as far as it is used: NextW, PtM, RPoint, Ma, Conc, Mb, PtZ, WvN.
-/
import Derived.Test.YtlhfdhmmdnkojaaGreatDoorOac
import Derived.Laws.ResultCell
import Derived.Test.YtlhfdhmmdnkojaaGreatDoorOaa
import Derived.Test.YtlhfdhmmdnkojaaGreatDoorOab
import Derived.Test.YtlhfdhmmdnkojaaGreatDoorShelf
import Derived.OpenShut
import Derived.Lib.AppendStr
import Derived.Lib.AppendZerosOnto
import Derived.Laws.AppendOwnNone
namespace Go.Proofs.YtlhfdhmmdnkojaaGreatDoor
open Go.RowKit Dg
set_option maxRecDepth 100000
theorem wEnd2 {fn : Func} {p u : Tmp} (h : fn.results = #[.cell p 143, .tmp u]) (w' : World) (g : Nat) (c0 c1 c2 : Value) (tmps : Array Value) (hp : tmps.getD p undef = .pointer (some ⟨g, 0, none⟩)) (hh : Has w' g 143 #[c0, c1, c2]) :
    (results fn tmps).run Tryz.prog w' = .ok (.tuple #[.agg #[c0, c1, c2], tmps.getD u undef]) w' := by
  rw [results_cell_tmp h, hp]
  simp only [asAddr, Sem.run_pure, Result.andThen_ok]
  rw [run_loadVar_row w' g 143 143 #[c0, c1, c2] (0, 0) _ hh Tryz.underlying143 rfl (by kernel_rfl)]
  rfl
theorem hput3 {W : World} {g : Nat} {t : TypeId} {a0 a1 a2 : Value} (h : Has W g t #[a0, a1, a2]) (u0 u1 u2 : Value) : Has (((W.setCell ⟨g, 0, none⟩ u0).setCell ⟨g, 1, none⟩ u1).setCell ⟨g, 2, none⟩ u2) g t #[u0, u1, u2] := ((h.put 0 u0).put 1 u1).put 2 u2
end Go.Proofs.YtlhfdhmmdnkojaaGreatDoor
namespace Go.Proofs.YtlhfdhmmdnkojaaGreatDoor
open Go.RowKit Dg
set_option maxRecDepth 100000
/-- May a point be? -/
def ptOk (x y z : Int) (T : List Wk) : Bool := decide (0 ≤ x) && decide (0 ≤ y) && decide (0 ≤ z) && wrightF T
set_option maxHeartbeats 8000000 in
theorem pptmay_any {B : Nat} {A : Option Addr} {n c : Nat} {T : List Wk} (x y z : Int) (w : World) (h : OwnW B w (.slice A n c) T) (hl : T.length ≤ 800) (hf : ∀ x ∈ T, x.t.size ≤ 140737488355328 ∧ x.k.size ≤ 900) (hT : Tabs w) :
    Calls Tryz.prog 133 #[.agg #[.int .i64 x, .int .i64 y, .int .i64 z, .slice A n c]] w fun e w' => e = .returned (.bool (ptOk x y z T)) ∧ Hid (Below w.heap.size w w') := by
  have hb0 : Below w.heap.size w (w.alloc (.cells #[.int .i64 x, .int .i64 y, .int .i64 z, .slice A n c] 67)) := (Below.refl _ w).alloc (Nat.le_refl _) _
  have HR := Lib.hid (pwright_any _ (h.below hb0) hl hf (hT.below hb0))
  have HB := Lib.hid hb0
  have HO : Hid (ptOk x y z T = (decide (0 ≤ x) && decide (0 ≤ y) && decide (0 ≤ z) && wrightF T)) := rfl
  clear h hf hT hb0
  generalize wrightF T = r at *
  generalize ptOk x y z T = q at *
  by_cases h0 : 0 ≤ x
  · by_cases h1 : 0 ≤ y
    · by_cases h2 : 0 ≤ z
      · have HO2 : Hid (q = r) := by show _ = _; rw [HO.out]; simp [h0, h1, h2]
        clear HO
        go_enter Tryz.func133, Tryz.ntmps133
        go_wp2_with fail
        refine HR.out.mono ?_
        rintro e w1 ⟨rfl, hb1⟩
        have HB1 := Lib.hid (HB.out.trans (hb1.out.mono HB.out.size))
        clear hb1
        go_wp2_with fail
        go_ret
        exact ⟨by rw [HO2.out]; rfl, HB1⟩
      · have HO2 : Hid (q = false) := by show _ = _; rw [HO.out]; simp [h2]
        clear HO HR
        go_enter Tryz.func133, Tryz.ntmps133
        go_wp2_with fail
        go_ret
        exact ⟨by rw [HO2.out]; rfl, HB⟩
    · have HO2 : Hid (q = false) := by show _ = _; rw [HO.out]; simp [h1]
      clear HO HR
      go_enter Tryz.func133, Tryz.ntmps133
      go_wp2_with fail
      go_ret
      exact ⟨by rw [HO2.out]; rfl, HB⟩
  · have HO2 : Hid (q = false) := by show _ = _; rw [HO.out]; simp [h0]
    clear HO HR
    go_enter Tryz.func133, Tryz.ntmps133
    go_wp2_with fail
    go_ret
    exact ⟨by rw [HO2.out]; rfl, HB⟩
end Go.Proofs.YtlhfdhmmdnkojaaGreatDoor
namespace Go.Proofs.YtlhfdhmmdnkojaaGreatDoor
open Go.RowKit Dg
set_option maxRecDepth 100000
theorem ownW_apart {B : Nat} {w : World} {v : Value} {L : List Wk} {q : Nat} {t : TypeId} {cs : Array Value} (h : OwnW B w v L) (hh : Has w q t cs) (ht : t ≠ 143) (p : Addr) (hp : p.block = q) (u : Value) : OwnW B (w.setCell p u) v L := by
  rcases h.2 with ⟨hv, hn⟩ | ⟨g, cap, cur, hv, hg, hg2, hc, hcm, hsz, ht2⟩
  · exact ⟨h.1, .inl ⟨hv, hn⟩⟩
  · refine ⟨h.1, .inr ⟨g, cap, cur, hv, hg, Has.far (t := 143) (cs := cur) hg2 (fun e => ?_) u, hc, hcm, hsz, ht2⟩⟩
    rw [hp] at e
    subst e
    unfold Has at hh
    rw [hh] at hg2
    simp at hg2
    exact ht hg2.2
/-- What stands while Point goes on. -/
structure PtS (w W : World) (q : Nat) (x y z : Int) (v : Value) (G : List Wk) : Prop where
  own : OwnW w.heap.size W v G
  bel : Below w.heap.size w W
  box : Has W q 67 #[.int .i64 x, .int .i64 y, .int .i64 z, v]
  res : Has W (w.heap.size + 1) 67 #[.int .i64 0, .int .i64 0, .int .i64 0, .slice none 0 0]
  ne : q ≠ w.heap.size + 1
  ge : w.heap.size ≤ q
section
variable {w W : World} {q : Nat} {x y z : Int} {v : Value} {G : List Wk}
theorem PtS.fin (h : PtS w W q x y z v G) : Has ((((W.setCell ⟨w.heap.size + 1, 0, none⟩ (.int .i64 x)).setCell ⟨w.heap.size + 1, 1, none⟩ (.int .i64 y)).setCell ⟨w.heap.size + 1, 2, none⟩ (.int .i64 z)).setCell ⟨w.heap.size + 1, 3, none⟩ v) (w.heap.size + 1) 67 #[.int .i64 x, .int .i64 y, .int .i64 z, v] ∧
    OwnW w.heap.size ((((W.setCell ⟨w.heap.size + 1, 0, none⟩ (.int .i64 x)).setCell ⟨w.heap.size + 1, 1, none⟩ (.int .i64 y)).setCell ⟨w.heap.size + 1, 2, none⟩ (.int .i64 z)).setCell ⟨w.heap.size + 1, 3, none⟩ v) v G ∧
    Below w.heap.size w ((((W.setCell ⟨w.heap.size + 1, 0, none⟩ (.int .i64 x)).setCell ⟨w.heap.size + 1, 1, none⟩ (.int .i64 y)).setCell ⟨w.heap.size + 1, 2, none⟩ (.int .i64 z)).setCell ⟨w.heap.size + 1, 3, none⟩ v) := by
  have h0 := h.res.put 0 (.int .i64 x)
  have h1 := h0.put 1 (.int .i64 y)
  have h2 := h1.put 2 (.int .i64 z)
  have o0 := ownW_apart h.own h.res (by decide) ⟨w.heap.size + 1, 0, none⟩ rfl (.int .i64 x)
  have o1 := ownW_apart o0 h0 (by decide) ⟨w.heap.size + 1, 1, none⟩ rfl (.int .i64 y)
  have o2 := ownW_apart o1 h1 (by decide) ⟨w.heap.size + 1, 2, none⟩ rfl (.int .i64 z)
  have b0 := h.bel.setCell (p := ⟨w.heap.size + 1, 0, none⟩) (by show w.heap.size ≤ w.heap.size + 1; omega) (.int .i64 x)
  have b1 := b0.setCell (p := ⟨w.heap.size + 1, 1, none⟩) (by show w.heap.size ≤ w.heap.size + 1; omega) (.int .i64 y)
  have b2 := b1.setCell (p := ⟨w.heap.size + 1, 2, none⟩) (by show w.heap.size ≤ w.heap.size + 1; omega) (.int .i64 z)
  exact ⟨h2.put 3 v, ownW_apart o2 h2 (by decide) ⟨w.heap.size + 1, 3, none⟩ rfl v, b2.setCell (p := ⟨w.heap.size + 1, 3, none⟩) (by show w.heap.size ≤ w.heap.size + 1; omega) v⟩
end
end Go.Proofs.YtlhfdhmmdnkojaaGreatDoor
namespace Go.Proofs.YtlhfdhmmdnkojaaGreatDoor.Dg

/-- n with one more digit d at place i, in 64 bits. -/
def join (i n d : Nat) : Nat := n + d * 128 ^ i % 18446744073709551616

/-- The number at the head of l, how many bytes it has, the error: f rounds are left, i bytes have been read, they come to n. -/
def yheadF (most : Nat) : Nat → Nat → Nat → List Nat → Nat × Nat × Nat
  | 0, _, _, _ => (0, 0, 2)
  | _ + 1, _, _, [] => (0, 0, 4)
  | f + 1, i, n, b :: l =>
    if 128 ≤ b then yheadF most f (i + 1) (join i n (b % 128)) l
    else if (0 < i ∧ b % 128 = 0) ∨ join i n (b % 128) / 128 ^ i ≠ b % 128 ∨ most < join i n (b % 128) then (0, 0, 2)
    else (join i n (b % 128), i + 1, 0)

section
variable {most f i n b : Nat} {l : List Nat} {R : Nat × Nat × Nat}
theorem head_over (h : yheadF most 0 i n l = R) : R = (0, 0, 2) := by rw [← h]; simp [yheadF]
theorem head_end (h : yheadF most (f + 1) i n [] = R) : R = (0, 0, 4) := by rw [← h]; simp [yheadF]
theorem head_more (h : yheadF most (f + 1) i n (b :: l) = R) (hb : 128 ≤ b) : yheadF most f (i + 1) (join i n (b % 128)) l = R := by
  rw [← h, yheadF, if_pos hb]
theorem head_form (h : yheadF most (f + 1) i n (b :: l) = R) (hb : b < 128) (hc : (0 < i ∧ b % 128 = 0) ∨ join i n (b % 128) / 128 ^ i ≠ b % 128 ∨ most < join i n (b % 128)) : R = (0, 0, 2) := by
  rw [← h, yheadF, if_neg (by omega), if_pos hc]
theorem head_good (h : yheadF most (f + 1) i n (b :: l) = R) (hb : b < 128) (hc : ¬ ((0 < i ∧ b % 128 = 0) ∨ join i n (b % 128) / 128 ^ i ≠ b % 128 ∨ most < join i n (b % 128))) : R = (join i n (b % 128), i + 1, 0) := by
  rw [← h, yheadF, if_neg (by omega), if_neg hc]
end

theorem pow_le_nine : ∀ i, i ≤ 9 → 128 ^ i ≤ 9223372036854775808 := by
  intro i hi
  have := Nat.pow_le_pow_right (n := 128) (by omega) hi
  have e : (128 : Nat) ^ 9 = 9223372036854775808 := by decide
  omega
theorem join_lt {i n d : Nat} (hi : i < 9) (hn : n < 128 ^ i) (hd : d < 128) : join i n d < 128 ^ (i + 1) := by
  have hp := pow_le_nine (i + 1) (by omega)
  have he : (128 : Nat) ^ (i + 1) = 128 ^ i * 128 := Nat.pow_succ ..
  have h1 : d * 128 ^ i ≤ 127 * 128 ^ i := Nat.mul_le_mul_right _ (by omega)
  unfold join
  rw [Nat.mod_eq_of_lt (by omega)]
  omega
theorem join_big {n d : Nat} (i : Nat) (hi : i ≤ 9) (hn : n < 128 ^ i) : join i n d < 18446744073709551616 := by
  have hp := pow_le_nine i hi
  unfold join
  rcases Nat.lt_or_ge i 9 with h | h
  · have h2 : d * 128 ^ i % 18446744073709551616 = 128 ^ i * (d % (18446744073709551616 / 128 ^ i)) := by
      have e : (18446744073709551616 : Nat) = 128 ^ i * (18446744073709551616 / 128 ^ i) := by
        have : i = 0 ∨ i = 1 ∨ i = 2 ∨ i = 3 ∨ i = 4 ∨ i = 5 ∨ i = 6 ∨ i = 7 ∨ i = 8 := by omega
        rcases this with rfl | rfl | rfl | rfl | rfl | rfl | rfl | rfl | rfl <;> decide
      conv => lhs; rw [e]
      rw [Nat.mul_comm d, Nat.mul_mod_mul_left]
    have e : (18446744073709551616 : Nat) = 128 ^ i * (18446744073709551616 / 128 ^ i) := by
      have : i = 0 ∨ i = 1 ∨ i = 2 ∨ i = 3 ∨ i = 4 ∨ i = 5 ∨ i = 6 ∨ i = 7 ∨ i = 8 := by omega
      rcases this with rfl | rfl | rfl | rfl | rfl | rfl | rfl | rfl | rfl <;> decide
    have hq : 0 < 18446744073709551616 / 128 ^ i := Nat.div_pos (by omega) (Nat.pow_pos (by omega))
    have hm := Nat.mod_lt d hq
    rw [h2]
    have h3 : 128 ^ i * (d % (18446744073709551616 / 128 ^ i) + 1) ≤ 128 ^ i * (18446744073709551616 / 128 ^ i) := Nat.mul_le_mul_left _ (by omega)
    rw [Nat.mul_add] at h3
    omega
  · obtain rfl : i = 9 := by omega
    have e9 : (128 : Nat) ^ 9 = 9223372036854775808 := by decide
    rw [e9] at hn ⊢
    omega

/-- A number that is written is read as it was; one above 'most' is refused. -/
theorem head_digs (most : Nat) (rest : List Nat) : ∀ (m f i n : Nat), n < 128 ^ i → (0 < i → 0 < m) → n + m * 128 ^ i < 18446744073709551616 → (digs m).length ≤ f →
    yheadF most f i n (digs m ++ rest) = if most < n + m * 128 ^ i then (0, 0, 2) else (n + m * 128 ^ i, i + (digs m).length, 0) := by
  intro m
  induction m using Nat.strongRecOn with
  | ind m ih =>
    intro f i n hn hm hlt hf
    obtain ⟨f, rfl⟩ : ∃ g, f = g + 1 := ⟨f - 1, by have := digs_pos m; omega⟩
    rcases Nat.lt_or_ge m 128 with h | h
    · have hj : join i n (m % 128) = n + m * 128 ^ i := by
        unfold join
        rw [Nat.mod_eq_of_lt h, Nat.mod_eq_of_lt (by omega)]
      have hd : (n + m * 128 ^ i) / 128 ^ i = m := by
        rw [Nat.add_mul_div_right _ _ (Nat.pow_pos (by omega)), Nat.div_eq_of_lt hn, Nat.zero_add]
      rw [digs_lt h, List.singleton_append, yheadF, if_neg (by omega), hj, hd, Nat.mod_eq_of_lt h]
      by_cases hmost : most < n + m * 128 ^ i
      · rw [if_pos (Or.inr (Or.inr hmost)), if_pos hmost]
      · rw [if_neg (by omega), if_neg hmost]; simp
    · have hj : join i n ((m % 128 + 128) % 128) = n + m % 128 * 128 ^ i := by
        unfold join
        rw [show (m % 128 + 128) % 128 = m % 128 by omega]
        rw [Nat.mod_eq_of_lt]
        have : m % 128 * 128 ^ i ≤ m * 128 ^ i := Nat.mul_le_mul_right _ (by omega)
        omega
      have he : n + m % 128 * 128 ^ i + m / 128 * 128 ^ (i + 1) = n + m * 128 ^ i := by
        rw [Nat.pow_succ, ← Nat.mul_assoc, Nat.mul_right_comm, Nat.add_assoc, ← Nat.add_mul]
        congr 2
        omega
      have hn' : n + m % 128 * 128 ^ i < 128 ^ (i + 1) := by
        have h1 : m % 128 * 128 ^ i ≤ 127 * 128 ^ i := Nat.mul_le_mul_right _ (by omega)
        rw [Nat.pow_succ]
        omega
      rw [digs_ge h, List.cons_append, yheadF, if_pos (by omega), hj, ih (m / 128) (by omega) f (i + 1) _ hn' (fun _ => by omega) (by rw [he]; exact hlt) (by rw [digs_ge h, List.length_cons] at hf; omega), he]
      rw [List.length_cons, show i + 1 + (digs (m / 128)).length = i + ((digs (m / 128)).length + 1) by omega]

/-- It goes on by no more bytes than there are. -/
theorem head_len (most : Nat) : ∀ (f i n : Nat) (l : List Nat), (yheadF most f i n l).2.1 ≤ i + l.length := by
  intro f
  induction f with
  | zero => intro i n l; simp [yheadF]
  | succ f ih =>
    intro i n l
    rcases l with _ | ⟨b, l⟩
    · simp [yheadF]
    · rw [yheadF, List.length_cons]
      by_cases hb : 128 ≤ b
      · rw [if_pos hb]
        have := ih (i + 1) (join i n (b % 128)) l
        omega
      · rw [if_neg hb]
        split
        · simp
        · simp only; omega
theorem head_big (most : Nat) : ∀ (f i n : Nat) (l : List Nat), (yheadF most f i n l).1 ≤ most := by
  intro f
  induction f with
  | zero => intro i n l; simp [yheadF]
  | succ f ih =>
    intro i n l
    rcases l with _ | ⟨b, l⟩
    · simp [yheadF]
    · rw [yheadF]
      by_cases hb : 128 ≤ b
      · rw [if_pos hb]; exact ih _ _ _
      · rw [if_neg hb]
        split
        · simp
        · simp only; omega
/-- What a reader's number is, what is left, and the error. -/
def numF (most : Nat) (l : List Nat) (e : Nat) : Nat × List Nat × Nat :=
  if e ≠ 0 then (0, l, e) else if (yheadF most 10 0 0 l).2.2 ≠ 0 then (0, l, (yheadF most 10 0 0 l).2.2) else ((yheadF most 10 0 0 l).1, l.drop (yheadF most 10 0 0 l).2.1, 0)
theorem numF_le (most : Nat) (l : List Nat) (e : Nat) : (numF most l e).1 ≤ most := by
  unfold numF
  split
  · simp
  · split
    · simp
    · exact head_big ..
end Go.Proofs.YtlhfdhmmdnkojaaGreatDoor.Dg
namespace Go.Proofs.YtlhfdhmmdnkojaaGreatDoor
open Go.RowKit Dg
set_option maxRecDepth 100000
def ybig : Nat := 18446744073709551616
theorem ylen64_any (x : Nat) (w : World) (h : x < ybig) :
    Calls Tryz.prog 151 #[.int .u64 x] w fun e w' => e = .returned (.int .i64 (Lib.bitLen x)) ∧ w = w' :=
  (Tryz.bits_Len64 x w (by omega) (by unfold ybig at h; omega)).mono fun e w' ⟨he, hw⟩ => ⟨by rw [he, Int.toNat_natCast], hw.symm⟩

/-- What 'digits' leaves: a new block, the last one, with the digits. -/
def yDigs (n : Nat) (w : World) (e : Ending) (w' : World) : Prop :=
  e = .returned (.slice (some ⟨w.heap.size, 0, none⟩) (digs n).length (digs n).length) ∧ Has w' w.heap.size 5 ((digs n).map bv).toArray ∧ w'.heap.size = w.heap.size + 1 ∧ Below w.heap.size w w'

set_option maxHeartbeats 400000 in
theorem ydigits_any (n : Nat) (w : World) (h1 : n < ybig) : Calls Tryz.prog 107 #[.int .u64 n] w (yDigs n w) := by
  have hor : bits .or .u64 (n : Int) 1 = ((n ||| 1 : Nat) : Int) := u64_or_nat n 1 (by unfold ybig at h1; exact h1) (by omega)
  have hsz : size n = (digs n).length := size_eq n h1
  have hp := digs_pos n
  have ht := digs_le_ten n h1
  obtain ⟨i0, hi, hz0, hz1, hz2⟩ := info_parts info5
  have hor2 : (n ||| 1) < ybig := by rw [or_one]; unfold ybig at h1 ⊢; split <;> omega
  have hb : ((Lib.bitLen (n ||| 1) : Nat) : Int) ≤ 70 := by unfold size at hsz; omega
  have HQ : Hid ((((Lib.bitLen (n ||| 1) : Nat) : Int) + 6) / 7 = ((digs n).length : Int)) := by show _ = _; unfold size at hsz; omega
  have HO := Lib.hid hor
  have hmk := fun (k : Nat) (hk : k ≤ 10) (W : World) => run_make (P := Tryz.prog) W 37 5 i0 (.int .u8 0) Tryz.underlying37 hi hz0 .i64 .i64 k k (by omega) (by omega) (by rw [hz2]; omega) (by omega)
  have HM := Lib.hid hmk
  have Hz1 := Lib.hid hz1
  clear hsz hor hmk hz1
  go_enter Tryz.func107, Tryz.ntmps107
  go_wp2_with fail
  rw [HO.out]
  refine (ylen64_any _ _ hor2).mono ?_
  rintro e w' ⟨rfl, rfl⟩
  go_wp2_with fail
  rw [HQ.out, HM.out _ ht]
  simp only [Int.toNat_natCast, Hz1.out]
  rw [arr_zero n]
  clear HM HQ HO Hz1
  generalize hL : (digs n).length = L at *
  have HL := Lib.hid hL
  clear hL
  go_wp2_with fail
  go_loopw [14] (fun i wr => ∃ k : Nat, k ≤ L ∧ i = .int .i64 k ∧ Has wr w.heap.size 5 (arr n L k) ∧ wr.heap.size = w.heap.size + 1 ∧ Below w.heap.size w wr) (fun i _ => L - (intOf i).toNat)
  case atStart => exact ⟨0, by omega, rfl, Has.new _ _ _, by simp, (Below.refl _ _).alloc (Nat.le_refl _) _⟩
  case round =>
    obtain ⟨k, hk, rfl, hblk, hsz, hbel⟩ := hrel
    have HB := Lib.hid hblk
    have HS := Lib.hid hsz
    clear hblk hsz
    by_cases hlt : k < L
    · have hc : wr.cell? ⟨w.heap.size, k, none⟩ = some (if k < k then Value.int .u8 ((n / 128 ^ k % 128 + 128 : Nat) : Int) else .int .u8 0) := by
        rw [HB.out.cell, arr_get n L k k hlt]
      have hf := HB.out.free k
      go_wp2_with fail
      go_roundw
      case rel =>
        refine ⟨k + 1, by omega, by go_num, ?_, ?_, ?_⟩
        · rw [bits_or128, ← arr_put]; exact HB.out.put k _
        · rw [size_set]; exact HS.out
        · exact hbel.setCell (Nat.le_refl _) _
      case measure => simp [intOf]; omega
    · obtain rfl : k = L := by omega
      have hc : wr.cell? ⟨w.heap.size, k - 1, none⟩ = some (Value.int .u8 ((n / 128 ^ (k - 1) % 128 + 128 : Nat) : Int)) := by
        rw [HB.out.cell, arr_get n k k (k - 1) (by omega), if_pos (by omega)]
      have hf := HB.out.free (k - 1)
      go_wp2_with fail
      have e : bits .and .u8 ((n : Int) / 128 ^ (k - 1) % 128 + 128) 127 = ((n / 128 ^ (k - 1) % 128 : Nat) : Int) := by
        rw [← bits_and127]; simp
      rw [e]
      go_ret
      refine ⟨by rw [HL.out]; rfl, ?_, ?_, ?_⟩
      · rw [← arr_end n k HL.out hp]; exact HB.out.put (k - 1) _
      · rw [size_set]; exact HS.out
      · exact hbel.setCell (Nat.le_refl _) _

theorem yDigs.made {n : Nat} {w : World} {e : Ending} {w' : World} (h : yDigs n w e w') : ∃ v, e = .returned v ∧ Made w (digs n) v w' := by
  obtain ⟨he, hh, _, hb⟩ := h
  refine ⟨_, he, _, _, rfl, Nat.le_refl _, Rd.of_has hh fun i hi => ?_, hb⟩
  simp [hi]

/-- A slice comes back, with the bytes l, in memory of the call's own. -/
def yOut (w : World) (l : List Nat) (e : Ending) (w' : World) : Prop := ∃ v, e = .returned v ∧ Made w l v w'

set_option maxHeartbeats 400000 in
theorem ybehind_any (A : Option Addr) (l : List Nat) (c : Nat) (A' : Option Addr) (m : List Nat) (d : Nat) (w : World) (hn : l.length ≤ c) (hA : Rd w A l) (hA' : Rd w A' m) (hm : 0 < m.length) (hb : l.length + m.length ≤ 1000000) :
    Calls Tryz.prog 106 #[.slice A l.length c, .slice A' m.length d] w (yOut w (l ++ m)) := by
  obtain ⟨i0, hi, hz0, hz1, hz2⟩ := info_parts info5
  have hr := run_app_grow (P := Tryz.prog) w (t := 37) (tx := 37) 37 Tryz.underlying37 hi hz0 hz1 hz2 A l l.length hA _ m (src_rd w Tryz.underlying37 A' m d hA') (by omega) hb
  have HR := Lib.hid hr
  clear hr
  go_enter Tryz.func106, Tryz.ntmps106
  go_wp2_with (at_builtin; refine wpList_app rfl _ _ 37 37 rfl (.slice A l.length l.length) (.slice A' m.length d) rfl rfl ?_; obtain ⟨R, W', hrun, hmade⟩ := HR.out; refine ⟨R, W', hrun, ?_⟩; have HM := Lib.hid hmade; clear hrun hmade)
  go_ret
  exact ⟨R, rfl, HM.out⟩

theorem Made.yafter {w w1 w2 : World} {l : List Nat} {v : Value} (hb : Below w.heap.size w w1) (h : Made w1 l v w2) : Made w l v w2 := by
  obtain ⟨A, c, e, hc, hr, hb2⟩ := h
  exact ⟨A, c, e, hc, hr, hb.trans (hb2.mono hb.size)⟩
theorem yDigs.out {n : Nat} {w : World} {e : Ending} {w' : World} (h : yDigs n w e w') : ∃ A c, e = .returned (.slice A (digs n).length c) ∧ Rd w' A (digs n) ∧ Below w.heap.size w w' := by
  obtain ⟨v, he, A, c, rfl, _, hr, hb⟩ := h.made
  exact ⟨A, c, he, hr, hb⟩
theorem ybyteCells_sb (s : ByteArray) : byteCells s = (sb s).map bv := by
  simp [byteCells, sb, bv, List.map_map, Function.comp]
theorem ysrc_string (w : World) (s : ByteArray) : Src Tryz.prog 1 9 (.string s) (sb s).length ((sb s).map bv) w := by
  rw [← ybyteCells_sb, sb_length]
  exact Src.ofString w Tryz.underlying9 s
theorem ytext_run (w : World) (b off : Nat) (l : List Nat) (s : ByteArray) (hl : Rd w (some ⟨b, off, none⟩) l) (hb : l.length + s.size ≤ 1000000) :
    ∃ R W', (Builtin.append_ #[37, 9] 37 #[.slice (some ⟨b, off, none⟩) l.length l.length, .string s]).run Tryz.prog w = .ok R W' ∧ Made w (l ++ sb s) R W' := by
  obtain ⟨i0, hi, hz0, hz1, hz2⟩ := info_parts info5
  have hs := ysrc_string w s
  rcases Nat.eq_zero_or_pos s.size with h0 | h0
  · have e : sb s = [] := List.eq_nil_of_length_eq_zero (by rw [sb_length, h0])
    rw [e] at hs ⊢
    refine ⟨_, _, run_app_none w 37 Tryz.underlying37 hi hz1 b off l.length l.length (.string s) hs (Nat.le_refl _), ?_⟩
    rw [List.append_nil]
    exact ⟨_, _, rfl, Nat.le_refl _, hl, Below.refl _ _⟩
  · exact run_app_grow w 37 Tryz.underlying37 hi hz0 hz1 hz2 _ l l.length hl (.string s) (sb s) hs (by rw [sb_length]; omega) (by rw [sb_length]; omega)
set_option maxHeartbeats 400000 in
theorem yText_any (A : Option Addr) (l : List Nat) (c : Nat) (s : ByteArray) (w : World) (hn : l.length ≤ c) (hA : Rd w A l) (hb : l.length ≤ 900000) (h0 : s.size ≤ 1000) :
    Calls Tryz.prog 51 #[.slice A l.length c, .string s] w (yOut w (l ++ (digs s.size ++ sb s))) := by
  have hbig : s.size < ybig := by unfold ybig; omega
  have ht := digs_le_ten s.size hbig
  have hp := digs_pos s.size
  go_enter Tryz.func51, Tryz.ntmps51
  go_wp2_with fail
  refine (ydigits_any s.size _ hbig).mono ?_
  intro e w1 hd
  obtain ⟨rfl, hh, _, hb1⟩ := hd
  have hr : Rd w1 (some ⟨w.heap.size, 0, none⟩) (digs s.size) := Rd.of_has hh fun i hi => by simp [hi]
  have HR := Lib.hid (ytext_run w1 w.heap.size 0 (digs s.size) s hr (by omega))
  clear hh hr
  go_wp2_with (at_builtin; refine wpList_app rfl _ _ 37 9 rfl (.slice (some ⟨w.heap.size, 0, none⟩) (digs s.size).length (digs s.size).length) (.string s) rfl rfl ?_; obtain ⟨R, W', hrun, hmade⟩ := HR.out; refine ⟨R, W', hrun, ?_⟩; have HM := Lib.hid hmade; clear hrun hmade)
  obtain ⟨A', d, rfl, hd, hr2, hb2⟩ := HM.out
  have HR2 := Lib.hid hr2
  clear hr2
  go_wp2_with fail
  refine (ybehind_any A l c A' (digs s.size ++ sb s) d _ hn ((hA.below hb1).below (hb2.mono (Nat.le_refl _))) HR2.out (by rw [List.length_append]; omega) (by rw [List.length_append, sb_length]; omega)).mono ?_
  intro e w2 ho
  have HO := Lib.hid ho
  clear ho
  obtain ⟨v, rfl, hv⟩ := HO.out
  have HV := Lib.hid hv
  clear hv
  go_wp2_with fail
  go_ret
  exact ⟨v, rfl, HV.out.yafter (hb1.trans (hb2.mono hb1.size))⟩

end Go.Proofs.YtlhfdhmmdnkojaaGreatDoor
namespace Go.Proofs.YtlhfdhmmdnkojaaGreatDoor
open Go.RowKit Dg
set_option maxRecDepth 100000

theorem and127_any (x : Nat) (h : x < 256) : bits .and .u8 (x : Int) 127 = ((x % 128 : Nat) : Int) := by
  have hh := u8_and_nat x 127 h (by omega)
  have o := and127 ⟨x, h⟩
  simp only at o
  rw [o] at hh
  exact hh
theorem pow_split : ∀ k, k ≤ 9 → (18446744073709551616 : Nat) = 128 ^ k * (18446744073709551616 / 128 ^ k) := by
  intro i hi
  have : i = 0 ∨ i = 1 ∨ i = 2 ∨ i = 3 ∨ i = 4 ∨ i = 5 ∨ i = 6 ∨ i = 7 ∨ i = 8 ∨ i = 9 := by omega
  rcases this with rfl | rfl | rfl | rfl | rfl | rfl | rfl | rfl | rfl | rfl <;> decide
theorem bits_join (k N d : Nat) (hk : k ≤ 9) (hN : N < 128 ^ k) :
    bits .or .u64 (N : Int) (IntKind.u64.wrap ((d : Int) * 2 ^ (7 * k))) = ((join k N d : Nat) : Int) := by
  have e : IntKind.u64.wrap ((d : Int) * 2 ^ (7 * k)) = ((d * 128 ^ k % 18446744073709551616 : Nat) : Int) := by
    rw [IntKind.wrap_u64, ← pow7, Int.natCast_emod, Int.natCast_mul, Int.natCast_pow]; rfl
  have hp := pow_le_nine k hk
  have hs : d * 128 ^ k % 18446744073709551616 = 2 ^ (7 * k) * (d % (18446744073709551616 / 128 ^ k)) := by
    rw [pow7]
    conv => lhs; rw [pow_split k hk]
    rw [Nat.mul_comm d, Nat.mul_mod_mul_left]
  rw [e, u64_or_nat _ _ (by omega) (Nat.mod_lt _ (by omega))]
  have ho := Nat.two_pow_add_eq_or_of_lt (i := 7 * k) (b := N) (by rw [pow7]; exact hN) (d % (18446744073709551616 / 128 ^ k))
  unfold join
  rw [hs, Nat.or_comm, ← ho, Nat.add_comm]

/-- What 'head' answers. -/
def HeadOut (R : Nat × Nat × Nat) (w : World) (e : Ending) (w' : World) : Prop :=
  e = .returned (.tuple #[.int .u64 (R.1 : Int), .int .i64 (R.2.1 : Int), .int .i64 (R.2.2 : Int)]) ∧ w = w'

set_option maxHeartbeats 1000000 in
theorem yhead_some (b off : Nat) (l : List Nat) (c most : Nat) (w : World) (hn : l.length ≤ 1000000) (hl : ∀ x ∈ l, x < 256) (hc : ∀ i (h : i < l.length), w.cell? ⟨b, off + i, none⟩ = some (bv l[i])) :
    Calls Tryz.prog 168 #[.slice (some ⟨b, off, none⟩) l.length c, .int .u64 most] w (HeadOut (yheadF most 10 0 0 l) w) := by
  have HC := Lib.hid hc
  clear hc
  generalize hR : yheadF most 10 0 0 l = R
  have HR0 := Lib.hid hR
  clear hR
  go_enter Tryz.func168, Tryz.ntmps168
  go_wp2_with fail
  go_loop [7, 10] (fun n i => ∃ k N : Nat, k ≤ 10 ∧ i = .int .i64 k ∧ n = .int .u64 N ∧ Hid (k ≤ 9 → N < 128 ^ k) ∧ k ≤ l.length ∧ Hid (yheadF most (10 - k) k N (l.drop k) = R)) (fun _ i => 10 - (intOf i).toNat)
  case atStart => exact ⟨0, 0, by omega, rfl, rfl, fun _ => by simp, by omega, HR0.out⟩
  case round =>
    clear HR0
    obtain ⟨k, N, hk, rfl, rfl, hN, hkl, HR⟩ := hrel
    by_cases h10 : k < 10
    · obtain ⟨f, hf⟩ : ∃ f, f + 1 = 10 - k := ⟨9 - k, by omega⟩
      have HF := Lib.hid hf
      clear hf
      by_cases hlen : k < l.length
      · have hcell := HC.out k hlen
        have hb := hl l[k] (List.getElem_mem hlen)
        have HD := Lib.hid (List.drop_eq_getElem_cons hlen)
        generalize l[k] = x at *
        unfold bv at hcell
        have hj := bits_join k N (x % 128) (by omega) (hN.out (by omega))
        have hq := int_div_pow (join k N (x % 128)) k
        have HJ9 : Hid (k + 1 ≤ 9 → join k N (x % 128) < 128 ^ (k + 1)) := fun h => join_lt (by omega) (hN.out (by omega)) (by omega)
        have HR1 : Hid (yheadF most (f + 1) k N (x :: l.drop (k + 1)) = R) := by show _ = _; rw [HF.out, ← HD.out]; exact HR.out
        obtain ⟨d, hd⟩ : ∃ d, d = x % 128 := ⟨_, rfl⟩
        have ha := and127_any x hb
        rw [← hd] at hj hq ha
        have HX := Lib.hid hd
        clear hd
        obtain ⟨M, hM⟩ : ∃ M, M = join k N d := ⟨_, rfl⟩
        rw [← hM] at hj hq
        have HM := Lib.hid hM
        clear hM
        obtain ⟨q, hq'⟩ : ∃ q, q = M / 128 ^ k := ⟨_, rfl⟩
        rw [← hq'] at hq
        have HQ := Lib.hid hq'
        clear hq' HR HD
        have hdb : d < 128 := by rw [HX.out]; omega
        have hMb : M < 18446744073709551616 := by rw [HM.out]; exact join_big k (by omega) (hN.out (by omega))
        by_cases h128 : x < 128
        · have g : decide (128 ≤ (x : Int)) = false := by simp; omega
          have bad : ((0 < k ∧ d = 0) ∨ q ≠ d ∨ most < M) → R = (0, 0, 2) := fun hh => head_form HR1.out h128 (by rw [← HX.out, ← HM.out, ← HQ.out]; exact hh)
          have good : ¬ ((0 < k ∧ d = 0) ∨ q ≠ d ∨ most < M) → R = (M, k + 1, 0) := fun hh => by
            have := head_good HR1.out h128 (by rw [← HX.out, ← HM.out, ← HQ.out]; exact hh)
            rw [← HX.out, ← HM.out] at this
            exact this
          have BAD := Lib.hid bad
          have GOOD := Lib.hid good
          clear bad good
          by_cases c1 : 0 < k <;> by_cases c2 : d = 0
          all_goals
            have C2 := Lib.hid c2
            first | (have td : ((d : Int) == 0) = true := by simp; omega) | (have td : ((d : Int) == 0) = false := by simp; omega)
            clear c2
            by_cases c3 : q = d
            all_goals
              have C3 := Lib.hid c3
              first | (have tq : ((q : Int) != (d : Int)) = true := by simp; omega) | (have tq : ((q : Int) != (d : Int)) = false := by simp; omega)
              clear c3
              by_cases c4 : most < M
              all_goals
                go_wp2_with fail
                go_ret3
                first
                  | (have e := BAD.out (by have := C2.out; have := C3.out; omega); exact ⟨by rw [e]; rfl, rfl⟩)
                  | (have e := GOOD.out (by have := C2.out; have := C3.out; omega); exact ⟨by rw [e]; simp, rfl⟩)
        · have g : decide (128 ≤ (x : Int)) = true := by simp; omega
          go_wp2_with fail
          go_round
          case rel => exact ⟨k + 1, M, by omega, by go_num, rfl, (by rw [HM.out, HX.out]; exact HJ9), by omega, by show _ = _; rw [show 10 - (k + 1) = f by have := HF.out; omega, HM.out, HX.out]; exact head_more HR1.out (by omega)⟩
          case measure => simp [intOf]; omega
      · obtain rfl : k = l.length := by omega
        have e : R = (0, 0, 4) := head_end (most := most) (f := f) (i := l.length) (n := N) (by rw [HF.out, ← HR.out, List.drop_length])
        have H := Lib.hid e
        clear e
        go_wp2_with fail
        go_ret3
        exact ⟨by rw [H.out]; rfl, rfl⟩
    · obtain rfl : k = 10 := by omega
      have e : R = (0, 0, 2) := head_over HR.out
      have H := Lib.hid e
      clear e
      go_wp2_with fail
      go_ret3
      exact ⟨by rw [H.out]; rfl, rfl⟩

set_option maxHeartbeats 400000 in
theorem head_none (A : Option Addr) (c most : Nat) (w : World) :
    Calls Tryz.prog 168 #[.slice A 0 c, .int .u64 most] w (HeadOut (0, 0, 4) w) := by
  go_enter Tryz.func168, Tryz.ntmps168
  go_wp2_with fail
  go_loop [7, 10] (fun n i => i = .int .i64 0 ∧ n = .int .u64 0) (fun _ _ => 0)
  case atStart => exact ⟨rfl, rfl⟩
  case round =>
    obtain ⟨rfl, rfl⟩ := hrel
    go_wp2_with fail
    go_ret3
    exact ⟨rfl, rfl⟩
theorem yhead_any (A : Option Addr) (l : List Nat) (c most : Nat) (w : World) (hn : l.length ≤ 1000000) (hl : ∀ x ∈ l, x < 256) (h : Rd w A l) :
    Calls Tryz.prog 168 #[.slice A l.length c, .int .u64 most] w (HeadOut (yheadF most 10 0 0 l) w) := by
  rcases l with _ | ⟨x, l⟩
  · exact head_none A c most w
  · obtain ⟨b, off, rfl, hc⟩ := h (by simp)
    exact yhead_some b off _ c most w hn hl hc
end Go.Proofs.YtlhfdhmmdnkojaaGreatDoor
namespace Go.Proofs.YtlhfdhmmdnkojaaGreatDoor
open Go.RowKit Dg
set_option maxRecDepth 100000
/-- The reader at block g has the bytes l left, and the error e. -/
def Rdr (w : World) (g : Nat) (l : List Nat) (e : Nat) : Prop :=
  ∃ A c, Has w g 165 #[.slice A l.length c, .int .i64 (e : Int)] ∧ l.length ≤ c ∧ Rd w A l
theorem rdr_cells (A : Option Addr) (n c : Nat) (e : Int) : ∀ (i x : Nat), (#[Value.slice A n c, .int .i64 e] : Array Value)[i]? ≠ some (bv x) := by
  intro i x h
  rcases i with _ | _ | i
  · simp [bv] at h
  · simp [bv] at h
  · simp at h
theorem Rd.turn {w w' : World} {A : Option Addr} {l : List Nat} {g : Nat} {t : TypeId} {cs : Array Value} (h : Rd w A l) (hg : w.grownBy w' (some g)) (hh : Has w g t cs) (hcs : ∀ (i x : Nat), cs[i]? ≠ some (bv x)) : Rd w' A l := fun hl => by
  obtain ⟨b, off, e, hc⟩ := h hl
  refine ⟨b, off, e, fun i hi => ?_⟩
  refine hg.cell (hc i hi) fun hb => ?_
  injection hb with hb
  have hx := hc i hi
  rw [show b = g from hb, hh.cell] at hx
  exact hcs _ _ hx
theorem grown_set (w : World) (g i : Nat) (u : Value) : w.grownBy (w.setCell ⟨g, i, none⟩ u) (some g) :=
  ⟨rfl, rfl, rfl, by rw [size_set]; exact Nat.le_refl _, fun k _ hne => Below.heap_setCell w _ u k (fun e => hne (by rw [e]))⟩
theorem grown_trans {a b c : World} {g : Nat} (h : a.grownBy b (some g)) (k : b.grownBy c (some g)) : a.grownBy c (some g) :=
  ⟨k.os.trans h.os, k.tape.trans h.tape, k.output.trans h.output, Nat.le_trans h.size k.size, fun i hi hne => (k.block i (Nat.lt_of_lt_of_le hi h.size) hne).trans (h.block i hi hne)⟩
theorem grown_refl (a : World) (g : Nat) : a.grownBy a (some g) := ⟨rfl, rfl, rfl, Nat.le_refl _, fun _ _ _ => rfl⟩

section
variable (g : Nat) (l : List Nat) (e : Nat) (w : World)
set_option maxHeartbeats 400000 in
theorem pass_err (k : Int) (r : Int) (h : Rdr w g l e) (he : e ≠ 0) :
    Calls Tryz.prog 116 #[.pointer (some ⟨g, 0, none⟩), .int .i64 k, .int .i64 r] w fun x w' => x = .returned (.bool false) ∧ w = w' := by
  obtain ⟨A, c, hh, hn, hr⟩ := h
  have c1 : w.cell? ⟨g, 1, none⟩ = some (.int .i64 e) := hh.cell 1
  have g1 : ((e : Int) == 0) = false := by simp; omega
  have g2 : ((e : Int) != 0) = true := by simp; omega
  have HE := Lib.hid he
  clear hh hr he
  go_enter Tryz.func116, Tryz.ntmps116
  go_wp2_with fail
  go_ret
  exact ⟨rfl, rfl⟩
set_option maxHeartbeats 400000 in
theorem Errno_get (h : Rdr w g l e) :
    Calls Tryz.prog 87 #[.pointer (some ⟨g, 0, none⟩)] w fun x w' => x = .returned (.int .i64 (e : Int)) ∧ w = w' := by
  obtain ⟨A, c, hh, hn, hr⟩ := h
  have c1 : w.cell? ⟨g, 1, none⟩ = some (.int .i64 e) := hh.cell 1
  clear hh hr
  go_enter Tryz.func87, Tryz.ntmps87
  go_wp2_with fail
  go_ret
  exact ⟨rfl, rfl⟩
def endF (l : List Nat) (e : Nat) : Nat := if e = 0 ∧ 0 < l.length then 2 else e
set_option maxHeartbeats 400000 in
theorem End_get (h : Rdr w g l e) (hb : l.length ≤ 1000000) :
    Calls Tryz.prog 63 #[.pointer (some ⟨g, 0, none⟩)] w fun x w' => x = .returned (.int .i64 (endF l e : Int)) ∧ w = w' := by
  obtain ⟨A, c, hh, hn, hr⟩ := h
  have c0 : w.cell? ⟨g, 0, none⟩ = some (.slice A l.length c) := hh.cell 0
  have c1 : w.cell? ⟨g, 1, none⟩ = some (.int .i64 e) := hh.cell 1
  clear hh hr
  obtain ⟨E, hE⟩ : ∃ E, E = endF l e := ⟨_, rfl⟩
  rw [← hE]
  have HE := Lib.hid hE
  clear hE
  by_cases he : e = 0
  · have h0 : ((e : Int) == 0) = true := by simp; omega
    by_cases hp : 0 < l.length
    · have H : Hid (E = 2) := by show _ = _; rw [HE.out]; unfold endF; rw [if_pos ⟨he, hp⟩]
      clear he
      go_enter Tryz.func63, Tryz.ntmps63
      go_wp2_with fail
      go_ret
      exact ⟨by rw [H.out]; rfl, rfl⟩
    · have H : Hid (E = e) := by show _ = _; rw [HE.out]; unfold endF; rw [if_neg (by omega)]
      clear he
      go_enter Tryz.func63, Tryz.ntmps63
      go_wp2_with fail
      go_ret
      exact ⟨by rw [H.out]; rfl, rfl⟩
  · have h0 : ((e : Int) == 0) = false := by simp; omega
    have H : Hid (E = e) := by show _ = _; rw [HE.out]; unfold endF; rw [if_neg (by omega)]
    clear he
    go_enter Tryz.func63, Tryz.ntmps63
    go_wp2_with fail
    go_ret
    exact ⟨by rw [H.out]; rfl, rfl⟩
def byteF (l : List Nat) (e : Nat) : Nat × List Nat × Nat := if e ≠ 0 then (0, l, e) else match l with | [] => (0, [], 4) | x :: t => (x, t, 0)
theorem byteF_err {e : Nat} (l : List Nat) (h : e ≠ 0) : byteF l e = (0, l, e) := by unfold byteF; rw [if_pos h]
end
end Go.Proofs.YtlhfdhmmdnkojaaGreatDoor
namespace Go.Proofs.YtlhfdhmmdnkojaaGreatDoor
open Go.RowKit Dg
set_option maxRecDepth 100000
theorem yrd_none {w : World} {l : List Nat} (h : Rd w none l) : l = [] := by
  rcases l with _ | ⟨x, l⟩
  · rfl
  · obtain ⟨b, off, e, _⟩ := h (by simp)
    cases e
theorem yrd_owned {w : World} {base c : Nat} {l : List Nat} {A : Option Addr} (h : w.ownsRow base 5 1 (.slice A l.length c) l.length (l.map bv)) : l.length ≤ c ∧ Rd w A l := by
  rcases h.2 with ⟨e, hn⟩ | ⟨g, cap, cur, e, _, hh, hc, _, _, ht⟩
  · injection e with e1 e2 e3
    refine ⟨by omega, ?_⟩
    rw [List.eq_nil_of_length_eq_zero hn]
    exact Rd.nil _ _
  · injection e with e1 e2 e3
    subst e1; subst e3
    refine ⟨hc, Rd.of_has (t := 5) (cs := cur) hh fun i hi => ?_⟩
    have h1 : (l.map bv)[i]? = some (bv l[i]) := by simp [hi]
    rw [← ht, List.getElem?_take, if_pos (by omega)] at h1
    simpa using h1
theorem clone_any (A : Option Addr) (l : List Nat) (c : Nat) (w : World) (h : Rd w A l) (hb : l.length ≤ 1000000) :
    Calls Tryz.prog 115 #[.slice A l.length c] w (yOut w l) := by
  rcases A with _ | a
  · obtain rfl := yrd_none h
    exact (Any.bytes_Clone_nil Tryz.laysSlK4 0 c w).mono fun e w' ⟨he, hw⟩ => ⟨_, he, none, 0, rfl, Nat.le_refl _, Rd.nil _ _, by rw [hw]; exact Below.refl _ _⟩
  · refine (Tryz.bytes_Clone_at a l.length c (l.map Int.ofNat) w (by simp) (by omega) ?_).mono ?_
    · intro i hi
      obtain ⟨b, off, e, hc⟩ := h (by rintro rfl; simp at hi)
      injection e with e
      subst e
      rw [Addr.add_lit, hc i hi]
      simp [bv, hi]
    · rintro e w' ⟨v', rfl, hown, hne, hb'⟩
      have hm : (l.map Int.ofNat).map (Value.int .u8) = l.map bv := by rw [List.map_map]; rfl
      rw [hm] at hown
      rcases hown.2 with ⟨e, hn⟩ | ⟨g, cap, cur, e, _, _⟩
      · exact absurd e hne
      · subst e
        obtain ⟨h1, h2⟩ := yrd_owned hown
        exact ⟨_, rfl, _, _, rfl, h1, h2, hb'⟩

set_option maxHeartbeats 400000 in
theorem Read_any (A : Option Addr) (l : List Nat) (c : Nat) (w : World) (h : Rd w A l) (hb : l.length ≤ 1000000) :
    Calls Tryz.prog 60 #[.slice A l.length c] w fun e w' => ∃ g, e = .returned (.pointer (some ⟨g, 0, none⟩)) ∧ w.heap.size ≤ g ∧ Rdr w' g l 0 ∧ Below w.heap.size w w' := by
  have HC := Lib.hid (clone_any A l c w h hb)
  go_enter Tryz.func60, Tryz.ntmps60
  go_wp2_with fail
  refine HC.out.mono ?_
  rintro e w1 ⟨v, rfl, A', c', rfl, hc', hr, hbl⟩
  have HR := Lib.hid hr
  have HB := Lib.hid hbl
  clear hr hbl
  go_wp2_with fail
  go_ret
  exact ⟨_, rfl, HB.out.size, ⟨A', c', Has.new w1 165 _, hc', HR.out.below ((Below.refl _ _).alloc (Nat.le_refl _) _)⟩, HB.out.alloc HB.out.size _⟩

/-- What a reader's text is, what is left, and the error. -/
def textF (most : Int) (l : List Nat) (e : Nat) : List Nat × List Nat × Nat :=
  if e ≠ 0 then ([], l, e) else
  let R := yheadF 9223372036854775807 10 0 0 l
  if R.2.2 ≠ 0 then ([], l, R.2.2) else if most < R.1 then ([], l, 2) else if (l.length : Int) - R.2.1 < R.1 then ([], l, 4) else ((l.drop R.2.1).take R.1, l.drop (R.2.1 + R.1), 0)
theorem Rd.cut {w : World} {A : Option Addr} {l : List Nat} (h : Rd w A l) (k m : Nat) : Rd w (A.map (fun x => x.add k)) ((l.drop k).take m) := fun hl => by
  have hne : l ≠ [] := by rintro rfl; simp at hl
  obtain ⟨b, off, rfl, hc⟩ := h hne
  rw [Option.map_some, Addr.add_lit]
  exact ((Rd.drop h k).take m) hl
section
variable (g : Nat) (l : List Nat) (e : Nat) (w : World)
end
end Go.Proofs.YtlhfdhmmdnkojaaGreatDoor
namespace Go.Proofs.YtlhfdhmmdnkojaaGreatDoor
open Go.RowKit Dg
set_option maxRecDepth 100000
theorem Rdr.far {w w' : World} {g g' : Nat} {l l' : List Nat} {e e' : Nat} (h : Rdr w g l e) (hg : w.grownBy w' (some g')) (hh : Rdr w g' l' e') (hne : g ≠ g') : Rdr w' g l e := by
  obtain ⟨A, c, h1, h2, h3⟩ := h
  obtain ⟨A', c', h1', _, _⟩ := hh
  exact ⟨A, c, (hg.block g h1.lt (fun e => hne (by injection e))).trans h1, h2, h3.turn hg h1' (rdr_cells _ _ _ _)⟩
theorem Rdr.lt {w : World} {g : Nat} {l : List Nat} {e : Nat} (h : Rdr w g l e) : g < w.heap.size := by
  obtain ⟨A, c, h1, _, _⟩ := h
  exact h1.lt
theorem Rdr.below {w w' : World} {g : Nat} {l : List Nat} {e : Nat} (h : Rdr w g l e) (hb : Below w.heap.size w w') : Rdr w' g l e := by
  obtain ⟨A, c, h1, h2, h3⟩ := h
  exact ⟨A, c, h1.below hb h1.lt, h2, h3.below hb⟩
theorem Below.turn {w w1 w2 : World} {g : Nat} (h : Below w.heap.size w w1) (hg : w1.grownBy w2 (some g)) (hl : w.heap.size ≤ g) : Below w.heap.size w w2 :=
  h.grown hg h.size (fun k hk => by injection hk with hk; omega)

theorem Rdr.drew {w : World} {g : Nat} {l : List Nat} {e : Nat} (h : Rdr w g l e) : Rdr w.drew g l e := h
theorem head_whole (most n : Nat) (rest : List Nat) (hn : n < 18446744073709551616) (hm : n ≤ most) : yheadF most 10 0 0 (digs n ++ rest) = (n, (digs n).length, 0) := by
  have h := head_digs most rest n 10 0 0 (by omega) (fun h => absurd h (by omega)) (by omega) (digs_le_ten n hn)
  rw [h, if_neg (by simp; omega)]
  simp
theorem numF_whole (most n : Nat) (rest : List Nat) (hn : n < 18446744073709551616) (hm : n ≤ most) : numF most (digs n ++ rest) 0 = (n, rest, 0) := by
  unfold numF
  rw [head_whole most n rest hn hm]
  simp
/-- A text's bytes. -/
def ytxt (s : ByteArray) : List Nat := digs s.size ++ sb s
theorem ytxt_pos (s : ByteArray) : 0 < (ytxt s).length := by
  unfold ytxt; rw [List.length_append]; have := digs_pos s.size; omega
theorem ytxt_byte (s : ByteArray) : ∀ x ∈ ytxt s, x < 256 := by
  intro x hx
  rcases List.mem_append.1 hx with h | h
  · exact digs_byte _ x h
  · exact sb_byte s x h
theorem Read_len (A : Option Addr) (l : List Nat) (n c : Nat) (w : World) (hn : l.length = n) (h : Rd w A l) (hb : n ≤ 1000000) :
    Calls Tryz.prog 60 #[.slice A n c] w fun e w' => ∃ g, e = .returned (.pointer (some ⟨g, 0, none⟩)) ∧ w.heap.size ≤ g ∧ Hid (Rdr w' g l 0) ∧ Hid (Below w.heap.size w w') := by
  rw [← hn] at hb ⊢
  exact Read_any A l c w h hb
end Go.Proofs.YtlhfdhmmdnkojaaGreatDoor
namespace Go.Proofs.YtlhfdhmmdnkojaaGreatDoor
open Go.RowKit Dg
set_option maxRecDepth 100000
theorem OutO.out {w w' : World} {l : List Nat} {e : Ending} (h : OutO w l e w') : yOut w l e w' := by
  obtain ⟨v, he, ho, hb⟩ := h
  rcases ho.2 with ⟨hv, hn⟩ | ⟨g, cap, cur, hv, _⟩
  · obtain rfl := List.eq_nil_of_length_eq_zero hn
    exact ⟨v, he, none, 0, hv, Nat.le_refl _, Rd.nil _ _, hb⟩
  · subst hv
    obtain ⟨h1, h2⟩ := yrd_owned ho
    exact ⟨_, he, _, _, rfl, h1, h2, hb⟩
end Go.Proofs.YtlhfdhmmdnkojaaGreatDoor
namespace Go.Proofs.YtlhfdhmmdnkojaaGreatDoor
open Go.RowKit Dg
set_option maxRecDepth 100000
/-- As Rdr; and the bytes lie in a block below D. -/
def RdrD (D : Nat) (w : World) (g : Nat) (l : List Nat) (e : Nat) : Prop :=
  ∃ A c, Has w g 165 #[.slice A l.length c, .int .i64 (e : Int)] ∧ l.length ≤ c ∧ Rd w A l ∧ (l ≠ [] → ∀ a, A = some a → a.block < D)
theorem RdrD.rdr {D : Nat} {w : World} {g : Nat} {l : List Nat} {e : Nat} (h : RdrD D w g l e) : Rdr w g l e := by
  obtain ⟨A, c, h1, h2, h3, _⟩ := h
  exact ⟨A, c, h1, h2, h3⟩
theorem Rdr.dd {w : World} {g : Nat} {l : List Nat} {e : Nat} (h : Rdr w g l e) : RdrD w.heap.size w g l e := by
  obtain ⟨A, c, h1, h2, h3⟩ := h
  refine ⟨A, c, h1, h2, h3, fun hne a ha => ?_⟩
  obtain ⟨b, off, e, hc⟩ := h3 hne
  rw [e] at ha
  injection ha with ha
  subst ha
  exact World.block_lt_of_cell? w _ (hc 0 (List.length_pos_iff.2 hne))
theorem RdrD.keep {D : Nat} {w w' : World} {g : Nat} {l : List Nat} {e : Nat} (h : RdrD D w g l e) (hg : g < D) (hb : Below D w w') : RdrD D w' g l e := by
  obtain ⟨A, c, h1, h2, h3, h4⟩ := h
  refine ⟨A, c, (hb.block g hg).trans h1, h2, fun hne => ?_, h4⟩
  obtain ⟨b, off, e, hc⟩ := h3 hne
  have hlt : b < D := h4 hne _ e
  refine ⟨b, off, e, fun i hi => ?_⟩
  rw [← hc i hi]
  exact World.cell?_of_block (w := w) (hb.block b hlt)
def StepD (D : Nat) (w : World) (g : Nat) (v : Value) (l : List Nat) (e : Nat) (x : Ending) (w' : World) : Prop :=
  x = .returned v ∧ RdrD D w' g l e ∧ w.grownBy w' (some g)
section
variable {D : Nat} (g : Nat) (l : List Nat) (e : Nat) (w : World)
set_option maxHeartbeats 400000 in
theorem passD_bad (k : Int) (r : Nat) (h : RdrD D w g l 0) (he : r ≠ 0) :
    Calls Tryz.prog 116 #[.pointer (some ⟨g, 0, none⟩), .int .i64 k, .int .i64 r] w (StepD D w g (.bool false) l r) := by
  obtain ⟨A, c, hh, hn, hr, hdd⟩ := h
  have HDD := Lib.hid hdd
  clear hdd
  have c1 : w.cell? ⟨g, 1, none⟩ = some (.int .i64 0) := hh.cell 1
  have f1 := hh.free 1
  have g2 : ((r : Int) != 0) = true := by simp; omega
  have HE := Lib.hid he
  have HH := Lib.hid hh
  have HR := Lib.hid hr
  clear hh hr he
  go_enter Tryz.func116, Tryz.ntmps116
  go_wp2_with fail
  go_ret
  exact ⟨rfl, ⟨A, c, HH.out.put 1 _, hn, HR.out.turn (grown_set w g 1 _) HH.out (rdr_cells _ _ _ _), HDD.out⟩, grown_set w g 1 _⟩
set_option maxHeartbeats 400000 in
theorem passD_good (k : Nat) (h : RdrD D w g l 0) (hk : k ≤ l.length) (hb : l.length ≤ 1000000) :
    Calls Tryz.prog 116 #[.pointer (some ⟨g, 0, none⟩), .int .i64 k, .int .i64 0] w (StepD D w g (.bool true) (l.drop k) 0) := by
  obtain ⟨A, c, hh, hn, hr, hdd⟩ := h
  have HDD := Lib.hid hdd
  clear hdd
  have c0 : w.cell? ⟨g, 0, none⟩ = some (.slice A l.length c) := hh.cell 0
  have c1 : w.cell? ⟨g, 1, none⟩ = some (.int .i64 0) := hh.cell 1
  have f0 := hh.free 0
  have f1 := hh.free 1
  have HH := Lib.hid hh
  have HR := Lib.hid hr
  clear hh hr
  go_enter Tryz.func116, Tryz.ntmps116
  go_wp2_with fail
  all_goals
    go_ret
    have h1 : Has (w.setCell ⟨g, 1, none⟩ (.int .i64 0)) g 165 #[.slice A l.length c, .int .i64 0] := HH.out.put 1 (.int .i64 0)
    have r1 := HR.out.turn (grown_set w g 1 (.int .i64 0)) HH.out (rdr_cells _ _ _ _)
    refine ⟨rfl, ⟨_, _, (by rw [List.length_drop]; exact h1.put 0 _), (by rw [List.length_drop]; omega), ?_, fun hne a ha => by
      have hl0 : l ≠ [] := by rintro rfl; simp at hne
      have h0 := HDD.out hl0
      obtain ⟨b, off, rfl, _⟩ := r1 hl0
      have h2 := h0 _ rfl
      first | (exfalso; omega) | (rw [Option.map_some, Addr.add_lit] at ha; injection ha with ha; subst ha; exact h2) | (simp at ha; subst ha; exact h2)⟩, grown_trans (grown_set w g 1 (.int .i64 0)) (grown_set (w.setCell ⟨g, 1, none⟩ (.int .i64 0)) g 0 _)⟩
    refine Rd.turn ?_ (grown_set (w.setCell ⟨g, 1, none⟩ (.int .i64 0)) g 0 _) h1 (rdr_cells _ _ _ _)
    intro hl
    have hne : l ≠ [] := by rintro rfl; simp at hl
    have hlt : k < l.length := by
      rcases Nat.lt_or_ge k l.length with h | h
      · exact h
      · exact absurd (List.drop_eq_nil_of_le h) hl
    obtain ⟨b, off, rfl, hc⟩ := r1 hne
    first
      | (exfalso; omega)
      | (have r2 := Rd.drop r1 k hl
         rw [Option.map_some, Addr.add_lit]
         exact r2)
set_option maxHeartbeats 400000 in
theorem numberD_any (most : Nat) (h : RdrD D w g l e) (hl : ∀ x ∈ l, x < 256) (hb : l.length ≤ 1000000) :
    Calls Tryz.prog 136 #[.pointer (some ⟨g, 0, none⟩), .int .u64 most] w (StepD D w g (.int .u64 ((numF most l e).1 : Int)) (numF most l e).2.1 (numF most l e).2.2) := by
  have H := Lib.hid h
  obtain ⟨A, c, hh, hn, hr, hdd⟩ := h
  have HDD := Lib.hid hdd
  clear hdd
  have c0 : w.cell? ⟨g, 0, none⟩ = some (.slice A l.length c) := hh.cell 0
  have HR := Lib.hid hr
  have HH := yhead_any A l c most w hb hl hr
  have hle := head_len most 10 0 0 l
  obtain ⟨R, hR⟩ : ∃ R, R = yheadF most 10 0 0 l := ⟨_, rfl⟩
  have hnum : numF most l e = if e ≠ 0 then (0, l, e) else if R.2.2 ≠ 0 then (0, l, R.2.2) else (R.1, l.drop R.2.1, 0) := by rw [hR]; rfl
  rw [hnum]
  rw [← hR] at HH hle
  obtain ⟨r1, r2, r3⟩ := R
  simp only at hle hnum ⊢
  have HE := Lib.hid hnum
  have HHH := Lib.hid HH
  have HL := Lib.hid hle
  clear hh hr hR hnum HH hle hn
  by_cases he : e = 0
  · subst he
    by_cases h3 : r3 = 0
    · subst h3
      rw [if_neg (by simp), if_neg (by simp)]
      have hk : r2 ≤ l.length := by have := HL.out; omega
      go_enter Tryz.func136, Tryz.ntmps136
      go_wp2_with fail
      refine HHH.out.mono ?_
      rintro x w1 ⟨rfl, rfl⟩
      go_wp2_with fail
      refine (passD_good g l w r2 H.out hk hb).mono ?_
      rintro x w1 ⟨rfl, hd, hg⟩
      have HD := Lib.hid hd
      have HG := Lib.hid hg
      clear hd hg
      go_wp2_with fail
      go_ret
      exact ⟨rfl, HD.out, HG.out⟩
    · have HN := Lib.hid h3
      rw [if_neg (by simp), if_pos h3]
      clear h3
      go_enter Tryz.func136, Tryz.ntmps136
      go_wp2_with fail
      refine HHH.out.mono ?_
      rintro x w1 ⟨rfl, rfl⟩
      go_wp2_with fail
      refine (passD_bad g l w _ r3 H.out HN.out).mono ?_
      rintro x w1 ⟨rfl, hd, hg⟩
      have HD := Lib.hid hd
      have HG := Lib.hid hg
      clear hd hg
      go_wp2_with fail
      go_ret
      exact ⟨rfl, HD.out, HG.out⟩
  · have HN := Lib.hid he
    rw [if_pos he]
    clear he
    go_enter Tryz.func136, Tryz.ntmps136
    go_wp2_with fail
    refine HHH.out.mono ?_
    rintro x w1 ⟨rfl, rfl⟩
    go_wp2_with fail
    refine (pass_err g l e w _ _ H.out.rdr HN.out).mono ?_
    rintro x w1 ⟨rfl, rfl⟩
    go_wp2_with fail
    go_ret
    exact ⟨rfl, H.out, grown_refl _ _⟩
set_option maxHeartbeats 400000 in
theorem ByteD_end (h : RdrD D w g [] 0) :
    Calls Tryz.prog 61 #[.pointer (some ⟨g, 0, none⟩)] w (StepD D w g (.int .i64 0) [] 4) := by
  have H := Lib.hid h
  obtain ⟨A, c, hh, hn, hr, hdd⟩ := h
  have HDD := Lib.hid hdd
  clear hdd
  have c0 : w.cell? ⟨g, 0, none⟩ = some (.slice A 0 c) := hh.cell 0
  clear hh hr hn
  go_enter Tryz.func61, Tryz.ntmps61
  go_wp2_with fail
  refine (passD_bad g [] w _ 4 H.out (by omega)).mono ?_
  rintro x w1 ⟨rfl, hd, hg⟩
  have HD := Lib.hid hd
  have HG := Lib.hid hg
  clear hd hg
  go_wp2_with fail
  go_ret
  exact ⟨rfl, HD.out, HG.out⟩
set_option maxHeartbeats 400000 in
theorem ByteD_go (y : Nat) (t : List Nat) (h : RdrD D w g (y :: t) 0) (hy : y < 256) (hb : (y :: t).length ≤ 1000000) :
    Calls Tryz.prog 61 #[.pointer (some ⟨g, 0, none⟩)] w (StepD D w g (.int .i64 y) t 0) := by
  have H := Lib.hid h
  obtain ⟨A, c, hh, hn, hr, hdd⟩ := h
  have HDD := Lib.hid hdd
  clear hdd
  have c0 : w.cell? ⟨g, 0, none⟩ = some (.slice A (y :: t).length c) := hh.cell 0
  have HR := Lib.hid hr
  have HH := Lib.hid hh
  obtain ⟨b, off, rfl, hx⟩ := hr (by simp)
  clear hx hr
  have hp : (((y :: t).length : Int) == 0) = false := by simp; omega
  have hp2 : 0 < (y :: t).length := by simp
  clear hh hn
  generalize hL : (y :: t).length = L at *
  have HL := Lib.hid hL
  clear hL
  go_enter Tryz.func61, Tryz.ntmps61
  go_wp2_with fail
  refine (passD_good g (y :: t) w 1 H.out (by simp) (by rw [HL.out]; exact hb)).mono ?_
  rintro x w1 ⟨rfl, hd, hg⟩
  have cy : w1.cell? ⟨b, off, none⟩ = some (.int .u8 y) := by
    obtain ⟨b', off', e', hc⟩ := (HR.out.turn hg HH.out (rdr_cells _ _ _ _)) (by simp)
    injection e' with e'
    injection e' with e1 e2
    subst e1; subst e2
    exact hc 0 (by simp)
  have HD := Lib.hid hd
  have HG := Lib.hid hg
  clear hd hg
  go_wp2_with fail
  go_ret
  exact ⟨rfl, HD.out, HG.out⟩
set_option maxHeartbeats 400000 in
theorem ByteD_err (h : RdrD D w g l e) (he : e ≠ 0) :
    Calls Tryz.prog 61 #[.pointer (some ⟨g, 0, none⟩)] w (StepD D w g (.int .i64 0) l e) := by
  have H := Lib.hid h
  obtain ⟨A, c, hh, hn, hr, hdd⟩ := h
  have HDD := Lib.hid hdd
  clear hdd
  have c0 : w.cell? ⟨g, 0, none⟩ = some (.slice A l.length c) := hh.cell 0
  have HN := Lib.hid he
  clear hh hr hn he
  by_cases hp : l.length = 0
  all_goals
    have HP := Lib.hid hp
    first | (have hq : ((l.length : Int) == 0) = true := beq_iff_eq.2 (by omega)) | (have hq : ((l.length : Int) == 0) = false := beq_eq_false_iff_ne.2 (by omega))
    clear hp
    go_enter Tryz.func61, Tryz.ntmps61
    go_wp2_with fail
    refine (pass_err g l e w _ _ H.out.rdr HN.out).mono ?_
    rintro x w1 ⟨rfl, rfl⟩
    go_wp2_with fail
    go_ret
    exact ⟨rfl, H.out, grown_refl _ _⟩
theorem ByteD_get (h : RdrD D w g l e) (hl : ∀ x ∈ l, x < 256) (hb : l.length ≤ 1000000) :
    Calls Tryz.prog 61 #[.pointer (some ⟨g, 0, none⟩)] w (StepD D w g (.int .i64 (byteF l e).1) (byteF l e).2.1 (byteF l e).2.2) := by
  by_cases he : e = 0
  · subst he
    rcases l with _ | ⟨y, t⟩
    · exact ByteD_end g w h
    · exact ByteD_go g w y t h (hl y (by simp)) hb
  · rw [byteF_err l he]
    exact ByteD_err g l e w h he
set_option maxHeartbeats 800000 in
theorem TextD_get (most : Int) (h : RdrD D w g l e) (hl : ∀ x ∈ l, x < 256) (hb : l.length ≤ 1000000) :
    Calls Tryz.prog 138 #[.pointer (some ⟨g, 0, none⟩), .int .i64 most] w (StepD D w g (.string (bs (textF most l e).1)) (textF most l e).2.1 (textF most l e).2.2) := by
  have H := Lib.hid h
  obtain ⟨A, c, hh, hn, hr, hdd⟩ := h
  have HDD := Lib.hid hdd
  clear hdd
  have c0 : w.cell? ⟨g, 0, none⟩ = some (.slice A l.length c) := hh.cell 0
  have HR := Lib.hid hr
  have HAS := Lib.hid hh
  have HH := yhead_any A l c 9223372036854775807 w hb hl hr
  have hle := head_len 9223372036854775807 10 0 0 l
  have hbg := head_big 9223372036854775807 10 0 0 l
  obtain ⟨R, hR⟩ : ∃ R, R = yheadF 9223372036854775807 10 0 0 l := ⟨_, rfl⟩
  have hnum : textF most l e = if e ≠ 0 then ([], l, e) else if R.2.2 ≠ 0 then ([], l, R.2.2) else if most < R.1 then ([], l, 2) else if (l.length : Int) - R.2.1 < R.1 then ([], l, 4) else ((l.drop R.2.1).take R.1, l.drop (R.2.1 + R.1), 0) := by rw [hR]; rfl
  rw [hnum]
  rw [← hR] at HH hle hbg
  obtain ⟨r1, r2, r3⟩ := R
  simp only at hle hnum hbg ⊢
  have HHH := Lib.hid HH
  have hk : r2 ≤ l.length := by omega
  clear hh hr hR hnum HH hle
  by_cases he : e = 0
  · subst he
    rw [if_neg (by simp)]
    by_cases h3 : r3 = 0
    · subst h3
      rw [if_neg (by simp)]
      by_cases hm : most < r1
      · rw [if_pos hm]
        go_enter Tryz.func138, Tryz.ntmps138
        go_wp2_with fail
        refine HHH.out.mono ?_
        rintro x w1 ⟨rfl, rfl⟩
        go_wp2_with fail
        refine (passD_bad g l w _ 2 H.out (by omega)).mono ?_
        rintro x w1 ⟨rfl, hd, hg⟩
        have HD := Lib.hid hd
        have HG := Lib.hid hg
        clear hd hg
        go_wp2_with fail
        go_ret
        exact ⟨rfl, HD.out, HG.out⟩
      · rw [if_neg hm]
        by_cases hs : (l.length : Int) - r2 < r1
        · rw [if_pos hs]
          go_enter Tryz.func138, Tryz.ntmps138
          go_wp2_with fail
          refine HHH.out.mono ?_
          rintro x w1 ⟨rfl, rfl⟩
          go_wp2_with fail
          refine (passD_bad g l w _ 4 H.out (by omega)).mono ?_
          rintro x w1 ⟨rfl, hd, hg⟩
          have HD := Lib.hid hd
          have HG := Lib.hid hg
          clear hd hg
          go_wp2_with fail
          go_ret
          exact ⟨rfl, HD.out, HG.out⟩
        · rw [if_neg hs]
          go_enter Tryz.func138, Tryz.ntmps138
          go_wp2_with fail
          refine HHH.out.mono ?_
          rintro x w1 ⟨rfl, rfl⟩
          go_wp2_with fail
          refine (passD_good g l w (r2 + r1) H.out (by omega) hb).mono ?_
          rintro x w1 ⟨rfl, hd, hg⟩
          have HD := Lib.hid hd
          have HG := Lib.hid hg
          have HT := Lib.hid (HR.out.turn hg HAS.out (rdr_cells _ _ _ _))
          clear hd hg
          go_wp2_with fail
          · rw [conv_len w1 _ ((l.drop r2).take r1) r1 _ (by rw [List.length_take, List.length_drop]; omega) (by rw [List.drop_eq_nil_of_le (by omega), List.take_nil]; exact Rd.nil _ _)]
            go_wp2_with fail
            go_ret
            exact ⟨rfl, HD.out, HG.out⟩
          · rw [conv_len w1 _ ((l.drop r2).take r1) r1 _ (by rw [List.length_take, List.length_drop]; omega) (HT.out.cut r2 r1)]
            go_wp2_with fail
            go_ret
            exact ⟨rfl, HD.out, HG.out⟩
    · have HN := Lib.hid h3
      rw [if_pos h3]
      have q3 : ((r3 : Int) != 0) = true := by rw [bne_iff_ne]; omega
      clear h3
      go_enter Tryz.func138, Tryz.ntmps138
      go_wp2_with fail
      refine HHH.out.mono ?_
      rintro x w1 ⟨rfl, rfl⟩
      go_wp2_with fail
      refine (passD_bad g l w _ r3 H.out HN.out).mono ?_
      rintro x w1 ⟨rfl, hd, hg⟩
      have HD := Lib.hid hd
      have HG := Lib.hid hg
      clear hd hg
      go_wp2_with fail
      go_ret
      exact ⟨rfl, HD.out, HG.out⟩
  · have HN := Lib.hid he
    rw [if_pos he]
    clear he
    by_cases hm : most < r1 <;> by_cases hs : (l.length : Int) - r2 < r1 <;> by_cases h3 : r3 = 0
    all_goals
      have H3 := Lib.hid h3
      first | (have q3 : ((r3 : Int) != 0) = true := by rw [bne_iff_ne]; omega) | (have q3 : ((r3 : Int) != 0) = false := by rw [bne_eq_false_iff_eq]; omega)
      clear h3
      go_enter Tryz.func138, Tryz.ntmps138
      go_wp2_with fail
      refine HHH.out.mono ?_
      rintro x w1 ⟨rfl, rfl⟩
      go_wp2_with fail
      all_goals
        refine (pass_err g l e w _ _ H.out.rdr HN.out).mono ?_
        rintro x w1 ⟨rfl, rfl⟩
        go_wp2_with fail
        go_ret
        exact ⟨rfl, H.out, grown_refl _ _⟩
end
end Go.Proofs.YtlhfdhmmdnkojaaGreatDoor
namespace Go.Proofs.YtlhfdhmmdnkojaaGreatDoor
open Go.RowKit Dg
set_option maxRecDepth 100000
set_option maxHeartbeats 400000 in
theorem yNumber_any (A : Option Addr) (l : List Nat) (c : Nat) (n : Nat) (w : World) (hn : l.length ≤ c) (hA : Rd w A l) (hb : l.length ≤ 900000) (hn63 : (n : Int) ≤ 9223372036854775807) :
    Calls Tryz.prog 54 #[.slice A l.length c, .int .i64 n] w (yOut w (l ++ digs n)) := by
  have hbig : n < ybig := by unfold ybig; omega
  have ht := digs_le_ten n hbig
  have hp := digs_pos n
  go_enter Tryz.func54, Tryz.ntmps54
  go_wp2_with fail
  refine (ydigits_any n _ hbig).mono ?_
  intro e w1 hd
  obtain ⟨A', d, rfl, hr, hb1⟩ := hd.out
  have HR := Lib.hid hr
  clear hr hd
  go_wp2_with fail
  refine (ybehind_any A l c A' (digs n) d _ hn (hA.below hb1) HR.out hp (by omega)).mono ?_
  intro e w2 ho
  have HO := Lib.hid ho
  clear ho
  obtain ⟨v, rfl, hv⟩ := HO.out
  have HV := Lib.hid hv
  clear hv
  go_wp2_with fail
  go_ret
  exact ⟨v, rfl, HV.out.yafter hb1⟩
end Go.Proofs.YtlhfdhmmdnkojaaGreatDoor
namespace Go.Proofs.YtlhfdhmmdnkojaaGreatDoor
open Go.RowKit Dg
set_option maxRecDepth 100000
theorem own_down {B B' : Nat} {w : World} {v : Value} {l : List Nat} (h : Own B w v l) (hb : B' ≤ B) : Own B' w v l := by
  obtain ⟨h1, h2⟩ := h
  refine ⟨h1, ?_⟩
  rcases h2 with h2 | ⟨g, cap, cur, e, hg, r⟩
  · exact .inl h2
  · exact .inr ⟨g, cap, cur, e, Nat.le_trans hb hg, r⟩
end Go.Proofs.YtlhfdhmmdnkojaaGreatDoor
namespace Go.Proofs.YtlhfdhmmdnkojaaGreatDoor
open Go.RowKit Dg
set_option maxRecDepth 100000
/-- A work's bytes; those of works; a point's. -/
def wkB (x : Wk) : List Nat := ytxt x.t ++ ([if x.d then 1 else 0] ++ ytxt x.k)
def worksB (T : List Wk) (k : Nat) : List Nat := (T.take k).flatMap wkB
def numsB (x y z n : Nat) : List Nat := digs x ++ digs y ++ digs z ++ digs n
def ptB (x y z : Int) (T : List Wk) : List Nat := numsB x.toNat y.toNat z.toNat T.length ++ worksB T T.length
theorem worksB_succ (T : List Wk) (k : Nat) (h : k < T.length) : worksB T (k + 1) = worksB T k ++ wkB T[k] := by
  unfold worksB
  rw [List.take_succ_eq_append_getElem h, List.flatMap_append]
  simp
theorem txt_len (s : ByteArray) (h : s.size ≤ 900) : (ytxt s).length ≤ 910 := by
  unfold ytxt; rw [List.length_append, sb_length]; have := digs_le_ten s.size (by omega); omega
theorem wkB_len {x : Wk} (h : x.t.size ≤ 40 ∧ x.k.size ≤ 40) : (wkB x).length ≤ 1821 := by
  unfold wkB
  have h1 := txt_len x.t (by omega)
  have h2 := txt_len x.k (by omega)
  simp only [List.length_append, List.length_singleton]
  omega
theorem worksB_len {T : List Wk} (h : Short T) (k : Nat) (hk : k ≤ T.length) : (worksB T k).length ≤ 1821 * k := by
  induction k with
  | zero => simp [worksB]
  | succ k ih =>
    rw [worksB_succ T k (by omega), List.length_append]
    have h1 := ih (by omega)
    have h2 := wkB_len (h T[k] (List.getElem_mem (by omega)))
    omega
theorem numsB_len (x y z n : Nat) (hx : x < 9223372036854775808) (hy : y < 9223372036854775808) (hz : z < 9223372036854775808) (hn : n < 9223372036854775808) : (numsB x y z n).length ≤ 40 := by
  unfold numsB
  have h1 := digs_le_ten x (by omega)
  have h2 := digs_le_ten y (by omega)
  have h3 := digs_le_ten z (by omega)
  have h4 := digs_le_ten n (by omega)
  simp only [List.length_append]
  omega
/-- The first k of a point's four numbers. -/
def fourN (x y z n : Nat) (k : Nat) : Nat := if k = 0 then x else if k = 1 then y else if k = 2 then z else n
def fourB (x y z n : Nat) (k : Nat) : List Nat := (List.range k).flatMap fun i => digs (fourN x y z n i)
theorem fourB_succ (x y z n k : Nat) : fourB x y z n (k + 1) = fourB x y z n k ++ digs (fourN x y z n k) := by
  unfold fourB; rw [List.range_succ, List.flatMap_append]; simp
theorem fourB_all (x y z n : Nat) : fourB x y z n 4 = numsB x y z n := by
  simp [fourB, numsB, fourN, List.range_succ]
theorem fourB_len (x y z n k : Nat) (hx : x < 9223372036854775808) (hy : y < 9223372036854775808) (hz : z < 9223372036854775808) (hn : n < 9223372036854775808) (hk : k ≤ 4) : (fourB x y z n k).length ≤ 10 * k := by
  induction k with
  | zero => simp [fourB]
  | succ k ih =>
    rw [fourB_succ, List.length_append]
    have h1 := ih (by omega)
    have h2 : fourN x y z n k < 9223372036854775808 := by unfold fourN; split; exact hx; split; exact hy; split <;> assumption
    have h3 := digs_le_ten (fourN x y z n k) (by omega)
    omega
theorem num0_any (n : Nat) (w : World) (hn : (n : Int) ≤ 9223372036854775807) : Calls Tryz.prog 54 #[.slice none 0 0, .int .i64 n] w fun e w' => ∃ A m c, e = .returned (.slice A m c) ∧ Hid ((digs n).length = m) ∧ Hid (Rd w' A (digs n)) ∧ Hid (A = none → c = 0) ∧ Hid (Below w.heap.size w w') := by
  refine (yNumber_any none [] 0 n w (Nat.le_refl _) (Rd.nil _ _) (by simp) hn).mono ?_
  rintro e w' ⟨v, rfl, A, c, rfl, hc, hr, hb⟩
  rw [List.nil_append] at hr hc ⊢
  refine ⟨A, _, c, rfl, rfl, hr, fun e => ?_, hb⟩
  have hp := digs_pos n
  obtain ⟨b, off, e2, _⟩ := hr (by intro h; rw [h] at hp; simp at hp)
  rw [e] at e2; cases e2
theorem txt0_any (s : ByteArray) (w : World) (hs : s.size ≤ 900) : Calls Tryz.prog 51 #[.slice none 0 0, .string s] w fun e w' => ∃ A m c, e = .returned (.slice A m c) ∧ Hid ((ytxt s).length = m) ∧ Hid (Rd w' A (ytxt s)) ∧ Hid (A = none → c = 0) ∧ Hid (Below w.heap.size w w') := by
  refine (yText_any none [] 0 s w (Nat.le_refl _) (Rd.nil _ _) (by simp) (by omega)).mono ?_
  rintro e w' ⟨v, rfl, A, c, rfl, hc, hr, hb⟩
  have e1 : ([] : List Nat) ++ (digs s.size ++ sb s) = ytxt s := by unfold ytxt; simp
  rw [e1] at hr hc ⊢
  refine ⟨A, _, c, rfl, rfl, hr, fun e => ?_, hb⟩
  have hp := ytxt_pos s
  obtain ⟨b, off, e2, _⟩ := hr (by intro h; rw [h] at hp; simp at hp)
  rw [e] at e2; cases e2
set_option maxHeartbeats 1000000 in
theorem flag_any11 (d : Bool) (w : World) : Calls Tryz.prog 134 #[.bool d] w fun e w' => e = .returned (.int .u8 (if d then 1 else 0)) ∧ w' = w := by
  cases d
  all_goals
    go_enter Tryz.func134, Tryz.ntmps134
    go_wp2_with fail
    go_ret
    exact ⟨rfl, rfl⟩
end Go.Proofs.YtlhfdhmmdnkojaaGreatDoor
namespace Go.Proofs.YtlhfdhmmdnkojaaGreatDoor
open Go.RowKit Dg
set_option maxRecDepth 100000
theorem own_appK (w : World) (B : Nat) (v : Value) (l : List Nat) (h : Own B w v l) (hB : B ≤ w.heap.size) (A : Option Addr) (m : List Nat) (k c : Nat) (hk : m.length = k) (hm : Rd w A m) (hs : l.length + k ≤ 1000000) (hA : A = none → c = 0) :
    ∃ R W', (Builtin.append_ #[37, 37] 37 #[v, .slice A k c]).run Tryz.prog w = .ok R W' ∧ Own B W' R (l ++ m) ∧ Below B w W' ∧ Kept w W' := by
  subst hk
  obtain ⟨i0, hi, hz0, hz1, hz2⟩ := info_parts info5
  rcases A with _ | a
  · have hl : m = [] := by
      rcases m with _ | ⟨x, m⟩
      · rfl
      · obtain ⟨b, off, e, _⟩ := hm (by simp)
        cases e
    subst hl
    rw [hA rfl, List.append_nil]
    exact ⟨v, w, run_append_owned_none w B 37 37 5 i0 1 Tryz.underlying37 hi v _ _ h, h, Below.refl _ _, fun _ _ _ _ hh => hh⟩
  · have hc : ∀ j u, (m.map bv)[j]? = some u → w.cell? (a.add j) = some u := by
      intro j u hj
      have hjl : j < m.length := by
        have := (List.getElem?_eq_some_iff.1 hj).1
        simpa using this
      obtain ⟨b, off, e, hc⟩ := hm (by rintro rfl; simp at hjl)
      injection e with e
      subst e
      rw [Addr.add_lit, hc j hjl]
      simpa [hjl] using hj
    obtain ⟨R, W', hrun, hown, hg, _⟩ := run_append_own (P := Tryz.prog) w B 37 37 5 i0 (.int .u8 0) 1 1 Tryz.underlying37 hi hz0 hz1 hz2 rfl (by decide) v l.length (l.map bv) h a m.length c (m.map bv) (by simp) hc (bv_one m) (by unfold maxLen; omega) (by omega) hB
    refine ⟨R, W', hrun, ?_, (Below.refl B w).grown hg hB fun k hk => (World.ownsRow.lt h k hk).1, ?_⟩
    · unfold Own; rw [List.map_append, List.length_append]; exact hown
    · intro g t cs ht hh
      refine (hg.block g hh.lt fun e => ?_).trans hh
      rcases h.2 with ⟨hv, _⟩ | ⟨g', cap, cur, hv, _, hc2, _⟩
      · rw [hv] at e; cases e
      · rw [hv] at e
        have e2 : g = g' := by simpa [Value.ownBlock] using e
        subst e2
        unfold Has at hh
        rw [hc2] at hh
        simp at hh
        exact ht hh.2.symm
theorem idx4 (a b c d : Int) (w : World) :
    (Instr.index 175 (.agg #[.int .i64 a, .int .i64 b, .int .i64 c, .int .i64 d]) (.int .i64 0)).run Tryz.prog w = .ok (.int .i64 a) w ∧ (Instr.index 175 (.agg #[.int .i64 a, .int .i64 b, .int .i64 c, .int .i64 d]) (.int .i64 1)).run Tryz.prog w = .ok (.int .i64 b) w ∧
    (Instr.index 175 (.agg #[.int .i64 a, .int .i64 b, .int .i64 c, .int .i64 d]) (.int .i64 2)).run Tryz.prog w = .ok (.int .i64 c) w ∧ (Instr.index 175 (.agg #[.int .i64 a, .int .i64 b, .int .i64 c, .int .i64 d]) (.int .i64 3)).run Tryz.prog w = .ok (.int .i64 d) w := by
  refine ⟨?_, ?_, ?_, ?_⟩
  · simp [Instr.index, run_underlying Tryz.underlying175, asIntOf, go_sem]
  · simp [Instr.index, run_underlying Tryz.underlying175, asIntOf, go_sem]
  · simp [Instr.index, run_underlying Tryz.underlying175, asIntOf, go_sem]
  · simp [Instr.index, run_underlying Tryz.underlying175, asIntOf, go_sem]
theorem flag_lit (w : World) : (Calls Tryz.prog 134 #[.bool true] w fun e w' => e = .returned (.int .u8 1) ∧ w' = w) ∧ (Calls Tryz.prog 134 #[.bool false] w fun e w' => e = .returned (.int .u8 0) ∧ w' = w) :=
  ⟨flag_any11 true w, flag_any11 false w⟩
theorem Kept.has {w w' : World} (h : Kept w w') {g : Nat} {t : TypeId} {cs : Array Value} (hh : Has w g t cs) (ht : t ≠ 5) : Has w' g t cs := h g t cs ht hh
set_option maxHeartbeats 16000000 in
theorem pwrite_any {B : Nat} {A : Option Addr} {n c : Nat} {T : List Wk} (x y z : Int) (w : World) (h : OwnW B w (.slice A n c) T) (hsh : Short T) (hl : T.length ≤ 6) (hx : x ≤ 9223372036854775807) (hy : y ≤ 9223372036854775807) (hz : z ≤ 9223372036854775807) (hT : Tabs w) :
    Calls Tryz.prog 80 #[.agg #[.int .i64 x, .int .i64 y, .int .i64 z, .slice A n c]] w fun e w' => ∃ v, e = .returned (.tuple #[v, .int .i64 (if ptOk x y z T then 0 else 1)]) ∧ Hid (Own w.heap.size w' v (if ptOk x y z T then ptB x y z T else [])) ∧ Hid (Below w.heap.size w w') := by
  have hb0 : Below w.heap.size w (w.alloc (.cells #[.int .i64 x, .int .i64 y, .int .i64 z, .slice A n c] 67)) := (Below.refl _ w).alloc (Nat.le_refl _) _
  have HMY := Lib.hid (pptmay_any x y z _ (h.below hb0) (by omega) (fun x hx => by have := hsh x hx; omega) (hT.below hb0))
  have HX0 := Lib.hid (Has.new w 67 #[.int .i64 x, .int .i64 y, .int .i64 z, .slice A n c])
  have HB0 := Lib.hid hb0
  obtain ⟨A2, n2, c2, e2, HN, hnc, hcm, HR, HZ⟩ := ownW_open h
  obtain ⟨rfl, rfl, rfl⟩ := slice_inj e2
  have HSH := Lib.hid hsh
  clear h hT hb0 hsh e2
  unfold maxLen at hcm
  cases hok : ptOk x y z T
  · rw [hok] at HMY
    go_enter Tryz.func80, Tryz.ntmps80
    have x0 := HX0.out.cell 0
    have x1 := HX0.out.cell 1
    have x2 := HX0.out.cell 2
    have x3 := HX0.out.cell 3
    simp at x0 x1 x2 x3
    go_wp2_with fail
    refine HMY.out.mono ?_
    rintro e w1 ⟨rfl, hb1⟩
    have HB1 := Lib.hid (HB0.out.trans (hb1.out.mono HB0.out.size))
    clear x0 x1 x2 x3
    go_wp2_with fail
    go_ret2
    exact ⟨_, rfl, own_nil _ _, HB1⟩
  · rw [hok] at HMY
    have hpos : 0 ≤ x ∧ 0 ≤ y ∧ 0 ≤ z := by
      unfold ptOk at hok
      simp only [Bool.and_eq_true, decide_eq_true_eq] at hok
      exact ⟨hok.1.1.1, hok.1.1.2, hok.1.2⟩
    obtain ⟨h0, h1, h2⟩ := hpos
    obtain ⟨X, rfl⟩ : ∃ X : Nat, x = (X : Int) := ⟨x.toNat, by omega⟩
    obtain ⟨Y, rfl⟩ : ∃ Y : Nat, y = (Y : Int) := ⟨y.toNat, by omega⟩
    obtain ⟨Z, rfl⟩ : ∃ Z : Nat, z = (Z : Int) := ⟨z.toNat, by omega⟩
    have HPB : Hid (ptB (X : Int) (Y : Int) (Z : Int) T = numsB X Y Z n ++ worksB T n) := by show _ = _; unfold ptB; rw [HN.out]; rfl
    have hn6 : n ≤ 6 := by have := HN.out; omega
    clear hok
    generalize ptB (X : Int) (Y : Int) (Z : Int) T = PB at *
    go_enter Tryz.func80, Tryz.ntmps80
    have x0 := HX0.out.cell 0
    have x1 := HX0.out.cell 1
    have x2 := HX0.out.cell 2
    have x3 := HX0.out.cell 3
    simp at x0 x1 x2 x3
    go_wp2_with fail
    refine HMY.out.mono ?_
    rintro e w1 ⟨rfl, hb1⟩
    have HB1 := Lib.hid (HB0.out.trans (hb1.out.mono HB0.out.size))
    have HX1 := Lib.hid (HX0.out.below hb1.out HX0.out.lt)
    have hs1 : w.heap.size + 1 ≤ w1.heap.size := by have := hb1.out.size; simpa using this
    clear x0 x1 x2 x3 hb1 HX0 HB0 HMY
    have x0 : w1.cell? ⟨w.heap.size, 0, none⟩ = some (.int .i64 (X : Int)) := HX1.out.cell 0
    have x1 : w1.cell? ⟨w.heap.size, 1, none⟩ = some (.int .i64 (Y : Int)) := HX1.out.cell 1
    have x2 : w1.cell? ⟨w.heap.size, 2, none⟩ = some (.int .i64 (Z : Int)) := HX1.out.cell 2
    have x3 : w1.cell? ⟨w.heap.size, 3, none⟩ = some (.slice A n c) := HX1.out.cell 3
    go_wp2_with fail
    clear x0 x1 x2 x3
    go_loopw [4, 22] (fun b i wr => ∃ (k : Nat) (u : Value), k ≤ 4 ∧ i = .int .i64 k ∧ u = b ∧ Hid (Own (w.heap.size + 1) wr u (fourB X Y Z n k)) ∧ Hid (Below (w.heap.size + 1) w1 wr)) (fun _ i _ => 4 - (intOf i).toNat)
    case atStart => exact ⟨0, _, by omega, rfl, rfl, own_nil _ _, Below.refl _ _⟩
    case round =>
      obtain ⟨k, u, hk, rfl, rfl, HO, HB⟩ := hrel
      by_cases hk4 : k < 4
      · have HSU := Lib.hid (fourB_succ X Y Z n k)
        have HLE := Lib.hid (fourB_len X Y Z n k (by omega) (by omega) (by omega) (by omega) (by omega))
        generalize fourB X Y Z n k = M at *
        have hkk : k = 0 ∨ k = 1 ∨ k = 2 ∨ k = 3 := by omega
        have hix := fun (W : World) => idx4 (X : Int) (Y : Int) (Z : Int) (n : Int) W
        obtain ⟨hi0, hi1, hi2, hi3⟩ : (∀ W, _) ∧ (∀ W, _) ∧ (∀ W, _) ∧ (∀ W, _) := ⟨fun W => (hix W).1, fun W => (hix W).2.1, fun W => (hix W).2.2.1, fun W => (hix W).2.2.2⟩
        clear hix
        rcases hkk with rfl | rfl | rfl | rfl
        · go_wp2_with fail
          refine (num0_any X wr (by omega)).mono ?_
          rintro e w3 ⟨A3, m3, c3, rfl, hm3, hr3, hz3, hb3⟩
          have hOO : Own (w.heap.size + 1) w3 u M := HO.out.below hb3.out
          obtain ⟨R4, W4, hrun4, ho4, hb4, _⟩ := own_appK w3 (w.heap.size + 1) u M hOO (Nat.le_trans hs1 (Nat.le_trans HB.out.size hb3.out.size)) A3 (digs X) m3 c3 hm3.out hr3.out (by have := HLE.out; have := hm3.out; have := digs_le_ten X (by omega); omega) hz3.out
          have HO4 : Hid (Own (w.heap.size + 1) W4 R4 (fourB X Y Z n (0 + 1))) := by show Own _ _ _ _; rw [HSU.out]; exact ho4
          have HB4 := Lib.hid ((HB.out.trans (hb3.out.mono (Nat.le_trans hs1 HB.out.size))).trans hb4)
          clear ho4 hb4 hOO hb3
          go_wp2_with (at_builtin; refine wpList_app rfl _ _ 37 37 rfl u (.slice A3 m3 c3) rfl rfl ⟨_, _, hrun4, ?_⟩)
          go_roundw
          case rel => exact ⟨0 + 1, R4, by omega, by go_num, rfl, HO4.out, HB4.out⟩
          case measure => simp [intOf]
        · go_wp2_with fail
          refine (num0_any Y wr (by omega)).mono ?_
          rintro e w3 ⟨A3, m3, c3, rfl, hm3, hr3, hz3, hb3⟩
          have hOO : Own (w.heap.size + 1) w3 u M := HO.out.below hb3.out
          obtain ⟨R4, W4, hrun4, ho4, hb4, _⟩ := own_appK w3 (w.heap.size + 1) u M hOO (Nat.le_trans hs1 (Nat.le_trans HB.out.size hb3.out.size)) A3 (digs Y) m3 c3 hm3.out hr3.out (by have := HLE.out; have := hm3.out; have := digs_le_ten Y (by omega); omega) hz3.out
          have HO4 : Hid (Own (w.heap.size + 1) W4 R4 (fourB X Y Z n (1 + 1))) := by show Own _ _ _ _; rw [HSU.out]; exact ho4
          have HB4 := Lib.hid ((HB.out.trans (hb3.out.mono (Nat.le_trans hs1 HB.out.size))).trans hb4)
          clear ho4 hb4 hOO hb3
          go_wp2_with (at_builtin; refine wpList_app rfl _ _ 37 37 rfl u (.slice A3 m3 c3) rfl rfl ⟨_, _, hrun4, ?_⟩)
          go_roundw
          case rel => exact ⟨1 + 1, R4, by omega, by go_num, rfl, HO4.out, HB4.out⟩
          case measure => simp [intOf]
        · go_wp2_with fail
          refine (num0_any Z wr (by omega)).mono ?_
          rintro e w3 ⟨A3, m3, c3, rfl, hm3, hr3, hz3, hb3⟩
          have hOO : Own (w.heap.size + 1) w3 u M := HO.out.below hb3.out
          obtain ⟨R4, W4, hrun4, ho4, hb4, _⟩ := own_appK w3 (w.heap.size + 1) u M hOO (Nat.le_trans hs1 (Nat.le_trans HB.out.size hb3.out.size)) A3 (digs Z) m3 c3 hm3.out hr3.out (by have := HLE.out; have := hm3.out; have := digs_le_ten Z (by omega); omega) hz3.out
          have HO4 : Hid (Own (w.heap.size + 1) W4 R4 (fourB X Y Z n (2 + 1))) := by show Own _ _ _ _; rw [HSU.out]; exact ho4
          have HB4 := Lib.hid ((HB.out.trans (hb3.out.mono (Nat.le_trans hs1 HB.out.size))).trans hb4)
          clear ho4 hb4 hOO hb3
          go_wp2_with (at_builtin; refine wpList_app rfl _ _ 37 37 rfl u (.slice A3 m3 c3) rfl rfl ⟨_, _, hrun4, ?_⟩)
          go_roundw
          case rel => exact ⟨2 + 1, R4, by omega, by go_num, rfl, HO4.out, HB4.out⟩
          case measure => simp [intOf]
        · go_wp2_with fail
          refine (num0_any n wr (by omega)).mono ?_
          rintro e w3 ⟨A3, m3, c3, rfl, hm3, hr3, hz3, hb3⟩
          have hOO : Own (w.heap.size + 1) w3 u M := HO.out.below hb3.out
          obtain ⟨R4, W4, hrun4, ho4, hb4, _⟩ := own_appK w3 (w.heap.size + 1) u M hOO (Nat.le_trans hs1 (Nat.le_trans HB.out.size hb3.out.size)) A3 (digs n) m3 c3 hm3.out hr3.out (by have := HLE.out; have := hm3.out; have := digs_le_ten n (by omega); omega) hz3.out
          have HO4 : Hid (Own (w.heap.size + 1) W4 R4 (fourB X Y Z n (3 + 1))) := by show Own _ _ _ _; rw [HSU.out]; exact ho4
          have HB4 := Lib.hid ((HB.out.trans (hb3.out.mono (Nat.le_trans hs1 HB.out.size))).trans hb4)
          clear ho4 hb4 hOO hb3
          go_wp2_with (at_builtin; refine wpList_app rfl _ _ 37 37 rfl u (.slice A3 m3 c3) rfl rfl ⟨_, _, hrun4, ?_⟩)
          go_roundw
          case rel => exact ⟨3 + 1, R4, by omega, by go_num, rfl, HO4.out, HB4.out⟩
          case measure => simp [intOf]
      · obtain rfl : k = 4 := by omega
        rw [show ((4 : Nat) : Int) = 4 from rfl]
        have HF := Lib.hid (fourB_all X Y Z n)
        have HNL := numsB_len X Y Z n (by omega) (by omega) (by omega) (by omega)
        have HX2 := Lib.hid (HX1.out.below HB.out (by omega))
        have x3 : wr.cell? ⟨w.heap.size, 3, none⟩ = some (.slice A n c) := HX2.out.cell 3
        rw [HF.out] at HO
        obtain ⟨wo, rfl⟩ : ∃ wo : World, wo = wr := ⟨_, rfl⟩
        have HBX := Lib.hid (HB1.out.trans (HB.out.mono (by omega)))
        have hso : w.heap.size + 1 ≤ wo.heap.size := Nat.le_trans hs1 HB.out.size
        have HRO := Lib.hid (HR.out.below HBX.out)
        generalize numsB X Y Z n = NB at *
        go_wp2_with fail
        clear x3
        go_loopw [4, 33] (fun b i wx => ∃ (k : Nat) (u : Value), k ≤ n ∧ i = .int .i64 k ∧ u = b ∧ Hid (Own (w.heap.size + 1) wx u (NB ++ worksB T k)) ∧ Hid (Below (w.heap.size + 1) wo wx)) (fun _ i _ => n - (intOf i).toNat)
        case atStart => exact ⟨0, _, by omega, rfl, rfl, by show Own _ _ _ _; simpa [worksB] using HO.out, Below.refl _ _⟩
        case round =>
          obtain ⟨k, u2, hkn, rfl, rfl, HO2, HB2⟩ := hrel
          have HW2 := Lib.hid (HBX.out.trans (HB2.out.mono (by omega)))
          by_cases hkl : k < n
          · have hkt : k < T.length := by rw [HN.out]; exact hkl
            obtain ⟨b, off, rfl, hc0⟩ := (HR.out.below HW2.out) (by intro e; rw [e] at hkt; simp at hkt)
            obtain ⟨c0, c1, c2⟩ := hc0 k hkt
            have HSU := Lib.hid (worksB_succ T k hkt)
            have HLE := Lib.hid (worksB_len HSH.out k (by omega))
            have hxs := HSH.out T[k] (List.getElem_mem hkt)
            have hkz : (k : Int) < (n : Int) := by omega
            clear hc0
            generalize worksB T k = M at *
            generalize T[k] = xk at *
            obtain ⟨xt, xd, xq⟩ := xk
            simp only at c0 c1 c2 hxs
            have ht1 := txt_len xt (by omega)
            have ht2 := txt_len xq (by omega)
            have HT1 := Lib.hid (fun W => txt0_any xt W (by omega))
            have HT2 := Lib.hid (fun W => txt0_any xq W (by omega))
            cases xd
            · have HWB : Hid (wkB ⟨xt, false, xq⟩ = ytxt xt ++ ([0] ++ ytxt xq)) := rfl
              obtain ⟨q, hq⟩ : ∃ q, wr.heap.size = q := ⟨_, rfl⟩
              have HQ := Lib.hid (Has.new wr 143 #[.string xt, .bool false, .string xq])
              have hba : Below wr.heap.size wr (wr.alloc (.cells #[.string xt, .bool false, .string xq] 143)) := (Below.refl _ wr).alloc (Nat.le_refl _) _
              have hO5 := HO2.out.below hba
              have hsr : w.heap.size + 1 ≤ wr.heap.size := Nat.le_trans hso HB2.out.size
              have HB5 := Lib.hid (HB2.out.trans (hba.mono hsr))
              go_wp2_with fail
              obtain ⟨W5, hW5⟩ : ∃ W, W = wr.alloc (.cells #[.string xt, .bool false, .string xq] 143) := ⟨_, rfl⟩
              rw [← hW5] at HQ hba hO5 HB5 ⊢
              have HO5 := Lib.hid hO5
              have hs5 : w.heap.size + 1 ≤ W5.heap.size := Nat.le_trans hsr hba.size
              clear hW5 hba hO5
              rw [hq] at HQ
              clear hq c0 c1 c2
              refine (HT1.out W5).mono ?_
              rintro e w6 ⟨A6, m6, c6, rfl, hm6, hr6, hz6, hb6⟩
              obtain ⟨R7, W7, hrun7, ho7, hb7, hk7⟩ := own_appK w6 (w.heap.size + 1) u2 (NB ++ M) (HO5.out.below hb6.out) (Nat.le_trans hs5 hb6.out.size) A6 (ytxt xt) m6 c6 hm6.out hr6.out (by rw [List.length_append]; have := HLE.out; have := hm6.out; omega) hz6.out
              have HO7 := Lib.hid ho7
              have HB7 := Lib.hid ((HB5.out.trans (hb6.out.mono hs5)).trans hb7)
              have HQ7 := Lib.hid (hk7.has (HQ.out.below hb6.out HQ.out.lt) (by decide))
              have hs7 : w.heap.size + 1 ≤ W7.heap.size := Nat.le_trans hso HB7.out.size
              have d1 : W7.cell? ⟨q, 1, none⟩ = some (.bool false) := HQ7.out.cell 1
              clear ho7 hb7 hk7 hb6 HB5 HO5 HQ
              have hlen7 : (NB ++ M ++ ytxt xt).length ≤ 12000 := by simp only [List.length_append]; have := HLE.out; omega
              have HA8 := Lib.hid (app_new W7 (w.heap.size + 1) R7 (NB ++ M ++ ytxt xt) [0] #[.int .u8 0] (by simp [bv]) 1 rfl HO7.out hs7 (by omega))
              obtain ⟨R8, W8, hrun8, ho8, hb8⟩ := HA8.out
              have hk8 := (app_at W7 W7.heap.size rfl (w.heap.size + 1) R7 (NB ++ M ++ ytxt xt) [0] #[.int .u8 0] (by simp [bv]) 1 rfl HO7.out hs7 (by omega))
              obtain ⟨R8b, W8b, hrun8b, _, _, hk8⟩ := hk8
              obtain ⟨rfl, rfl⟩ : R8b = R8 ∧ W8b = W8 := by rw [hrun8] at hrun8b; injection hrun8b with e1 e2; exact ⟨e1.symm, e2.symm⟩
              have HO8 := Lib.hid ho8
              have HB8 := Lib.hid (HB7.out.trans hb8)
              have HQ8 := Lib.hid (hk8.has HQ7.out (by decide))
              have hs8 : w.heap.size + 1 ≤ W8b.heap.size := Nat.le_trans hso HB8.out.size
              have d2 : W8b.cell? ⟨q, 2, none⟩ = some (.string xq) := HQ8.out.cell 2
              clear ho8 hb8 hk8 hrun8b HA8
              have HFL := Lib.hid ((flag_lit W7).2)
              go_wp2_with (at_builtin; refine wpList_app rfl _ _ 37 37 rfl u2 (.slice A6 m6 c6) rfl rfl ⟨_, _, hrun7, ?_⟩)
              refine HFL.out.mono ?_
              rintro e w9 ⟨rfl, rfl⟩
              go_wp2_with (at_builtin; refine wpList_app rfl _ _ 37 37 rfl R7 (.slice (some ⟨w9.heap.size, 0, none⟩) 1 1) rfl rfl ⟨_, _, hrun8, ?_⟩)
              refine (HT2.out _).mono ?_
              rintro e w10 ⟨A10, m10, c10, rfl, hm10, hr10, hz10, hb10⟩
              obtain ⟨R11, W11, hrun11, ho11, hb11, _⟩ := own_appK w10 (w.heap.size + 1) R8b (NB ++ M ++ ytxt xt ++ [0]) (HO8.out.below hb10.out) (Nat.le_trans hs8 hb10.out.size) A10 (ytxt xq) m10 c10 hm10.out hr10.out (by rw [List.length_append]; simp only [List.length_singleton]; have := hm10.out; omega) hz10.out
              have HO11 : Hid (Own (w.heap.size + 1) W11 R11 (NB ++ worksB T (k + 1))) := by show Own _ _ _ _; rw [HSU.out, HWB.out]; simpa [List.append_assoc] using ho11
              have HB11 := Lib.hid ((HB8.out.trans (hb10.out.mono hs8)).trans hb11)
              clear ho11 hb11 hb10
              go_wp2_with (at_builtin; refine wpList_app rfl _ _ 37 37 rfl R8b (.slice A10 m10 c10) rfl rfl ⟨_, _, hrun11, ?_⟩)
              go_roundw
              case rel => exact ⟨k + 1, R11, by omega, by go_num, rfl, HO11.out, HB11.out⟩
              case measure => simp [intOf]; omega
            · have HWB : Hid (wkB ⟨xt, true, xq⟩ = ytxt xt ++ ([1] ++ ytxt xq)) := rfl
              obtain ⟨q, hq⟩ : ∃ q, wr.heap.size = q := ⟨_, rfl⟩
              have HQ := Lib.hid (Has.new wr 143 #[.string xt, .bool true, .string xq])
              have hba : Below wr.heap.size wr (wr.alloc (.cells #[.string xt, .bool true, .string xq] 143)) := (Below.refl _ wr).alloc (Nat.le_refl _) _
              have hO5 := HO2.out.below hba
              have hsr : w.heap.size + 1 ≤ wr.heap.size := Nat.le_trans hso HB2.out.size
              have HB5 := Lib.hid (HB2.out.trans (hba.mono hsr))
              go_wp2_with fail
              obtain ⟨W5, hW5⟩ : ∃ W, W = wr.alloc (.cells #[.string xt, .bool true, .string xq] 143) := ⟨_, rfl⟩
              rw [← hW5] at HQ hba hO5 HB5 ⊢
              have HO5 := Lib.hid hO5
              have hs5 : w.heap.size + 1 ≤ W5.heap.size := Nat.le_trans hsr hba.size
              clear hW5 hba hO5
              rw [hq] at HQ
              clear hq c0 c1 c2
              refine (HT1.out W5).mono ?_
              rintro e w6 ⟨A6, m6, c6, rfl, hm6, hr6, hz6, hb6⟩
              obtain ⟨R7, W7, hrun7, ho7, hb7, hk7⟩ := own_appK w6 (w.heap.size + 1) u2 (NB ++ M) (HO5.out.below hb6.out) (Nat.le_trans hs5 hb6.out.size) A6 (ytxt xt) m6 c6 hm6.out hr6.out (by rw [List.length_append]; have := HLE.out; have := hm6.out; omega) hz6.out
              have HO7 := Lib.hid ho7
              have HB7 := Lib.hid ((HB5.out.trans (hb6.out.mono hs5)).trans hb7)
              have HQ7 := Lib.hid (hk7.has (HQ.out.below hb6.out HQ.out.lt) (by decide))
              have hs7 : w.heap.size + 1 ≤ W7.heap.size := Nat.le_trans hso HB7.out.size
              have d1 : W7.cell? ⟨q, 1, none⟩ = some (.bool true) := HQ7.out.cell 1
              clear ho7 hb7 hk7 hb6 HB5 HO5 HQ
              have hlen7 : (NB ++ M ++ ytxt xt).length ≤ 12000 := by simp only [List.length_append]; have := HLE.out; omega
              have HA8 := Lib.hid (app_new W7 (w.heap.size + 1) R7 (NB ++ M ++ ytxt xt) [1] #[.int .u8 1] (by simp [bv]) 1 rfl HO7.out hs7 (by omega))
              obtain ⟨R8, W8, hrun8, ho8, hb8⟩ := HA8.out
              have hk8 := (app_at W7 W7.heap.size rfl (w.heap.size + 1) R7 (NB ++ M ++ ytxt xt) [1] #[.int .u8 1] (by simp [bv]) 1 rfl HO7.out hs7 (by omega))
              obtain ⟨R8b, W8b, hrun8b, _, _, hk8⟩ := hk8
              obtain ⟨rfl, rfl⟩ : R8b = R8 ∧ W8b = W8 := by rw [hrun8] at hrun8b; injection hrun8b with e1 e2; exact ⟨e1.symm, e2.symm⟩
              have HO8 := Lib.hid ho8
              have HB8 := Lib.hid (HB7.out.trans hb8)
              have HQ8 := Lib.hid (hk8.has HQ7.out (by decide))
              have hs8 : w.heap.size + 1 ≤ W8b.heap.size := Nat.le_trans hso HB8.out.size
              have d2 : W8b.cell? ⟨q, 2, none⟩ = some (.string xq) := HQ8.out.cell 2
              clear ho8 hb8 hk8 hrun8b HA8
              have HFL := Lib.hid ((flag_lit W7).1)
              go_wp2_with (at_builtin; refine wpList_app rfl _ _ 37 37 rfl u2 (.slice A6 m6 c6) rfl rfl ⟨_, _, hrun7, ?_⟩)
              refine HFL.out.mono ?_
              rintro e w9 ⟨rfl, rfl⟩
              go_wp2_with (at_builtin; refine wpList_app rfl _ _ 37 37 rfl R7 (.slice (some ⟨w9.heap.size, 0, none⟩) 1 1) rfl rfl ⟨_, _, hrun8, ?_⟩)
              refine (HT2.out _).mono ?_
              rintro e w10 ⟨A10, m10, c10, rfl, hm10, hr10, hz10, hb10⟩
              obtain ⟨R11, W11, hrun11, ho11, hb11, _⟩ := own_appK w10 (w.heap.size + 1) R8b (NB ++ M ++ ytxt xt ++ [1]) (HO8.out.below hb10.out) (Nat.le_trans hs8 hb10.out.size) A10 (ytxt xq) m10 c10 hm10.out hr10.out (by rw [List.length_append]; simp only [List.length_singleton]; have := hm10.out; omega) hz10.out
              have HO11 : Hid (Own (w.heap.size + 1) W11 R11 (NB ++ worksB T (k + 1))) := by show Own _ _ _ _; rw [HSU.out, HWB.out]; simpa [List.append_assoc] using ho11
              have HB11 := Lib.hid ((HB8.out.trans (hb10.out.mono hs8)).trans hb11)
              clear ho11 hb11 hb10
              go_wp2_with (at_builtin; refine wpList_app rfl _ _ 37 37 rfl R8b (.slice A10 m10 c10) rfl rfl ⟨_, _, hrun11, ?_⟩)
              go_roundw
              case rel => exact ⟨k + 1, R11, by omega, by go_num, rfl, HO11.out, HB11.out⟩
              case measure => simp [intOf]; omega
          · obtain rfl : k = n := by omega
            have hkz : ¬ ((k : Int) < (k : Int)) := by omega
            go_wp2_with fail
            go_ret2
            exact ⟨_, rfl, by rw [HPB.out]; exact own_down HO2.out (by omega), HW2⟩
end Go.Proofs.YtlhfdhmmdnkojaaGreatDoor
namespace Go.Proofs.YtlhfdhmmdnkojaaGreatDoor
open Go.RowKit Dg
set_option maxRecDepth 100000
theorem own_open {B : Nat} {w : World} {v : Value} {l : List Nat} (h : Own B w v l) (h0 : 0 < l.length) : ∃ A m c, v = .slice A m c ∧ Hid (l.length = m) ∧ Hid (Rd w A l) ∧ Hid (A = none → c = 0) := by
  obtain ⟨A, c, e, _, hr⟩ := own_full h
  refine ⟨A, _, c, e, rfl, hr, fun e2 => ?_⟩
  obtain ⟨b, off, e3, _⟩ := hr (by intro h; rw [h] at h0; simp at h0)
  rw [e2] at e3; cases e3
end Go.Proofs.YtlhfdhmmdnkojaaGreatDoor
namespace Go.Proofs.YtlhfdhmmdnkojaaGreatDoor
open Go.RowKit Dg
set_option maxRecDepth 100000
theorem ptbox2 {w : World} {x y z x' y' z' : Int} {A A' : Option Addr} {n c n' c' : Nat} : Hid (Has ((w.alloc (.cells #[.int .i64 x, .int .i64 y, .int .i64 z, .slice A n c] 67)).alloc (.cells #[.int .i64 x', .int .i64 y', .int .i64 z', .slice A' n' c'] 67)) w.heap.size 67 #[.int .i64 x, .int .i64 y, .int .i64 z, .slice A n c]) ∧ Hid (Has ((w.alloc (.cells #[.int .i64 x, .int .i64 y, .int .i64 z, .slice A n c] 67)).alloc (.cells #[.int .i64 x', .int .i64 y', .int .i64 z', .slice A' n' c'] 67)) (w.heap.size + 1) 67 #[.int .i64 x', .int .i64 y', .int .i64 z', .slice A' n' c']) ∧ Below w.heap.size w ((w.alloc (.cells #[.int .i64 x, .int .i64 y, .int .i64 z, .slice A n c] 67)).alloc (.cells #[.int .i64 x', .int .i64 y', .int .i64 z', .slice A' n' c'] 67)) := by
  refine ⟨(Has.new w 67 _).alloc _, ?_, ((Below.refl _ w).alloc (Nat.le_refl _) _).alloc (by simp) _⟩
  have h := Has.new (w.alloc (.cells #[.int .i64 x, .int .i64 y, .int .i64 z, .slice A n c] 67)) 67 #[.int .i64 x', .int .i64 y', .int .i64 z', .slice A' n' c']
  rw [show (w.alloc (.cells #[.int .i64 x, .int .i64 y, .int .i64 z, .slice A n c] 67)).heap.size = w.heap.size + 1 by simp] at h
  exact h
set_option maxHeartbeats 4000000 in
theorem rsame_pt {B B' : Nat} {A A' : Option Addr} {n c n' c' : Nat} {T : List Wk} (x y z : Int) (w : World) (h : OwnW B w (.slice A n c) T) (h' : OwnW B' w (.slice A' n' c') T) (hl : T.length ≤ 1000) :
    Calls Tryz.prog 39 #[.agg #[.int .i64 x, .int .i64 y, .int .i64 z, .slice A n c], .agg #[.int .i64 x, .int .i64 y, .int .i64 z, .slice A' n' c']] w fun e w' => e = .returned (.bool true) ∧ Hid (Below w.heap.size w w') := by
  obtain ⟨H1, H2, hb⟩ := ptbox2 (w := w) (x := x) (y := y) (z := z) (x' := x) (y' := y) (z' := z) (A := A) (n := n) (c := c) (A' := A') (n' := n') (c' := c')
  have HE := Lib.hid (sameW_any _ (h.below hb) (h'.below hb) hl)
  rw [sameW_self] at HE
  have HB := Lib.hid hb
  clear h h' hb
  go_enter Tryz.func39, Tryz.ntmps39
  have a3 := H1.out.cell 3
  have b3 := H2.out.cell 3
  simp at a3 b3
  go_wp2_with fail
  refine HE.out.mono ?_
  rintro e w1 ⟨rfl, hb1⟩
  have HB1 := Lib.hid (HB.out.trans (hb1.out.mono HB.out.size))
  have G1 := Lib.hid (H1.out.below hb1.out H1.out.lt)
  have G2 := Lib.hid (H2.out.below hb1.out H2.out.lt)
  have a0 : w1.cell? ⟨w.heap.size, 0, none⟩ = some (.int .i64 x) := G1.out.cell 0
  have a1 : w1.cell? ⟨w.heap.size, 1, none⟩ = some (.int .i64 y) := G1.out.cell 1
  have a2 : w1.cell? ⟨w.heap.size, 2, none⟩ = some (.int .i64 z) := G1.out.cell 2
  have b0 : w1.cell? ⟨w.heap.size + 1, 0, none⟩ = some (.int .i64 x) := G2.out.cell 0
  have b1 : w1.cell? ⟨w.heap.size + 1, 1, none⟩ = some (.int .i64 y) := G2.out.cell 1
  have b2 : w1.cell? ⟨w.heap.size + 1, 2, none⟩ = some (.int .i64 z) := G2.out.cell 2
  clear a3 b3 hb1 HE
  go_wp2_with fail
  go_ret
  exact ⟨rfl, HB1⟩
end Go.Proofs.YtlhfdhmmdnkojaaGreatDoor
namespace Go.Proofs.YtlhfdhmmdnkojaaGreatDoor
open Go.RowKit Dg
set_option maxRecDepth 100000
set_option maxHeartbeats 400000 in
theorem NumberD_get {D : Nat} (g : Nat) (l : List Nat) (e : Nat) (w : World) (h : RdrD D w g l e) (hl : ∀ x ∈ l, x < 256) (hb : l.length ≤ 1000000) :
    Calls Tryz.prog 83 #[.pointer (some ⟨g, 0, none⟩)] w (StepD D w g (.int .i64 ((numF 9223372036854775807 l e).1 : Int)) (numF 9223372036854775807 l e).2.1 (numF 9223372036854775807 l e).2.2) := by
  have hc := numberD_any g l e w 9223372036854775807 h hl hb
  have hle := numF_le 9223372036854775807 l e
  generalize numF 9223372036854775807 l e = R at *
  obtain ⟨r1, r2, r3⟩ := R
  simp only at hle hc ⊢
  have HC := Lib.hid hc
  clear hc h
  go_enter Tryz.func83, Tryz.ntmps83
  go_wp2_with fail
  refine HC.out.mono ?_
  rintro x w1 ⟨rfl, hd, hg⟩
  have HD := Lib.hid hd
  have HG := Lib.hid hg
  clear hd hg
  go_wp2_with fail
  go_ret
  exact ⟨rfl, HD.out, HG.out⟩
/-- A number that was written is read. -/
theorem numD_put {D : Nat} (g n : Nat) (rest : List Nat) (w : World) (h : RdrD D w g (digs n ++ rest) 0) (hn : n ≤ 9223372036854775807) (hl : ∀ x ∈ digs n ++ rest, x < 256) (hb : (digs n ++ rest).length ≤ 1000000) :
    Calls Tryz.prog 83 #[.pointer (some ⟨g, 0, none⟩)] w fun x w' => x = .returned (.int .i64 (n : Int)) ∧ Hid (RdrD D w' g rest 0) ∧ Hid (w.grownBy w' (some g)) := by
  refine (NumberD_get g _ 0 w h hl hb).mono ?_
  rintro x w' ⟨rfl, h1, h2⟩
  rw [numF_whole 9223372036854775807 n rest (by omega) hn] at h1 ⊢
  exact ⟨rfl, h1, h2⟩
end Go.Proofs.YtlhfdhmmdnkojaaGreatDoor
namespace Go.Proofs.YtlhfdhmmdnkojaaGreatDoor
open Go.RowKit Dg
set_option maxRecDepth 100000
theorem textF_gen (most : Int) (s : ByteArray) (hs : s.size ≤ 900) (hm : (s.size : Int) ≤ most) (rest : List Nat) : textF most (ytxt s ++ rest) 0 = (sb s, rest, 0) := by
  have hn : s.size < 18446744073709551616 := by omega
  unfold textF ytxt
  rw [if_neg (by simp), List.append_assoc, head_whole _ s.size _ hn (by omega)]
  simp only
  rw [if_neg (by simp), if_neg (by omega), if_neg]
  · have h1 : (digs s.size ++ (sb s ++ rest)).drop (digs s.size).length = sb s ++ rest := List.drop_left
    rw [← List.drop_drop, h1]
    have h2 : (sb s ++ rest).take s.size = sb s := by rw [← sb_length s]; exact List.take_left
    have h3 : (sb s ++ rest).drop s.size = rest := by rw [← sb_length s]; exact List.drop_left
    rw [h2, h3]
  · rw [List.length_append, List.length_append, sb_length]
    omega
/-- A text that was written is read. -/
theorem txtD_put {D : Nat} (g : Nat) (most : Int) (s : ByteArray) (rest : List Nat) (w : World) (h : RdrD D w g (ytxt s ++ rest) 0) (hs : s.size ≤ 900) (hm : (s.size : Int) ≤ most) (hl : ∀ x ∈ ytxt s ++ rest, x < 256) (hb : (ytxt s ++ rest).length ≤ 1000000) :
    Calls Tryz.prog 138 #[.pointer (some ⟨g, 0, none⟩), .int .i64 most] w fun x w' => x = .returned (.string s) ∧ Hid (RdrD D w' g rest 0) ∧ Hid (w.grownBy w' (some g)) := by
  refine (TextD_get g _ 0 w most h hl hb).mono ?_
  rintro x w' ⟨rfl, h1, h2⟩
  rw [textF_gen most s hs hm rest] at h1 ⊢
  exact ⟨by rw [bs_sb], h1, h2⟩
theorem byteD_put {D : Nat} (g y : Nat) (rest : List Nat) (w : World) (h : RdrD D w g (y :: rest) 0) (hl : ∀ x ∈ y :: rest, x < 256) (hb : (y :: rest).length ≤ 1000000) :
    Calls Tryz.prog 61 #[.pointer (some ⟨g, 0, none⟩)] w fun x w' => x = .returned (.int .i64 (y : Int)) ∧ Hid (RdrD D w' g rest 0) ∧ Hid (w.grownBy w' (some g)) := by
  refine (ByteD_get g _ 0 w h hl hb).mono ?_
  rintro x w' ⟨rfl, h1, h2⟩
  exact ⟨rfl, h1, h2⟩
theorem Has.grn {w w' : World} {g g' : Nat} {t : TypeId} {cs : Array Value} (h : Has w g' t cs) (hg : w.grownBy w' (some g)) (hne : g' ≠ g) : Has w' g' t cs :=
  (hg.block g' h.lt (fun e => hne (Option.some.inj e))).trans h
theorem RdrD.al {D : Nat} {w : World} {g : Nat} {l : List Nat} {e : Nat} (h : RdrD D w g l e) (hg : g < D) (hD : D ≤ w.heap.size) (o : Obj) : RdrD D (w.alloc o) g l e := h.keep hg ((Below.refl D w).alloc hD o)
theorem grn_set {w x : World} {g : Nat} (h : w.grownBy x (some g)) {p : Addr} (hp : w.heap.size ≤ p.block) (u : Value) : w.grownBy (x.setCell p u) (some g) :=
  ⟨h.os, h.tape, h.output, by rw [size_set]; exact h.size, fun b hb hne => by
    have := h.block b hb hne
    rw [← this]
    exact (Below.heap_setCell x p u b (by omega))⟩
theorem grn_below {w x y : World} {g : Nat} (h : w.grownBy x (some g)) (hb : Below x.heap.size x y) : w.grownBy y (some g) :=
  ⟨hb.os.trans h.os, hb.tape.trans h.tape, hb.output.trans h.output, Nat.le_trans h.size hb.size, fun b hlt hne => (hb.block b (Nat.lt_of_lt_of_le hlt h.size)).trans (h.block b hlt hne)⟩
end Go.Proofs.YtlhfdhmmdnkojaaGreatDoor
namespace Go.Proofs.YtlhfdhmmdnkojaaGreatDoor
open Go.RowKit Dg
set_option maxRecDepth 100000
set_option maxHeartbeats 16000000 in
theorem pwork_any {D : Nat} (g : Nat) (t k : ByteArray) (d : Bool) (rest : List Nat) (w : World) (h : RdrD D w g (wkB ⟨t, d, k⟩ ++ rest) 0) (hg : g < D) (hD : D ≤ w.heap.size) (ht : t.size ≤ 32) (hk : k.size ≤ 900) (hl : ∀ x ∈ wkB ⟨t, d, k⟩ ++ rest, x < 256) (hb : (wkB ⟨t, d, k⟩ ++ rest).length ≤ 1000000) :
    Calls Tryz.prog 139 #[.pointer (some ⟨g, 0, none⟩)] w fun e w' => e = .returned (.tuple #[.agg #[.string t, .bool d, .string k], .bool true]) ∧ Hid (RdrD D w' g rest 0) ∧ Hid (w.grownBy w' (some g)) := by
  have hwk : wkB ⟨t, d, k⟩ ++ rest = ytxt t ++ ((if d then 1 else 0) :: (ytxt k ++ rest)) := by
    unfold wkB
    simp
  rw [hwk] at h hl hb
  obtain ⟨y, hy⟩ : ∃ y : Nat, (if d then 1 else 0) = y := ⟨_, rfl⟩
  rw [hy] at h hl hb
  have hl1 : ∀ x ∈ y :: (ytxt k ++ rest), x < 256 := fun x hx => hl x (List.mem_append_right _ hx)
  have hl2 : ∀ x ∈ ytxt k ++ rest, x < 256 := fun x hx => hl1 x (List.mem_cons_of_mem _ hx)
  have hb1 : (y :: (ytxt k ++ rest)).length ≤ 1000000 := by rw [List.length_append] at hb; omega
  have hb2 : (ytxt k ++ rest).length ≤ 1000000 := by rw [List.length_cons] at hb1; omega
  have HT1 := Lib.hid (fun W (hr : RdrD D W g (ytxt t ++ (y :: (ytxt k ++ rest))) 0) => txtD_put g 32 t (y :: (ytxt k ++ rest)) W hr (by omega) (by omega) hl hb)
  have HY := Lib.hid (fun W (hr : RdrD D W g (y :: (ytxt k ++ rest)) 0) => byteD_put g y (ytxt k ++ rest) W hr hl1 hb1)
  have HT2 := Lib.hid (fun W (hr : RdrD D W g (ytxt k ++ rest) 0) => txtD_put g 9223372036854775807 k rest W hr hk (by omega) hl2 hb2)
  have HR1 := Lib.hid (h.al hg hD (.cells #[.string ⟨#[]⟩, .bool false, .string ⟨#[]⟩] 143))
  have HQ1 := Lib.hid (Has.new w 143 #[.string ⟨#[]⟩, .bool false, .string ⟨#[]⟩])
  have HG1 := Lib.hid (grn_below (grown_refl w g) ((Below.refl w.heap.size w).alloc (Nat.le_refl _) (.cells #[.string ⟨#[]⟩, .bool false, .string ⟨#[]⟩] 143)))
  obtain ⟨q1, hq1⟩ : ∃ q, w.heap.size = q := ⟨_, rfl⟩
  have hgq : g < q1 := by omega
  clear h hwk hl hb hl1 hl2 hb1 hb2
  go_enter Tryz.func139, Tryz.ntmps139
  go_wp2_with fail
  obtain ⟨W1, hW1⟩ : ∃ W, W = w.alloc (.cells #[.string ⟨#[]⟩, .bool false, .string ⟨#[]⟩] 143) := ⟨_, rfl⟩
  rw [← hW1] at HR1 HQ1 HG1 ⊢
  have hs1 : q1 < W1.heap.size := by rw [hW1, ← hq1]; simp
  rw [hq1] at HQ1
  clear hW1
  refine (HT1.out _ HR1.out).mono ?_
  rintro e w2 ⟨rfl, hr2, hg2⟩
  have HQ2 := Lib.hid (HQ1.out.grn hg2.out (by omega))
  have HG2 := Lib.hid (grown_trans HG1.out hg2.out)
  have hs2 : q1 < w2.heap.size := Nat.lt_of_lt_of_le hs1 hg2.out.size
  have HR3 := Lib.hid (hr2.out.al hg (by omega) (.cells #[.string t, .bool false, .string ⟨#[]⟩] 143))
  have HB3 := Lib.hid (Has.new w2 143 #[.string t, .bool false, .string ⟨#[]⟩])
  have hbw : Below w2.heap.size w2 (w2.alloc (.cells #[.string t, .bool false, .string ⟨#[]⟩] 143)) := (Below.refl _ w2).alloc (Nat.le_refl _) _
  have HQ3 := Lib.hid (HQ2.out.below hbw HQ2.out.lt)
  have HG3 := Lib.hid (grn_below HG2.out hbw)
  have hs3 : w2.heap.size < (w2.alloc (.cells #[.string t, .bool false, .string ⟨#[]⟩] 143)).heap.size := by simp
  clear hr2 hg2 hbw HR1 HQ1 HG1 HQ2 HG2 HT1
  go_wp2_with fail
  obtain ⟨W3, hW3⟩ : ∃ W, W = w2.alloc (.cells #[.string t, .bool false, .string ⟨#[]⟩] 143) := ⟨_, rfl⟩
  rw [← hW3] at HR3 HB3 HQ3 HG3 hs3 ⊢
  clear hW3
  generalize w2.heap.size = q2 at *
  refine (HY.out _ HR3.out).mono ?_
  rintro e w4 ⟨rfl, hr4, hg4⟩
  have HB4 := Lib.hid (HB3.out.grn hg4.out (by omega))
  have HQ4 := Lib.hid (HQ3.out.grn hg4.out (by omega))
  have HG4 := Lib.hid (grown_trans HG3.out hg4.out)
  have hs4 : q2 < w4.heap.size := Nat.lt_of_lt_of_le hs3 hg4.out.size
  have HR4 := hr4
  clear hr4 hg4 HR3 HB3 HQ3 HG3 HY
  have c1 : w4.cell? ⟨q2, 1, none⟩ = some (.bool false) := HB4.out.cell 1
  have f1 : w4.frozen? ⟨q2, 1, none⟩ = false := HB4.out.free 1
  have hyd : ((y : Int) == 1) = d := by rw [← hy]; cases d <;> rfl
  have hyl : (y : Int) ≤ 1 := by rw [← hy]; cases d <;> simp
  have HB5 : Hid (Has (w4.setCell ⟨q2, 1, none⟩ (.bool d)) q2 143 #[.string t, .bool d, .string ⟨#[]⟩]) := HB4.out.put 1 _
  have HQ5 := Lib.hid (HQ4.out.far (p := ⟨q2, 1, none⟩) (by show q1 ≠ q2; omega) (.bool d))
  have HG5 := Lib.hid (grn_set HG4.out (p := ⟨q2, 1, none⟩) (by show w.heap.size ≤ q2; omega) (.bool d))
  have HR5 := Lib.hid (HR4.out.keep hg ((Below.refl D w4).setCell (p := ⟨q2, 1, none⟩) (by show D ≤ q2; omega) (.bool d)))
  have hs5 : q2 < (w4.setCell ⟨q2, 1, none⟩ (.bool d)).heap.size := by rw [size_set]; exact hs4
  clear HB4 HQ4 HG4 HR4 hs4 hy
  go_wp2_with fail
  obtain ⟨W5, hW5⟩ : ∃ W, W = w4.setCell ⟨q2, 1, none⟩ (.bool d) := ⟨_, rfl⟩
  rw [← hW5] at HB5 HQ5 HG5 HR5 hs5 ⊢
  clear hW5 c1 f1
  refine (HT2.out _ HR5.out).mono ?_
  rintro e w6 ⟨rfl, hr6, hg6⟩
  have HB6 := Lib.hid (HB5.out.grn hg6.out (by omega))
  have HQ6 := Lib.hid (HQ5.out.grn hg6.out (by omega))
  have HG6 := Lib.hid (grown_trans HG5.out hg6.out)
  have HR6 := hr6
  clear hr6 hg6 HB5 HQ5 HG5 HR5 HT2
  have c2 : w6.cell? ⟨q2, 2, none⟩ = some (.string ⟨#[]⟩) := HB6.out.cell 2
  have f2 : w6.frozen? ⟨q2, 2, none⟩ = false := HB6.out.free 2
  have HB7 : Hid (Has (w6.setCell ⟨q2, 2, none⟩ (.string k)) q2 143 #[.string t, .bool d, .string k]) := HB6.out.put 2 _
  have HQ7 := Lib.hid (HQ6.out.far (p := ⟨q2, 2, none⟩) (by show q1 ≠ q2; omega) (.string k))
  have HG7 := Lib.hid (grn_set HG6.out (p := ⟨q2, 2, none⟩) (by show w.heap.size ≤ q2; omega) (.string k))
  have HR7 := Lib.hid (HR6.out.keep hg ((Below.refl D w6).setCell (p := ⟨q2, 2, none⟩) (by show D ≤ q2; omega) (.string k)))
  clear HB6 HQ6 HG6 HR6
  go_wp2_with fail
  obtain ⟨W7, hW7⟩ : ∃ W, W = w6.setCell ⟨q2, 2, none⟩ (.string k) := ⟨_, rfl⟩
  rw [← hW7] at HB7 HQ7 HG7 HR7 ⊢
  clear hW7 c2 f2
  have HE := Lib.hid (fun W (hr : RdrD D W g rest 0) => Errno_get g rest 0 W hr.rdr)
  have hb8 : Below W7.heap.size W7 W7.drew := (Below.refl _ W7).drew
  have HB8 := Lib.hid (HB7.out.drew)
  have HQ8 := Lib.hid (HQ7.out.drew)
  have HG8 := Lib.hid (grn_below HG7.out hb8)
  have HR8 := Lib.hid (HR7.out.keep hg ((Below.refl D W7).drew))
  obtain ⟨W8, hW8⟩ : ∃ W, W = W7.drew := ⟨_, rfl⟩
  have hS0 : (fun X : World => X.cell? ⟨q2, 0, none⟩ = some (.string t) ∧ X.cell? ⟨q2, 1, none⟩ = some (.bool d) ∧ X.cell? ⟨q2, 2, none⟩ = some (.string k)) W7.drew := ⟨HB8.out.cell 0, HB8.out.cell 1, HB8.out.cell 2⟩
  have r0 : W7.drew.cell? ⟨q1, 0, none⟩ = some (.string ⟨#[]⟩) := HQ8.out.cell 0
  have r1 : W7.drew.cell? ⟨q1, 1, none⟩ = some (.bool false) := HQ8.out.cell 1
  have r2 : W7.drew.cell? ⟨q1, 2, none⟩ = some (.string ⟨#[]⟩) := HQ8.out.cell 2
  have t0 : W7.drew.frozen? ⟨q1, 0, none⟩ = false := HQ8.out.free 0
  have t1 : W7.drew.frozen? ⟨q1, 1, none⟩ = false := HQ8.out.free 1
  have t2 : W7.drew.frozen? ⟨q1, 2, none⟩ = false := HQ8.out.free 2
  have r1' : W7.cell? ⟨q1, 1, none⟩ = some (.bool false) := HQ7.out.cell 1
  have r2' : W7.cell? ⟨q1, 2, none⟩ = some (.string ⟨#[]⟩) := HQ7.out.cell 2
  have t1' : W7.frozen? ⟨q1, 1, none⟩ = false := HQ7.out.free 1
  have t2' : W7.frozen? ⟨q1, 2, none⟩ = false := HQ7.out.free 2
  have HP := Lib.hid (hput3 HQ8.out (.string t) (.bool d) (.string k))
  have HBf := Lib.hid (((HB8.out.far (p := ⟨q1, 0, none⟩) (by show q2 ≠ q1; omega) (.string t)).far (p := ⟨q1, 1, none⟩) (by show q2 ≠ q1; omega) (.bool d)).far (p := ⟨q1, 2, none⟩) (by show q2 ≠ q1; omega) (.string k))
  have HGf := Lib.hid (grn_set (grn_set (grn_set HG8.out (p := ⟨q1, 0, none⟩) (by show w.heap.size ≤ q1; omega) (.string t)) (p := ⟨q1, 1, none⟩) (by show w.heap.size ≤ q1; omega) (.bool d)) (p := ⟨q1, 2, none⟩) (by show w.heap.size ≤ q1; omega) (.string k))
  have HRf := Lib.hid (HR8.out.keep hg ((((Below.refl D W7.drew).setCell (p := ⟨q1, 0, none⟩) (by show D ≤ q1; omega) (.string t)).setCell (p := ⟨q1, 1, none⟩) (by show D ≤ q1; omega) (.bool d)).setCell (p := ⟨q1, 2, none⟩) (by show D ≤ q1; omega) (.string k)))
  have hSf : (fun X : World => X.cell? ⟨q2, 0, none⟩ = some (.string t) ∧ X.cell? ⟨q2, 1, none⟩ = some (.bool d) ∧ X.cell? ⟨q2, 2, none⟩ = some (.string k)) (((W7.drew.setCell ⟨q1, 0, none⟩ (.string t)).setCell ⟨q1, 1, none⟩ (.bool d)).setCell ⟨q1, 2, none⟩ (.string k)) := ⟨HBf.out.cell 0, HBf.out.cell 1, HBf.out.cell 2⟩
  clear hW8
  refine wp_region_held_drew (S := (fun X : World => X.cell? ⟨q2, 0, none⟩ = some (.string t) ∧ X.cell? ⟨q2, 1, none⟩ = some (.bool d) ∧ X.cell? ⟨q2, 2, none⟩ = some (.string k))) (by kernel_rfl) hS0 (fun _ => ?_)
  (refine wpAnyH_take (i := 0) (v := ?_) rfl (by kernel_rfl) (by kernel_rfl) (by kernel_rfl) (fun _ _ _ h => h) (Or.inl ⟨by rfl, ?_⟩) (by assumption) ?_; rotate_left; (intro w hSw; (try dsimp only at hSw); go_simp; try with_reducible rfl); ((try simp only [List.getElem_toArray]); (try simp only [List.getElem_cons_succ]); (try simp only [List.getElem_cons_zero]); (try simp only [Act.put]); (try simp only [List.setIfInBounds_toArray]); (try simp only [List.set_cons_succ]); (try simp only [List.set_cons_zero])))
  (refine wpAnyH_take (i := 1) (v := ?_) rfl (by kernel_rfl) (by kernel_rfl) (by kernel_rfl) (fun _ _ _ h => h) (Or.inl ⟨by rfl, ?_⟩) (by assumption) ?_; rotate_left; (intro w hSw; (try dsimp only at hSw); go_simp; try with_reducible rfl); ((try simp only [List.getElem_toArray]); (try simp only [List.getElem_cons_succ]); (try simp only [List.getElem_cons_zero]); (try simp only [Act.put]); (try simp only [List.setIfInBounds_toArray]); (try simp only [List.set_cons_succ]); (try simp only [List.set_cons_zero])))
  (refine wpAnyH_take (i := 2) (v := ?_) rfl (by kernel_rfl) (by kernel_rfl) (by kernel_rfl) (fun _ _ _ h => h) (Or.inl ⟨by rfl, ?_⟩) (by assumption) ?_; rotate_left; (intro w hSw; (try dsimp only at hSw); go_simp; try with_reducible rfl); ((try simp only [List.getElem_toArray]); (try simp only [List.getElem_cons_succ]); (try simp only [List.getElem_cons_zero]); (try simp only [Act.put]); (try simp only [List.setIfInBounds_toArray]); (try simp only [List.set_cons_succ]); (try simp only [List.set_cons_zero])))
  (refine wpAnyH_take (i := 3) (v := ?_) rfl (by kernel_rfl) (by kernel_rfl) (by kernel_rfl) (fun _ _ _ h => h) (Or.inl ⟨by rfl, ?_⟩) (by assumption) ?_; rotate_left; (intro w hSw; (try dsimp only at hSw); go_simp; try with_reducible rfl); ((try simp only [List.getElem_toArray]); (try simp only [List.getElem_cons_succ]); (try simp only [List.getElem_cons_zero]); (try simp only [Act.put]); (try simp only [List.setIfInBounds_toArray]); (try simp only [List.set_cons_succ]); (try simp only [List.set_cons_zero])))
  (refine wpAnyH_take (i := 4) (v := ?_) rfl (by kernel_rfl) (by kernel_rfl) (by kernel_rfl) (fun _ _ _ h => h) (Or.inl ⟨by rfl, ?_⟩) (by assumption) ?_; rotate_left; (intro w hSw; (try dsimp only at hSw); go_simp; try with_reducible rfl); ((try simp only [List.getElem_toArray]); (try simp only [List.getElem_cons_succ]); (try simp only [List.getElem_cons_zero]); (try simp only [Act.put]); (try simp only [List.setIfInBounds_toArray]); (try simp only [List.set_cons_succ]); (try simp only [List.set_cons_zero])))
  refine wpAnyH_ready (rs := [5]) (by kernel_rfl) (by simp) ?_
  refine AllReadyH.cons rfl (fun K2 hK2 => ?_) AllReadyH.nil
  go_simp
  refine (HE.out _ HR8.out).mono ?_
  rintro e x5 ⟨rfl, rfl⟩
  go_wp2_with fail
  refine hK2.out _ _ (by (try dsimp only); exact hS0) (fun _ => ?_)
  clear hK2 K2
  (try simp only [List.getElem_toArray]); (try simp only [List.getElem_cons_succ]); (try simp only [List.getElem_cons_zero]); (try simp only [Act.put]); (try simp only [List.setIfInBounds_toArray]); (try simp only [List.set_cons_succ]); (try simp only [List.set_cons_zero])
  (refine wpAnyH_take (i := 6) (v := ?_) rfl (by kernel_rfl) (by kernel_rfl) (by kernel_rfl) (fun _ _ _ h => h) (Or.inl ⟨by rfl, ?_⟩) (by assumption) ?_; rotate_left; (intro w hSw; (try dsimp only at hSw); go_simp; try with_reducible rfl); ((try simp only [List.getElem_toArray]); (try simp only [List.getElem_cons_succ]); (try simp only [List.getElem_cons_zero]); (try simp only [Act.put]); (try simp only [List.setIfInBounds_toArray]); (try simp only [List.set_cons_succ]); (try simp only [List.set_cons_zero])))
  (refine wpAnyH_take (i := 7) (v := ?_) rfl (by kernel_rfl) (by kernel_rfl) (by kernel_rfl) (fun _ _ _ h => h) (Or.inl ⟨by rfl, ?_⟩) (by assumption) ?_; rotate_left; (intro w hSw; (try dsimp only at hSw); go_simp; try with_reducible rfl); ((try simp only [List.getElem_toArray]); (try simp only [List.getElem_cons_succ]); (try simp only [List.getElem_cons_zero]); (try simp only [Act.put]); (try simp only [List.setIfInBounds_toArray]); (try simp only [List.set_cons_succ]); (try simp only [List.set_cons_zero])))
  refine wpAnyH_ready (rs := [8]) (by kernel_rfl) (by simp) ?_
  refine AllReadyH.cons rfl (fun K2 hK2 => ?_) AllReadyH.nil
  go_simp
  refine hK2.out _ _ (by (try dsimp only); exact hSf) (fun _ => ?_)
  clear hK2 K2
  (try simp only [List.getElem_toArray]); (try simp only [List.getElem_cons_succ]); (try simp only [List.getElem_cons_zero]); (try simp only [Act.put]); (try simp only [List.setIfInBounds_toArray]); (try simp only [List.set_cons_succ]); (try simp only [List.set_cons_zero])
  (refine wpAnyH_take (i := 9) (v := ?_) rfl (by kernel_rfl) (by kernel_rfl) (by kernel_rfl) (fun _ _ _ h => h) (Or.inl ⟨by rfl, ?_⟩) (by assumption) ?_; rotate_left; (intro w hSw; (try dsimp only at hSw); go_simp; try with_reducible rfl); ((try simp only [List.getElem_toArray]); (try simp only [List.getElem_cons_succ]); (try simp only [List.getElem_cons_zero]); (try simp only [Act.put]); (try simp only [List.setIfInBounds_toArray]); (try simp only [List.set_cons_succ]); (try simp only [List.set_cons_zero])))
  refine wpAnyH_done (by kernel_rfl) ?_ _
  go_wp2_with fail
  exact bodyPost_ret (wEnd2 rfl _ q1 _ _ _ _ rfl HP.out) rfl ⟨rfl, HRf, HGf⟩
end Go.Proofs.YtlhfdhmmdnkojaaGreatDoor
namespace Go.Proofs.YtlhfdhmmdnkojaaGreatDoor
open Go.RowKit Dg
set_option maxRecDepth 100000
theorem OwnW.grn {B : Nat} {w w' : World} {g : Nat} {v : Value} {L : List Wk} (h : OwnW B w v L) (hb : w.grownBy w' (some g)) (hg : g < B) : OwnW B w' v L := by
  rcases h.2 with ⟨hv, hn⟩ | ⟨q, cap, cur, hv, hq, hh, hc, hcm, hsz, ht⟩
  · exact ⟨h.1, .inl ⟨hv, hn⟩⟩
  · exact ⟨h.1, .inr ⟨q, cap, cur, hv, hq, Has.grn (t := 143) (cs := cur) hh hb (by omega), hc, hcm, hsz, ht⟩⟩
theorem grn_belowB {B : Nat} {w x y : World} {g : Nat} (h : w.grownBy x (some g)) (hB : w.heap.size ≤ B) (hb : Below B x y) : w.grownBy y (some g) :=
  ⟨hb.os.trans h.os, hb.tape.trans h.tape, hb.output.trans h.output, Nat.le_trans h.size hb.size, fun b hlt hne => (hb.block b (Nat.lt_of_lt_of_le hlt hB)).trans (h.block b hlt hne)⟩
theorem wdrop_mem {T : List Wk} {k x : Nat} (h : x ∈ (T.drop k).flatMap wkB) : x ∈ T.flatMap wkB := by
  obtain ⟨y, hy, hx⟩ := List.mem_flatMap.1 h
  exact List.mem_flatMap.2 ⟨y, List.mem_of_mem_drop hy, hx⟩
theorem wdrop_len (T : List Wk) (k : Nat) : ((T.drop k).flatMap wkB).length ≤ (T.flatMap wkB).length := by
  have : (T.flatMap wkB).length = ((T.take k).flatMap wkB).length + ((T.drop k).flatMap wkB).length := by rw [← List.length_append, ← List.flatMap_append, List.take_append_drop]
  omega
theorem wdrop_cons (T : List Wk) (k : Nat) (h : k < T.length) : (T.drop k).flatMap wkB = wkB ⟨T[k].t, T[k].d, T[k].k⟩ ++ (T.drop (k + 1)).flatMap wkB := by
  rw [List.drop_eq_getElem_cons h, List.flatMap_cons]
theorem pEnd2 {fn : Func} {p u : Tmp} (h : fn.results = #[.cell p 67, .tmp u]) (w' : World) (g : Nat) (c0 c1 c2 c3 : Value) (tmps : Array Value) (hp : tmps.getD p undef = .pointer (some ⟨g, 0, none⟩)) (hh : Has w' g 67 #[c0, c1, c2, c3]) :
    (results fn tmps).run Tryz.prog w' = .ok (.tuple #[.agg #[c0, c1, c2, c3], tmps.getD u undef]) w' := by
  rw [results_cell_tmp h, hp]
  simp only [asAddr, Sem.run_pure, Result.andThen_ok]
  rw [run_loadVar_row w' g 67 67 #[c0, c1, c2, c3] (0, 0) _ hh Tryz.underlying67 rfl (by kernel_rfl)]
  rfl
set_option maxHeartbeats 16000000 in
theorem pread_any (X Y Z : Nat) (T : List Wk) (A : Option Addr) (n c : Nat) (w : World) (hr : Rd w A (ptB (X : Int) (Y : Int) (Z : Int) T)) (hn : (ptB (X : Int) (Y : Int) (Z : Int) T).length = n) (hlen : n ≤ 1000000) (h256 : ∀ x ∈ ptB (X : Int) (Y : Int) (Z : Int) T, x < 256) (hx : X ≤ 9223372036854775807) (hy : Y ≤ 9223372036854775807) (hz : Z ≤ 9223372036854775807) (hT : T.length ≤ 6) (hS : ∀ x ∈ T, x.t.size ≤ 32 ∧ x.k.size ≤ 900) (hTb : Tabs w) (hok : ptOk (X : Int) (Y : Int) (Z : Int) T = true) :
    Calls Tryz.prog 85 #[.slice A n c] w fun e w' => ∃ v, e = .returned (.tuple #[.agg #[.int .i64 (X : Int), .int .i64 (Y : Int), .int .i64 (Z : Int), v], .int .i64 0]) ∧ Hid (OwnW w.heap.size w' v T) ∧ Hid (Below w.heap.size w w') := by
  have hsp : ptB (X : Int) (Y : Int) (Z : Int) T = digs X ++ (digs Y ++ (digs Z ++ (digs T.length ++ worksB T T.length))) := by
    unfold ptB numsB
    simp
  have hb0 : Below w.heap.size w (w.alloc (.cells #[.int .i64 0, .int .i64 0, .int .i64 0, .slice none 0 0] 67)) := (Below.refl _ w).alloc (Nat.le_refl _) _
  have HR0 := Lib.hid (hr.below hb0)
  have HQ0 := Lib.hid (Has.new w 67 #[.int .i64 0, .int .i64 0, .int .i64 0, .slice none 0 0])
  have HB0 := Lib.hid hb0
  rw [hsp] at HR0 hn h256
  have h2 : ∀ x ∈ digs Y ++ (digs Z ++ (digs T.length ++ worksB T T.length)), x < 256 := fun x hx => h256 x (List.mem_append_right _ hx)
  have h3 : ∀ x ∈ digs Z ++ (digs T.length ++ worksB T T.length), x < 256 := fun x hx => h2 x (List.mem_append_right _ hx)
  have h4 : ∀ x ∈ digs T.length ++ worksB T T.length, x < 256 := fun x hx => h3 x (List.mem_append_right _ hx)
  have h5 : ∀ x ∈ worksB T T.length, x < 256 := fun x hx => h4 x (List.mem_append_right _ hx)
  have n1 : (digs X ++ (digs Y ++ (digs Z ++ (digs T.length ++ worksB T T.length)))).length ≤ 1000000 := by omega
  have n2 : (digs Y ++ (digs Z ++ (digs T.length ++ worksB T T.length))).length ≤ 1000000 := by rw [List.length_append] at n1; omega
  have n3 : (digs Z ++ (digs T.length ++ worksB T T.length)).length ≤ 1000000 := by rw [List.length_append] at n2; omega
  have n4 : (digs T.length ++ worksB T T.length).length ≤ 1000000 := by rw [List.length_append] at n3; omega
  have n5 : (worksB T T.length).length ≤ 1000000 := by rw [List.length_append] at n4; omega
  clear hr hb0 hsp
  obtain ⟨N, hN⟩ : ∃ N, T.length = N := ⟨_, rfl⟩
  rw [hN] at HR0 hn h256 h2 h3 h4 h5 n1 n2 n3 n4 n5
  have HRD := Lib.hid (fun W (h : Rd W A (digs X ++ (digs Y ++ (digs Z ++ (digs N ++ worksB T N))))) => Read_len A _ n c W hn h hlen)
  have HN1 := Lib.hid (fun D g W (hr : RdrD D W g (digs X ++ (digs Y ++ (digs Z ++ (digs N ++ worksB T N)))) 0) => numD_put g X _ W hr hx h256 n1)
  have HN2 := Lib.hid (fun D g W (hr : RdrD D W g (digs Y ++ (digs Z ++ (digs N ++ worksB T N))) 0) => numD_put g Y _ W hr hy h2 n2)
  have HN3 := Lib.hid (fun D g W (hr : RdrD D W g (digs Z ++ (digs N ++ worksB T N)) 0) => numD_put g Z _ W hr hz h3 n3)
  have HN4 := Lib.hid (fun D g W (hr : RdrD D W g (digs N ++ worksB T N) 0) => numD_put g N _ W hr (by omega) h4 n4)
  have hWB : worksB T N = T.flatMap wkB := by unfold worksB; rw [← hN, List.take_length]
  rw [hWB] at h5 n5
  have H5 := Lib.hid h5
  have HSH := Lib.hid hS
  clear h5 hS hWB
  clear h256 h2 h3 h4 n1 n2 n3 n4
  go_enter Tryz.func85, Tryz.ntmps85
  go_wp2_with fail
  obtain ⟨q0, hq0⟩ : ∃ q, w.heap.size = q := ⟨_, rfl⟩
  obtain ⟨W0, hW0⟩ : ∃ W, W = w.alloc (.cells #[.int .i64 0, .int .i64 0, .int .i64 0, .slice none 0 0] 67) := ⟨_, rfl⟩
  have hs0 : q0 < W0.heap.size := by rw [hW0, ← hq0]; simp
  rw [← hW0] at HR0 HQ0 HB0 ⊢
  rw [hq0] at HQ0 HB0 ⊢
  clear hW0
  refine (HRD.out _ HR0.out).mono ?_
  rintro e w1 ⟨g, rfl, hg0, hr1, hb1⟩
  have HQ1 := Lib.hid (HQ0.out.below hb1.out hs0)
  have HB1 := Lib.hid (HB0.out.trans (hb1.out.mono (Nat.le_of_lt hs0)))
  obtain ⟨D, hD⟩ : ∃ D, w1.heap.size = D := ⟨_, rfl⟩
  have hgD : g < D := by obtain ⟨_, _, hh, _⟩ := hr1.out; rw [← hD]; exact hh.lt
  have HR1 := Lib.hid (hr1.out.dd)
  rw [hD] at HR1
  clear hr1 hb1 HQ0 HB0 HR0 HRD
  go_wp2_with fail
  refine (HN1.out _ _ _ HR1.out).mono ?_
  rintro e w2 ⟨rfl, hr2, hg2⟩
  go_wp2_with fail
  refine (HN2.out _ _ _ hr2.out).mono ?_
  rintro e w3 ⟨rfl, hr3, hg3⟩
  have hg3b := Lib.hid (grown_trans hg2.out hg3.out)
  go_wp2_with fail
  refine (HN3.out _ _ _ hr3.out).mono ?_
  rintro e w4 ⟨rfl, hr4, hg4⟩
  have HG4 := Lib.hid (grown_trans hg3b.out hg4.out)
  have HR4 := hr4
  have HQ4 := Lib.hid (HQ1.out.grn HG4.out (by omega))
  have hs4 : D ≤ w4.heap.size := by rw [← hD]; exact HG4.out.size
  clear hr2 hg2 hr3 hg3 hg3b hr4 hg4 HR1 HN1 HN2 HN3 HQ1
  have hb5 : Below w4.heap.size w4 (w4.alloc (.cells #[.int .i64 (X : Int), .int .i64 (Y : Int), .int .i64 (Z : Int), .slice none 0 0] 67)) := (Below.refl _ w4).alloc (Nat.le_refl _) _
  have HP5 := Lib.hid (Has.new w4 67 #[.int .i64 (X : Int), .int .i64 (Y : Int), .int .i64 (Z : Int), .slice none 0 0])
  have HQ5 := Lib.hid (HQ4.out.below hb5 HQ4.out.lt)
  have HG5 := Lib.hid (grn_below HG4.out hb5)
  have HR5 := Lib.hid (HR4.out.al hgD hs4 (.cells #[.int .i64 (X : Int), .int .i64 (Y : Int), .int .i64 (Z : Int), .slice none 0 0] 67))
  clear hb5 HR4 HQ4 HG4
  go_wp2_with fail
  obtain ⟨W5, hW5⟩ : ∃ W, W = w4.alloc (.cells #[.int .i64 (X : Int), .int .i64 (Y : Int), .int .i64 (Z : Int), .slice none 0 0] 67) := ⟨_, rfl⟩
  have hs5 : w4.heap.size < W5.heap.size := by rw [hW5]; simp
  rw [← hW5] at HP5 HQ5 HG5 HR5 ⊢
  clear hW5
  generalize w4.heap.size = q5 at *
  refine (HN4.out _ _ _ HR5.out).mono ?_
  rintro e w6 ⟨rfl, hr6, hg6⟩
  have HP6 := Lib.hid (HP5.out.grn hg6.out (by omega))
  have HQ6 := Lib.hid (HQ5.out.grn hg6.out (by omega))
  have HG6 := Lib.hid (grown_trans HG5.out hg6.out)
  have HR6 := hr6
  have hs6 : q5 < w6.heap.size := Nat.lt_of_lt_of_le hs5 hg6.out.size
  clear hr6 hg6 HP5 HQ5 HG5 HR5 HN4
  go_wp2_with fail
  obtain ⟨wo, rfl⟩ : ∃ wo : World, wo = w6 := ⟨_, rfl⟩
  go_loopw [19] (fun i wx => ∃ (k : Nat) (v : Value), k ≤ N ∧ i = .int .i64 k ∧ Hid (Has wx q5 67 #[.int .i64 (X : Int), .int .i64 (Y : Int), .int .i64 (Z : Int), v]) ∧ Hid (OwnW (q5 + 1) wx v (T.take k)) ∧ Hid (RdrD D wx g ((T.drop k).flatMap wkB) 0) ∧ Hid (Has wx q0 67 #[.int .i64 0, .int .i64 0, .int .i64 0, .slice none 0 0]) ∧ Hid (w1.grownBy wx (some g))) (fun i _ => N - (intOf i).toNat)
  case atStart =>
    refine ⟨0, _, by omega, rfl, HP6.out, ownW_nil _ _, ?_, HQ6.out, HG6.out⟩
    have := HR6.out
    rw [← hN] at this
    unfold worksB at this
    rw [List.take_length] at this
    exact this
  case round =>
    obtain ⟨k, v, hkn, rfl, HPr, HOr, HRr, HQr, HGr⟩ := hrel
    by_cases hkl : k < N
    · have hkt : k < T.length := by omega
      have HR7 := Lib.hid HRr.out
      rw [wdrop_cons T k hkt] at HR7
      have hxs := HSH.out T[k] (List.getElem_mem hkt)
      have hl : ∀ x ∈ wkB ⟨T[k].t, T[k].d, T[k].k⟩ ++ (T.drop (k + 1)).flatMap wkB, x < 256 := fun x hx => H5.out x (wdrop_mem (by rw [wdrop_cons T k hkt]; exact hx))
      have hb : (wkB ⟨T[k].t, T[k].d, T[k].k⟩ ++ (T.drop (k + 1)).flatMap wkB).length ≤ 1000000 := by rw [← wdrop_cons T k hkt]; exact Nat.le_trans (wdrop_len T k) n5
      have HW := Lib.hid (pwork_any g T[k].t T[k].k T[k].d _ wr HR7.out hgD (by rw [← hD]; exact HGr.out.size) hxs.1 hxs.2 hl hb)
      have hkz : (k : Int) < (N : Int) := by omega
      clear HR7 hl hb HRr
      go_wp2_with fail
      refine HW.out.mono ?_
      rintro e w8 ⟨rfl, hr8, hg8⟩
      have hsr : q5 < wr.heap.size := HPr.out.lt
      have hs8 : q5 < w8.heap.size := Nat.lt_of_lt_of_le hsr hg8.out.size
      have hb9 : Below w8.heap.size w8 (w8.alloc (.cells #[.string T[k].t, .bool T[k].d, .string T[k].k] 143)) := (Below.refl _ w8).alloc (Nat.le_refl _) _
      have HP8 := HPr.out.grn hg8.out (by omega)
      have HQ8 := HQr.out.grn hg8.out (by omega)
      have HP9 := Lib.hid (HP8.below hb9 HP8.lt)
      have HQ9 := Lib.hid (HQ8.below hb9 HQ8.lt)
      have HO9 := Lib.hid ((HOr.out.grn hg8.out (by omega)).below hb9)
      have HG9 := Lib.hid (grn_below (grown_trans HGr.out hg8.out) hb9)
      have HR9 := Lib.hid (hr8.out.al hgD (by omega) (.cells #[.string T[k].t, .bool T[k].d, .string T[k].k] 143))
      have HB9 := Lib.hid (Has.new w8 143 #[.string T[k].t, .bool T[k].d, .string T[k].k])
      have hs9 : w8.heap.size < (w8.alloc (.cells #[.string T[k].t, .bool T[k].d, .string T[k].k] 143)).heap.size := by simp
      clear hb9 HP8 HQ8 hr8 hg8 HPr HQr HOr HGr HW
      have HAP := Lib.hid (appW (w8.alloc (.cells #[.string T[k].t, .bool T[k].d, .string T[k].k] 143)) (w8.heap.size + 1) (by simp) (q5 + 1) v (T.take k) ⟨T[k].t, T[k].d, T[k].k⟩ HO9.out (by omega) (by rw [List.length_take]; omega))
      have p3 : (w8.alloc (.cells #[.string T[k].t, .bool T[k].d, .string T[k].k] 143)).cell? ⟨q5, 3, none⟩ = some v := HP9.out.cell 3
      have b0 : (w8.alloc (.cells #[.string T[k].t, .bool T[k].d, .string T[k].k] 143)).cell? ⟨w8.heap.size, 0, none⟩ = some (.string T[k].t) := HB9.out.cell 0
      have b1 : (w8.alloc (.cells #[.string T[k].t, .bool T[k].d, .string T[k].k] 143)).cell? ⟨w8.heap.size, 1, none⟩ = some (.bool T[k].d) := HB9.out.cell 1
      have b2 : (w8.alloc (.cells #[.string T[k].t, .bool T[k].d, .string T[k].k] 143)).cell? ⟨w8.heap.size, 2, none⟩ = some (.string T[k].k) := HB9.out.cell 2
      go_wp2_with (at_builtin; refine wpList_app rfl _ _ 65 65 rfl v (.slice (some ⟨w8.heap.size + 1, 0, none⟩) 1 1) rfl rfl ?_; obtain ⟨R, W', hrun, hmade⟩ := HAP.out; refine ⟨R, W', hrun, ?_⟩; obtain ⟨RA, rn, rc, rfl, _⟩ := ownW_open hmade.1; have HM := Lib.hid hmade; have HPm := Lib.hid (HP9.out.below hmade.2 (by omega)); have m3 : W'.cell? ⟨q5, 3, none⟩ = some v := HPm.out.cell 3; have m4 : W'.frozen? ⟨q5, 3, none⟩ = false := HPm.out.free 3; clear hrun hmade HAP)
      go_roundw
      case rel =>
        refine ⟨k + 1, .slice RA rn rc, by omega, by go_num, HPm.out.put 3 _, ?_, ?_, (HQ9.out.below HM.out.2 (by omega)).far (p := ⟨q5, 3, none⟩) (by show q0 ≠ q5; omega) _, grn_set (grn_belowB HG9.out (by omega) HM.out.2) (p := ⟨q5, 3, none⟩) (by show w1.heap.size ≤ q5; omega) _⟩
        · have h1 := HM.out.1.far (p := ⟨q5, 3, none⟩) (by show q5 < q5 + 1; omega) (.slice RA rn rc)
          rw [List.take_succ_eq_append_getElem hkt]
          exact h1
        · exact HR9.out.keep hgD ((HM.out.2.mono (by omega)).setCell (p := ⟨q5, 3, none⟩) (by show D ≤ q5; omega) _)
      case measure => simp [intOf]; omega
    · obtain rfl : k = N := by omega
      have hkz : ¬ (k : Int) < (k : Int) := by omega
      have HEN := Lib.hid (End_get g _ 0 wr HRr.out.rdr (by rw [← hN, List.drop_length]; simp))
      have hed : endF ((T.drop k).flatMap wkB) 0 = 0 := by rw [← hN, List.drop_length]; rfl
      rw [hed] at HEN
      obtain ⟨VA, vn, vc, rfl, _⟩ := ownW_open HOr.out
      have p0 : wr.cell? ⟨q5, 0, none⟩ = some (.int .i64 (X : Int)) := HPr.out.cell 0
      have p1 : wr.cell? ⟨q5, 1, none⟩ = some (.int .i64 (Y : Int)) := HPr.out.cell 1
      have p2 : wr.cell? ⟨q5, 2, none⟩ = some (.int .i64 (Z : Int)) := HPr.out.cell 2
      have p3 : wr.cell? ⟨q5, 3, none⟩ = some (.slice VA vn vc) := HPr.out.cell 3
      go_wp2_with fail
      refine HEN.out.mono ?_
      rintro e x ⟨rfl, rfl⟩
      go_wp2_with fail
      have HBR : Hid (Below w.heap.size w wr) := Below.turn (by rw [hq0]; exact HB1.out) HGr.out (by rw [hq0]; omega)
      have HOT : Hid (OwnW (q5 + 1) wr (.slice VA vn vc) T) := by have h1 := HOr.out; rw [← hN, List.take_length] at h1; exact h1
      have hMY := pptmay_any (X : Int) (Y : Int) (Z : Int) wr HOT.out (by omega) (fun x hx => ⟨by have := (HSH.out x hx).1; omega, (HSH.out x hx).2⟩) (hTb.below HBR.out)
      rw [hok] at hMY
      refine hMY.mono ?_
      rintro e w10 ⟨rfl, hb10⟩
      have P10 := Lib.hid (HPr.out.below hb10.out HPr.out.lt)
      have Q10 := Lib.hid (HQr.out.below hb10.out HQr.out.lt)
      have O10 := Lib.hid (HOT.out.below hb10.out)
      have B10 := Lib.hid (HBR.out.trans (hb10.out.mono HBR.out.size))
      have P0 : w10.cell? ⟨q5, 0, none⟩ = some (.int .i64 (X : Int)) := P10.out.cell 0
      have P1 : w10.cell? ⟨q5, 1, none⟩ = some (.int .i64 (Y : Int)) := P10.out.cell 1
      have P2 : w10.cell? ⟨q5, 2, none⟩ = some (.int .i64 (Z : Int)) := P10.out.cell 2
      have P3 : w10.cell? ⟨q5, 3, none⟩ = some (.slice VA vn vc) := P10.out.cell 3
      have Q0 : w10.cell? ⟨q0, 0, none⟩ = some (.int .i64 0) := Q10.out.cell 0
      have Q1 : w10.cell? ⟨q0, 1, none⟩ = some (.int .i64 0) := Q10.out.cell 1
      have Q2 : w10.cell? ⟨q0, 2, none⟩ = some (.int .i64 0) := Q10.out.cell 2
      have Q3 : w10.cell? ⟨q0, 3, none⟩ = some (.slice none 0 0) := Q10.out.cell 3
      have F0 : w10.frozen? ⟨q0, 0, none⟩ = false := Q10.out.free 0
      have F1 : w10.frozen? ⟨q0, 1, none⟩ = false := Q10.out.free 1
      have F2 : w10.frozen? ⟨q0, 2, none⟩ = false := Q10.out.free 2
      have F3 : w10.frozen? ⟨q0, 3, none⟩ = false := Q10.out.free 3
      clear hMY
      go_wp2_with fail
      have hE : Hid (Has ((((w10.setCell ⟨q0, 0, none⟩ (.int .i64 (X : Int))).setCell ⟨q0, 1, none⟩ (.int .i64 (Y : Int))).setCell ⟨q0, 2, none⟩ (.int .i64 (Z : Int))).setCell ⟨q0, 3, none⟩ (.slice VA vn vc)) q0 67 #[.int .i64 (X : Int), .int .i64 (Y : Int), .int .i64 (Z : Int), .slice VA vn vc]) := (((Q10.out.put 0 _).put 1 _).put 2 _).put 3 _
      have hO : Hid (OwnW w.heap.size ((((w10.setCell ⟨q0, 0, none⟩ (.int .i64 (X : Int))).setCell ⟨q0, 1, none⟩ (.int .i64 (Y : Int))).setCell ⟨q0, 2, none⟩ (.int .i64 (Z : Int))).setCell ⟨q0, 3, none⟩ (.slice VA vn vc)) (.slice VA vn vc) T) := ownW_down ((((O10.out.far (p := ⟨q0, 0, none⟩) (by show q0 < q5 + 1; omega) _).far (p := ⟨q0, 1, none⟩) (by show q0 < q5 + 1; omega) _).far (p := ⟨q0, 2, none⟩) (by show q0 < q5 + 1; omega) _).far (p := ⟨q0, 3, none⟩) (by show q0 < q5 + 1; omega) _) (by omega)
      have hB : Hid (Below w.heap.size w ((((w10.setCell ⟨q0, 0, none⟩ (.int .i64 (X : Int))).setCell ⟨q0, 1, none⟩ (.int .i64 (Y : Int))).setCell ⟨q0, 2, none⟩ (.int .i64 (Z : Int))).setCell ⟨q0, 3, none⟩ (.slice VA vn vc))) := (((B10.out.setCell (p := ⟨q0, 0, none⟩) (by show w.heap.size ≤ q0; omega) _).setCell (p := ⟨q0, 1, none⟩) (by show w.heap.size ≤ q0; omega) _).setCell (p := ⟨q0, 2, none⟩) (by show w.heap.size ≤ q0; omega) _).setCell (p := ⟨q0, 3, none⟩) (by show w.heap.size ≤ q0; omega) _
      exact bodyPost_ret (pEnd2 rfl _ q0 _ _ _ _ _ rfl hE.out) rfl ⟨_, rfl, hO, hB⟩
end Go.Proofs.YtlhfdhmmdnkojaaGreatDoor
namespace Go.Proofs.YtlhfdhmmdnkojaaGreatDoor
open Go.RowKit Go.Shelf Go.Maps Dg
set_option maxRecDepth 100000
set_option linter.unusedVariables false
theorem behindO_any (A' : Option Addr) (m : List Nat) (d : Nat) (w : World) (hA' : Rd w A' m) (hm : 0 < m.length) (hb : m.length ≤ 1000000) :
    Calls Tryz.prog 106 #[.slice none 0 0, .slice A' m.length d] w (OutO w m) := by
  obtain ⟨R, W', hrun, ho, hb', _⟩ := own_appK w w.heap.size (.slice none 0 0) [] (own_nil _ _) (Nat.le_refl _) A' m m.length d rfl hA' (by simpa using hb) (fun e => by
    subst e
    obtain ⟨b, off, e, _⟩ := hA' (by intro e; rw [e] at hm; simp at hm)
    cases e)
  rw [List.nil_append] at ho
  have HO := Lib.hid ho
  have HB := Lib.hid hb'
  clear ho hb' hA'
  go_enter Tryz.func106, Tryz.ntmps106
  go_wp2_with (at_builtin; refine wpList_app rfl _ _ 37 37 rfl (.slice none 0 0) (.slice A' m.length d) rfl rfl ⟨R, W', hrun, ?_⟩)
  go_ret
  exact ⟨R, rfl, HO.out, HB.out⟩
theorem NumberO_any (n : Nat) (w : World) (hn63 : (n : Int) ≤ 9223372036854775807) :
    Calls Tryz.prog 54 #[.slice none 0 0, .int .i64 n] w (OutO w (digs n)) := by
  have hbig : n < ybig := by unfold ybig; omega
  have ht := digs_le_ten n hbig
  have hp := digs_pos n
  go_enter Tryz.func54, Tryz.ntmps54
  go_wp2_with fail
  refine (ydigits_any n _ hbig).mono ?_
  intro e w1 hd
  obtain ⟨A', d, rfl, hr, hb1⟩ := hd.out
  have HR := Lib.hid hr
  clear hr hd
  go_wp2_with fail
  refine (behindO_any A' (digs n) d _ HR.out hp (by omega)).mono ?_
  intro e w2 ho
  have HO := Lib.hid ho
  clear ho
  obtain ⟨v, rfl, hv, hb2⟩ := HO.out
  have HV := Lib.hid (own_down hv hb1.size)
  have HB := Lib.hid (hb1.trans (hb2.mono hb1.size))
  clear hv hb1 hb2 HO HR
  go_wp2_with fail
  go_ret
  exact ⟨v, rfl, HV.out, HB.out⟩
/-- An append whose run is known, at a fence. -/
theorem wpListIn_app {F : Fence} {k : Nat} {P : Program} {ops : Array Oper} {rest : List Oper} {o : Oper} {a : Act} {w : World} {Q : Exit → Act → World → Prop} (hgd : o.guard = none) (s x : Operand) (t tx : TypeId)
    (ho : o.op = .call { callee := .builtin .append, args := #[s, x], argTypes := #[t, tx] }) (v xv : Value) (hs : a.eval s = v) (hx : a.eval x = xv)
    (hrun : ∃ R W', (Builtin.append_ #[t, tx] o.type #[v, xv]).run P w = .ok R W' ∧ wpListIn F k P ops Q rest (a.put o.dst R) W') : wpListIn F k P ops Q (o :: rest) a w := by
  obtain ⟨R, W', hrun, h⟩ := hrun
  refine wpListIn_plain hgd fun K hK' => ?_
  unfold Oper.wpIn
  refine ⟨?_, ?_⟩
  · simp [Oper.about, ho, resolve, Target.leads, Sem.run_pure]
  · rw [Oper.semAt_plain F _ _ (by rw [ho]; intro c hc'; cases hc')]
    simp [execOp, ho, resolve, invoke, builtin, hs, hx, hrun, Result.andThen]
    exact hK' _ _ h
theorem run_loadVar_one {P : Program} (w : World) (g : Nat) (t ty : TypeId) (v : Value) (d : TypeDesc) (hg : Has w g t #[v]) (hu : P.underlying ty = some d) (hd : (match d with | .struct _ | .array _ _ => true | _ => false) = false) :
    (loadVar ty ⟨g, 0, none⟩).run P w = .ok v w := by
  have hagg : (isAgg ty).run P w = .ok false w := by
    unfold isAgg
    rw [Sem.run_bind, run_underlying hu w]
    cases d <;> simp_all
  have hc : w.cell? ⟨g, 0, none⟩ = some v := hg.cell 0
  simp [loadVar, Sem.run_bind, hagg, hc, go_sem]
/-- Blocks without cells stay where a row of the call's own grows. -/
def KeptR (w w' : World) : Prop := ∀ b, b < w.heap.size → Rec w b → w'.heap[b]? = w.heap[b]?
theorem own_appD (w : World) (B : Nat) (v : Value) (l : List Nat) (h : Own B w v l) (hB : B ≤ w.heap.size) (A : Option Addr) (m : List Nat) (k c : Nat) (hk : m.length = k) (hm : Rd w A m) (hs : l.length + k ≤ 1000000) (hA : A = none → c = 0) :
    ∃ R W', (Builtin.append_ #[37, 37] 37 #[v, .slice A k c]).run Tryz.prog w = .ok R W' ∧ Own B W' R (l ++ m) ∧ Below B w W' ∧ Kept w W' ∧ KeptR w W' ∧ Tur v.ownBlock.toList w W' ∧ (∀ k, R.ownBlock = some k → v.ownBlock = some k ∨ w.heap.size ≤ k) := by
  subst hk
  obtain ⟨i0, hi, hz0, hz1, hz2⟩ := info_parts info5
  rcases A with _ | a
  · have hl : m = [] := by
      rcases m with _ | ⟨x, m⟩
      · rfl
      · obtain ⟨b, off, e, _⟩ := hm (by simp)
        cases e
    subst hl
    rw [hA rfl, List.append_nil]
    exact ⟨v, w, run_append_owned_none w B 37 37 5 i0 1 Tryz.underlying37 hi v _ _ h, h, Below.refl _ _, fun _ _ _ _ hh => hh, fun _ _ _ => rfl, Tur.refl _ _, fun _ hk => .inl hk⟩
  · have hc : ∀ j u, (m.map bv)[j]? = some u → w.cell? (a.add j) = some u := by
      intro j u hj
      have hjl : j < m.length := by
        have := (List.getElem?_eq_some_iff.1 hj).1
        simpa using this
      obtain ⟨b, off, e, hc⟩ := hm (by rintro rfl; simp at hjl)
      injection e with e
      subst e
      rw [Addr.add_lit, hc j hjl]
      simpa [hjl] using hj
    obtain ⟨R, W', hrun, hown, hg, _, hx⟩ := run_append_own_at (P := Tryz.prog) w B 37 37 5 i0 (.int .u8 0) 1 1 Tryz.underlying37 hi hz0 hz1 hz2 rfl (by decide) v l.length (l.map bv) h a m.length c (m.map bv) (by simp) hc (bv_one m) (by unfold maxLen; omega) (by omega) hB
    have hne : ∀ b t cs, Has w b t cs → t ≠ 5 → some b ≠ v.ownBlock := by
      intro g t cs hh ht e
      rcases h.2 with ⟨hv, _⟩ | ⟨g', cap, cur, hv, _, hc2, _⟩
      · rw [hv] at e; cases e
      · rw [hv] at e
        have e2 : g = g' := by simpa [Value.ownBlock] using e
        subst e2
        unfold Has at hh
        rw [hc2] at hh
        simp at hh
        exact ht hh.2.symm
    refine ⟨R, W', hrun, ?_, (Below.refl B w).grown hg hB fun k hk => (World.ownsRow.lt h k hk).1, ?_, ?_, Tur.grown hg fun k hk => by rw [hk]; simp, ?_⟩
    · unfold Own; rw [List.map_append, List.length_append]; exact hown
    · exact fun g t cs ht hh => (hg.block g hh.lt (hne g t cs hh ht)).trans hh
    · intro b hb hr
      refine hg.block b hb fun e => ?_
      rcases h.2 with ⟨hv, _⟩ | ⟨g', cap, cur, hv, _, hc2, _⟩
      · rw [hv] at e; cases e
      · rw [hv] at e
        have e2 : b = g' := by simpa [Value.ownBlock] using e
        subst e2
        exact hr 5 cur hc2
    · intro k hk
      rcases hx with hx | hx
      · exact .inl (hx ▸ hk)
      · rw [hx] at hk
        injection hk with hk
        exact .inr (by omega)
theorem own_tur {X : List Nat} {B : Nat} {w w' : World} {v : Value} {l : List Nat} (h : Own B w v l) (ht : Tur X w w') (hx : ∀ g, v.ownBlock = some g → g ∉ X) : Own B w' v l := by
  rcases h.2 with ⟨hv, hn⟩ | ⟨g, cap, cur, hv, hg, hh, hc, hcm, hsz, htk⟩
  · exact ⟨h.1, .inl ⟨hv, hn⟩⟩
  · exact ⟨h.1, .inr ⟨g, cap, cur, hv, hg, Has.tur (t := 5) (cs := cur) hh ht (hx g (by rw [hv]; rfl)), hc, hcm, hsz, htk⟩⟩
theorem digs_zero : digs 0 = [0] := by decide +kernel
theorem results_cc {fn : Func} {p0 p1 : Tmp} {t0 t1 : TypeId} (h : fn.results = #[.cell p0 t0, .cell p1 t1]) (tmps : Array Value) (P : Program) (w : World) :
    (results fn tmps).run P w = ((asAddr (tmps.getD p0 undef)).run P w).andThen fun a w₁ => ((loadVar t0 a).run P w₁).andThen fun v w₂ => ((asAddr (tmps.getD p1 undef)).run P w₂).andThen fun a2 w₃ => ((loadVar t1 a2).run P w₃).andThen fun v2 w₄ => .ok (.tuple #[v, v2]) w₄ := by
  simp only [results, h]
  simp [Sem.run_bind, Result.andThen]
  try (split <;> first | rfl | (simp [Result.andThen]; done) | skip)
set_option maxHeartbeats 4000000 in
theorem wwrite0_any {B : Nat} {A : Option Addr} {n c : Nat} {T : List Wk} (Al : Option Addr) (nl cl : Nat) (Aw : Option Addr) (cw : Nat) (x y z : Int) (w : World) (h : OwnW B w (.slice A n c) T) (hsh : Short T) (hl : T.length ≤ 6) (hx : x ≤ 9223372036854775807) (hy : y ≤ 9223372036854775807) (hz : z ≤ 9223372036854775807) (hT : Tabs w) (hok : ptOk x y z T = true) (hlen : (ptB x y z T).length ≤ 900000) :
    Calls Tryz.prog 35 #[.slice Al nl cl, .slice Aw 0 cw, .agg #[.int .i64 x, .int .i64 y, .int .i64 z, .slice A n c]] w fun e w' => ∃ v, e = .returned (.tuple #[v, .int .i64 0]) ∧ Hid (Own w.heap.size w' v (0 :: ptB x y z T)) ∧ Hid (Below w.heap.size w w') := by
  have b1 : Below w.heap.size w (((w.alloc (.cells #[.int .i64 x, .int .i64 y, .int .i64 z, .slice A n c] 67)).alloc (.cells #[.slice none 0 0] 37)).alloc (.cells #[.int .i64 0] 38)) := (((Below.refl _ w).alloc (Nat.le_refl _) _).alloc (by simp) _).alloc (by simp; omega) _
  have hp : Has (((w.alloc (.cells #[.int .i64 x, .int .i64 y, .int .i64 z, .slice A n c] 67)).alloc (.cells #[.slice none 0 0] 37)).alloc (.cells #[.int .i64 0] 38)) (w.heap.size + 1) 37 #[.slice none 0 0] := by
    have h := Has.new (w.alloc (.cells #[.int .i64 x, .int .i64 y, .int .i64 z, .slice A n c] 67)) 37 #[.slice none 0 0]
    rw [World.size_alloc] at h
    exact h.alloc _
  have hq : Has (((w.alloc (.cells #[.int .i64 x, .int .i64 y, .int .i64 z, .slice A n c] 67)).alloc (.cells #[.slice none 0 0] 37)).alloc (.cells #[.int .i64 0] 38)) (w.heap.size + 1 + 1) 38 #[.int .i64 0] := by
    have h := Has.new ((w.alloc (.cells #[.int .i64 x, .int .i64 y, .int .i64 z, .slice A n c] 67)).alloc (.cells #[.slice none 0 0] 37)) 38 #[.int .i64 0]
    rw [World.size_alloc, World.size_alloc] at h
    exact h
  obtain ⟨k, hk⟩ : ∃ k : Nat, Hid (k = 3) := ⟨3, rfl⟩
  refine (callsIn_wide (n := k)).1 ?_
  have hro : Fence.wide.round = none := rfl
  have hdd : ∀ k : Nat, (Fence.wide.depth.isSome = true → 1 ≤ k) := fun k h => by cases h
  refine callsIn_of_wp_marks Tryz.func35 rfl trivial ?_ rfl
  simp only [Tryz.ntmps35, List.size_toArray, List.length_cons, List.length_nil, Nat.reduceAdd, Nat.reduceSub, Array.replicate_succ, Array.replicate_zero, List.push_toArray, List.append_toArray, List.nil_append, List.cons_append]
  have HWR := fun W (hb : Below w.heap.size w W) => Lib.hid (pwrite_any x y z W (h.below hb) hsh hl hx hy hz (hT.below hb))
  rw [hok] at HWR
  have hpos : 0 < (ptB x y z T).length := by
    unfold ptB numsB
    have := digs_pos x.toNat
    simp only [List.length_append]
    omega
  gi_wp2
  obtain ⟨W1, hW1⟩ : ∃ W, W = (((w.alloc (.cells #[.int .i64 x, .int .i64 y, .int .i64 z, .slice A n c] 67)).alloc (.cells #[.slice none 0 0] 37)).alloc (.cells #[.int .i64 0] 38)) := ⟨_, rfl⟩
  rw [← hW1] at b1 hp hq ⊢
  clear hW1
  refine ⟨trivial, hdd _, ?_⟩
  refine (callsIn_wide.2 (HWR W1 b1).out).mono ?_
  rintro e w2 ⟨v2, rfl, ho2, hb2⟩
  simp only [if_true] at ho2
  obtain ⟨A2, n2, c2, rfl, hn2, hr2, hz2⟩ := own_open ho2.out hpos
  have HP := Lib.hid (hp.below hb2.out hp.lt)
  have HQ := Lib.hid (hq.below hb2.out hq.lt)
  have HB2 := Lib.hid (b1.trans (hb2.out.mono b1.size))
  have hs2 := HB2.out.size
  have hp2 : w.heap.size + 1 < w2.heap.size := HP.out.lt
  have hq2 : w.heap.size + 1 + 1 < w2.heap.size := HQ.out.lt
  clear HWR h hT hsh hp hq b1 ho2 hb2
  gi_wp2
  refine ⟨trivial, hdd _, ?_⟩
  refine (callsIn_wide.2 (NumberO_any 0 w2 (by decide))).mono ?_
  rintro e w3 ⟨v3, rfl, ho3, hb3⟩
  rw [digs_zero] at ho3
  obtain ⟨A3, n3, c3, rfl, hn3, hr3, hz3⟩ := own_open ho3 (by simp)
  have HO3 := Lib.hid ho3
  have hs23 := hb3.size
  have hb2s : w.heap.size ≤ w3.heap.size := Nat.le_trans hs2 hs23
  have HP3 := Lib.hid (HP.out.below hb3 HP.out.lt)
  have HQ3 := Lib.hid (HQ.out.below hb3 HQ.out.lt)
  have HR3 := Lib.hid (hr2.out.below hb3)
  have HB3 := Lib.hid (HB2.out.trans (hb3.mono HB2.out.size))
  clear ho3 hb3 hr2 HP HQ HB2 hn3 hr3 hz3
  have hb4 : Below w3.heap.size w3 (w3.alloc (.cells #[.slice A3 n3 c3] 37)) := (Below.refl _ w3).alloc (Nat.le_refl _) _
  have HX4 := Lib.hid (Has.new w3 37 #[.slice A3 n3 c3])
  have HO4 := Lib.hid (HO3.out.below hb4)
  have HP4 := Lib.hid (HP3.out.below hb4 HP3.out.lt)
  have HQ4 := Lib.hid (HQ3.out.below hb4 HQ3.out.lt)
  have HR4 := Lib.hid (HR3.out.below hb4)
  have HB4 := Lib.hid (HB3.out.trans (hb4.mono HB3.out.size))
  gi_wp2
  obtain ⟨W4, hW4⟩ : ∃ W, W = w3.alloc (.cells #[.slice A3 n3 c3] 37) := ⟨_, rfl⟩
  have hl4 : w2.heap.size ≤ W4.heap.size := by rw [hW4]; exact Nat.le_trans hs23 hb4.size
  rw [← hW4] at HX4
  rw [← hW4] at HO4 HP4 HQ4 HR4 HB4
  rw [← hW4]
  clear hW4 hb4 HO3 HP3 HQ3 HR3 HB3
  refine ⟨trivial, hdd _, ?_⟩
  refine (callsIn_wide.2 (given_any W4 Aw 0 cw)).mono ?_
  rintro e w5 ⟨rfl, hw5⟩
  have hb5 : Below W4.heap.size W4 w5 := by rw [hw5]; exact (Below.refl _ W4).alloc (Nat.le_refl _) _
  clear hw5
  gi_wp2
  refine ⟨trivial, hdd _, ?_⟩
  refine (callsIn_wide.2 (moments_any w5 Al nl cl 0 _ _)).mono ?_
  rintro e w6 ⟨rfl, hw6⟩
  have hb6 : Below w5.heap.size w5 w6 := by rw [hw6]; exact (((Below.refl _ w5).alloc (Nat.le_refl _) _).alloc (by simp) _).alloc (by simp; omega) _
  have ha6 : Has w6 w5.heap.size 22 #[.slice Al nl cl] := by rw [hw6]; exact ((Has.new w5 _ _).alloc _).alloc _
  have hc6 : Has w6 (w5.heap.size + 1) 3 #[.int .i64 0] := by
    have h := Has.new (w5.alloc (.cells #[.slice Al nl cl] 22)) 3 #[.int .i64 0]
    rw [World.size_alloc] at h
    rw [hw6]
    exact h.alloc _
  clear hw6
  have hb56 := hb5.trans (hb6.mono hb5.size)
  have HX6 := Lib.hid (HX4.out.below hb56 HX4.out.lt)
  have HO6 := Lib.hid (HO4.out.below hb56)
  have HP6 := Lib.hid (HP4.out.below hb56 HP4.out.lt)
  have HQ6 := Lib.hid (HQ4.out.below hb56 HQ4.out.lt)
  have HR6 := Lib.hid (HR4.out.below hb56)
  have HB6 := Lib.hid (HB4.out.trans (hb56.mono HB4.out.size))
  clear HX4 HO4 HP4 HQ4 HR4 HB4 hb5 hb6
  gi_wp2
  refine wp_tells (xs := ([] : List Empty)) rfl rfl (gf := 127) (by rfl) trivial (enters_of Tryz.func127 (by kernel_rfl) rfl)
    (it0_tells w6 w5.heap.size (w5.heap.size + 1) (w5.heap.size + 2) Al nl cl ha6 hc6) (Nat.le_refl _) (fun _ _ => rfl) (by rintro c (rfl | rfl); exact ha6.lt; exact hc6.lt) (fun x => x.elim)
    (fun p Y U => Y = [] ∧ Below w6.heap.size w6 U)
    (fun c p Y U => False)
    (fun p Y U U' Z h ht hz => ⟨h.1, h.2.trans (ht.below (fun b hb => (hz b hb).1) h.2.size)⟩)
    (fun c p Y U U' Z h ht hz => h)
    (fun p Y U h b hb => by rw [h.1] at hb; cases hb)
    [] (by simp) ⟨rfl, Below.refl _ _⟩ ?loop ?done ?stop
  case loop => exact ⟨fun x => x.elim, fun _ _ x => x.elim, fun _ _ _ x => x.elim⟩
  case stop => rintro D c p Y U hD ⟨⟩
  case done =>
    rintro D Y U hD ⟨_, hbu⟩ _ hDd
    have HX7 := Lib.hid (HX6.out.below hbu HX6.out.lt)
    have HP7 := Lib.hid (HP6.out.below hbu HP6.out.lt)
    have HQ7 := Lib.hid (HQ6.out.below hbu HQ6.out.lt)
    have HO7 := Lib.hid (HO6.out.below hbu)
    have HR7 := Lib.hid (HR6.out.below hbu)
    have HB7 := Lib.hid (HB6.out.trans (hbu.mono HB6.out.size))
    have hs7 : w2.heap.size ≤ U.heap.size := Nat.le_trans hl4 (Nat.le_trans hb56.size hbu.size)
    clear HX6 HP6 HQ6 HO6 HR6 HB6
    have c0 := HX7.out.cell 0
    obtain ⟨R8, W8, hrun8, ho8, hb8, hk8, hr8, ht8, hx8⟩ := own_appD U w2.heap.size (.slice A3 n3 c3) [0] HO7.out hs7 A2 (ptB x y z T) n2 c2 hn2.out HR7.out (by have := hn2.out; simp; omega) hz2.out
    obtain ⟨A8, n8, c8, rfl, _, _, _⟩ := own_open ho8 (by simp)
    have HP8 := Lib.hid (hk8 _ _ _ (by decide) HP7.out)
    have HQ8 := Lib.hid (hk8 _ _ _ (by decide) HQ7.out)
    have HB8 := Lib.hid (HB7.out.trans (hb8.mono hs2))
    have HO8 := Lib.hid ho8
    have p8 := HP8.out.free 0
    have p9 := HP8.out.cell 0
    have HQ9 := Lib.hid (HQ8.out.far (p := ⟨w.heap.size + 1, 0, none⟩) (by show w.heap.size + 1 + 1 ≠ w.heap.size + 1; omega) (.slice A8 n8 c8))
    have q8 := HQ9.out.free 0
    have q9 := HQ9.out.cell 0
    have HP9 := Lib.hid (HP8.out.put 0 (.slice A8 n8 c8))
    have HPA := Lib.hid (HP9.out.far (p := ⟨w.heap.size + 1 + 1, 0, none⟩) (by show w.heap.size + 1 ≠ w.heap.size + 1 + 1; omega) (.int .i64 0))
    have HQA := Lib.hid (HQ9.out.put 0 (.int .i64 0))
    clear ho8 hb8 hk8 HX7 HP7 HQ7 HO7 HR7 HB7
    gi_wp2_with (gi_at_builtin; refine wpListIn_app rfl _ _ 37 37 rfl (.slice A3 n3 c3) (.slice A2 n2 c2) rfl rfl ⟨.slice A8 n8 c8, W8, hrun8, ?_⟩)
    have hd9 : ((W8.setCell ⟨w.heap.size + 1, 0, none⟩ (.slice A8 n8 c8)).setCell ⟨w.heap.size + 1 + 1, 0, none⟩ (.int .i64 0)).heap[D]? = some (.deferred (some [])) := by
      have hDl : D < U.heap.size := (Array.getElem?_eq_some_iff.1 hDd).1
      have h8 := (hr8 D hDl (rec_of hDd (fun _ _ => by simp))).trans hDd
      have n1 : D ≠ w.heap.size + 1 := fun e => by have := HP8.out; rw [← e] at this; rw [this] at h8; cases h8
      have n2 : D ≠ w.heap.size + 1 + 1 := fun e => by have := HQ8.out; rw [← e] at this; rw [this] at h8; cases h8
      rw [Below.heap_setCell _ _ _ _ (by exact fun e => n2 e), Below.heap_setCell _ _ _ _ (by exact fun e => n1 e)]
      exact h8
    have HBA := Lib.hid ((HB8.out.setCell (p := ⟨w.heap.size + 1, 0, none⟩) (by show w.heap.size ≤ w.heap.size + 1; omega) (.slice A8 n8 c8)).setCell (p := ⟨w.heap.size + 1 + 1, 0, none⟩) (by show w.heap.size ≤ w.heap.size + 1 + 1; omega) (.int .i64 0))
    have ht9 : Tur [w.heap.size + 1, w.heap.size + 1 + 1] W8 ((W8.setCell ⟨w.heap.size + 1, 0, none⟩ (.slice A8 n8 c8)).setCell ⟨w.heap.size + 1 + 1, 0, none⟩ (.int .i64 0)) := (Tur.setCell W8 (p := ⟨w.heap.size + 1, 0, none⟩) (by simp) _).trans (Tur.setCell _ (p := ⟨w.heap.size + 1 + 1, 0, none⟩) (by simp) _) (Fre.refl _ _)
    have HOA := Lib.hid (own_tur HO8.out ht9 (fun g hg => by have := (World.ownsRow.lt HO8.out g hg).1; simp; omega))
    have hnD : ∀ g, (Value.slice A8 n8 c8).ownBlock = some g → g ∉ [D] := fun g hg hh => by
      rw [List.mem_singleton.1 hh] at hg
      have hDl : D < U.heap.size := (Array.getElem?_eq_some_iff.1 hDd).1
      rcases HO8.out.2 with ⟨hv, _⟩ | ⟨g', cap, cur, hv, _, hc2, _⟩
      · rw [hv] at hg; cases hg
      · rw [hv] at hg
        have e2 : D = g' := by have := hg; simp [Value.ownBlock] at this; exact this.symm
        subst e2
        have h8 := (hr8 D hDl (rec_of hDd (fun _ _ => by simp))).trans hDd
        rw [hc2] at h8
        cases h8
    obtain ⟨W9, hW9⟩ : ∃ W, W = ((W8.setCell ⟨w.heap.size + 1, 0, none⟩ (.slice A8 n8 c8)).setCell ⟨w.heap.size + 1 + 1, 0, none⟩ (.int .i64 0)) := ⟨_, rfl⟩
    rw [← hW9] at hd9 HBA HOA HPA HQA ⊢
    have htD : Tur [D] W9 (W9.putObj D (.deferred none)) := Tur.putObj W9 (by simp) _
    refine ⟨by simp, .inl ⟨_, _, rfl, run_takeDeferred hd9, ?_⟩⟩
    have hwD : w.heap.size + 1 + 1 < D := by have := hb56.size; omega
    have hHP := HPA.out.tur htD (by simp; omega)
    have hHQ := HQA.out.tur htD (by simp; omega)
    refine ⟨.tuple #[.slice A8 n8 c8, .int .i64 0], ?_, .slice A8 n8 c8, rfl, ?_, ?_⟩
    · rw [results_cc (fn := Tryz.f35) rfl]
      simp only [Array.getD_eq_getD_getElem?, List.getElem?_toArray, List.getElem?_cons_succ, List.getElem?_cons_zero, Option.getD_some, asAddr, Sem.run_pure, Result.andThen_ok]
      rw [run_loadVar_one _ _ _ _ _ _ hHP Tryz.underlying37 rfl]
      simp only [Result.andThen_ok]
      rw [run_loadVar_one _ _ _ _ _ _ hHQ Tryz.underlying38 rfl]
      rfl
    · exact own_down (own_tur HOA.out htD hnD) hs2
    · exact HBA.out.trans (htD.below (B := w.heap.size) (by simp; omega) HBA.out.size)
end Go.Proofs.YtlhfdhmmdnkojaaGreatDoor
