/-
  Put together, as far as it is used: Qd.
-/
import Derived.Test.YtnpmgempkoeapaaGreatDoorPeab
import Derived.Test.YtnpmgempkoeapaaGreatDoorShelf
import Derived.Test.YtnpmgempkoeapaaGreatDoorPeah
import Derived.Test.YtnpmgempkoeapaaGreatDoorPeai
import Derived.Test.YtnpmgempkoeapaaGreatDoorPeag
import Derived.RegionTactic
import Derived.Deep.QuietTactic
import Derived.BigQuiet
import Derived.Test.YtnpmgempkoeapaaGreatDoorPeaf
set_option linter.unusedVariables false
set_option linter.unusedSimpArgs false
set_option linter.defProp false
namespace Go.Proofs.YtnpmgempkoeapaaGreatDoor
open Go.RowKit Dg
set_option maxRecDepth 100000
def big : Nat := 18446744073709551616
theorem len64_any (x : Nat) (w : World) (h : x < big) :
 Calls Tryz.prog 93 #[.int .u64 x] w fun e w' => e = .returned (.int .i64 (Lib.bitLen x)) ∧ w = w' :=
 (Tryz.bits_Len64 x w (by omega) (by unfold big at h; omega)).mono fun e w' ⟨he, hw⟩ => ⟨by rw [he, Int.toNat_natCast], hw.symm⟩

def Digs (n : Nat) (w : World) (e : Ending) (w' : World) : Prop :=
 e = .returned (.slice (some ⟨w.heap.size, 0, none⟩) (digs n).length (digs n).length) ∧ Has w' w.heap.size 5 ((digs n).map bv).toArray ∧ w'.heap.size = w.heap.size + 1 ∧ Below w.heap.size w w'

set_option maxHeartbeats 400000 in
theorem digits_any (n : Nat) (w : World) (h1 : n < big) : Calls Tryz.prog 60 #[.int .u64 n] w (Digs n w) := by
 have hor : bits .or .u64 (n : Int) 1 = ((n ||| 1 : Nat) : Int) := u64_or_nat n 1 (by unfold big at h1; exact h1) (by omega)
 have hsz : size n = (digs n).length := size_eq n h1
 have hp := digs_pos n
 have ht := digs_le_ten n h1
 obtain ⟨i0, hi, hz0, hz1, hz2⟩ := info_parts info5
 have hor2 : (n ||| 1) < big := by rw [or_one]; unfold big at h1 ⊢; split <;> omega
 have hb : ((Lib.bitLen (n ||| 1) : Nat) : Int) ≤ 70 := by unfold size at hsz; omega
 have HQ : Hid ((((Lib.bitLen (n ||| 1) : Nat) : Int) + 6) / 7 = ((digs n).length : Int)) := by show _ = _; unfold size at hsz; omega
 have HO := Lib.hid hor
 have hmk := fun (k : Nat) (hk : k ≤ 10) (W : World) => run_make (P := Tryz.prog) W 37 5 i0 (.int .u8 0) Tryz.underlying37 hi hz0 .i64 .i64 k k (by omega) (by omega) (by rw [hz2]; omega) (by omega)
 have HM := Lib.hid hmk
 have Hz1 := Lib.hid hz1
 clear hsz hor hmk hz1
 go_enter Tryz.func60, Tryz.ntmps60
 go_wp2_with fail
 rw [HO.out]
 refine (len64_any _ _ hor2).mono ?_
 rintro e w' ⟨rfl, rfl⟩
 go_wp2_with fail
 rw [HQ.out, HM.out _ ht]
 simp only [Int.toNat_natCast, Hz1.out]
 rw [arr_zero n]
 clear HM HQ HO Hz1
 generalize hL : (digs n).length = L at *
 have HL := Lib.hid hL
 clear hL
 go_wp2_with fail
 go_loopw [14] (fun i wr => ∃ k : Nat, k ≤ L ∧ i = .int .i64 k ∧ Has wr w.heap.size 5 (arr n L k) ∧ wr.heap.size = w.heap.size + 1 ∧ Below w.heap.size w wr) (fun i _ => L - (intOf i).toNat)
 case atStart => exact ⟨0, by omega, rfl, Has.new _ _ _, by simp, (Below.refl _ _).alloc (Nat.le_refl _) _⟩
 case round =>
  obtain ⟨k, hk, rfl, hblk, hsz, hbel⟩ := hrel
  have HB := Lib.hid hblk
  have HS := Lib.hid hsz
  clear hblk hsz
  by_cases hlt : k < L
  ·have hc : wr.cell? ⟨w.heap.size, k, none⟩ = some (if k < k then Value.int .u8 ((n / 128 ^ k % 128 + 128 : Nat) : Int) else .int .u8 0) := by
    rw [HB.out.cell, arr_get n L k k hlt]
   have hf := HB.out.free k
   go_wp2_with fail
   go_roundw
   case rel =>
    refine ⟨k + 1, by omega, by go_num, ?_, ?_, ?_⟩
    ·rw [bits_or128, ← arr_put]; exact HB.out.put k _
    ·rw [size_set]; exact HS.out
    ·exact hbel.setCell (Nat.le_refl _) _
   case measure => simp [intOf]; omega
  ·obtain rfl : k = L := by omega
   have hc : wr.cell? ⟨w.heap.size, k - 1, none⟩ = some (Value.int .u8 ((n / 128 ^ (k - 1) % 128 + 128 : Nat) : Int)) := by
    rw [HB.out.cell, arr_get n k k (k - 1) (by omega), if_pos (by omega)]
   have hf := HB.out.free (k - 1)
   go_wp2_with fail
   have e : bits .and .u8 ((n : Int) / 128 ^ (k - 1) % 128 + 128) 127 = ((n / 128 ^ (k - 1) % 128 : Nat) : Int) := by
    rw [← bits_and127]; simp
   rw [e]
   go_ret
   refine ⟨by rw [HL.out]; rfl, ?_, ?_, ?_⟩
   ·rw [← arr_end n k HL.out hp]; exact HB.out.put (k - 1) _
   ·rw [size_set]; exact HS.out
   ·exact hbel.setCell (Nat.le_refl _) _

theorem Digs.made {n : Nat} {w : World} {e : Ending} {w' : World} (h : Digs n w e w') : ∃ v, e = .returned v ∧ Made w (digs n) v w' := by
 obtain ⟨he, hh, _, hb⟩ := h
 refine ⟨_, he, _, _, rfl, Nat.le_refl _, Rd.of_has hh fun i hi => ?_, hb⟩
 simp [hi]

def Out (w : World) (l : List Nat) (e : Ending) (w' : World) : Prop := ∃ v, e = .returned v ∧ Made w l v w'

set_option maxHeartbeats 400000 in
theorem behind_any (A : Option Addr) (l : List Nat) (c : Nat) (A' : Option Addr) (m : List Nat) (d : Nat) (w : World) (hn : l.length ≤ c) (hA : Rd w A l) (hA' : Rd w A' m) (hm : 0 < m.length) (hb : l.length + m.length ≤ 1000000) :
 Calls Tryz.prog 59 #[.slice A l.length c, .slice A' m.length d] w (Out w (l ++ m)) := by
 obtain ⟨i0, hi, hz0, hz1, hz2⟩ := info_parts info5
 have hr := run_app_grow (P := Tryz.prog) w (t := 37) (tx := 37) 37 Tryz.underlying37 hi hz0 hz1 hz2 A l l.length hA _ m (src_rd w Tryz.underlying37 A' m d hA') (by omega) hb
 have HR := Lib.hid hr
 clear hr
 go_enter Tryz.func59, Tryz.ntmps59
 go_wp2_with (at_builtin; refine wpList_app rfl _ _ 37 37 rfl (.slice A l.length l.length) (.slice A' m.length d) rfl rfl ?_; obtain ⟨R, W', hrun, hmade⟩ := HR.out; refine ⟨R, W', hrun, ?_⟩; have HM := Lib.hid hmade; clear hrun hmade)
 go_ret
 exact ⟨R, rfl, HM.out⟩

theorem Made.after {w w1 w2 : World} {l : List Nat} {v : Value} (hb : Below w.heap.size w w1) (h : Made w1 l v w2) : Made w l v w2 := by
 obtain ⟨A, c, e, hc, hr, hb2⟩ := h
 exact ⟨A, c, e, hc, hr, hb.trans (hb2.mono hb.size)⟩
theorem Digs.out {n : Nat} {w : World} {e : Ending} {w' : World} (h : Digs n w e w') : ∃ A c, e = .returned (.slice A (digs n).length c) ∧ Rd w' A (digs n) ∧ Below w.heap.size w w' := by
 obtain ⟨v, he, A, c, rfl, _, hr, hb⟩ := h.made
 exact ⟨A, c, he, hr, hb⟩
set_option maxHeartbeats 400000 in
theorem Signed_any (A : Option Addr) (l : List Nat) (c : Nat) (n : Int) (w : World) (hn : l.length ≤ c) (hA : Rd w A l) (hb : l.length ≤ 900000) (h0 : -9223372036854775808 ≤ n) (h1 : n ≤ 9223372036854775807) :
 Calls Tryz.prog 91 #[.slice A l.length c, .int .i64 n] w (Out w (l ++ digs (zig n))) := by
 have hbig : zig n < big := zig_lt n h0 h1
 have ht := digs_le_ten _ hbig
 have hp := digs_pos (zig n)
 have HZ := Lib.hid (zig_bits n h0 h1)
 go_enter Tryz.func91, Tryz.ntmps91
 go_wp2_with fail
 rw [HZ.out]
 refine (digits_any (zig n) _ hbig).mono ?_
 intro e w1 hd
 obtain ⟨A', d, rfl, hr, hb1⟩ := hd.out
 have HR := Lib.hid hr
 clear hr hd
 go_wp2_with fail
 refine (behind_any A l c A' (digs (zig n)) d _ hn (hA.below hb1) HR.out hp (by omega)).mono ?_
 intro e w2 ho
 have HO := Lib.hid ho
 clear ho
 obtain ⟨v, rfl, hv⟩ := HO.out
 have HV := Lib.hid hv
 clear hv
 go_wp2_with fail
 go_ret
 exact ⟨v, rfl, HV.out.after hb1⟩
theorem byteCells_sb (s : ByteArray) : byteCells s = (sb s).map bv := by
 simp [byteCells, sb, bv, List.map_map, Function.comp]
theorem src_string (w : World) (s : ByteArray) : Src Tryz.prog 1 9 (.string s) (sb s).length ((sb s).map bv) w := by
 rw [← byteCells_sb, sb_length]
 exact Src.ofString w Tryz.underlying9 s
theorem text_run (w : World) (b off : Nat) (l : List Nat) (s : ByteArray) (hl : Rd w (some ⟨b, off, none⟩) l) (hb : l.length + s.size ≤ 1000000) :
 ∃ R W', (Builtin.append_ #[37, 9] 37 #[.slice (some ⟨b, off, none⟩) l.length l.length, .string s]).run Tryz.prog w = .ok R W' ∧ Made w (l ++ sb s) R W' := by
 obtain ⟨i0, hi, hz0, hz1, hz2⟩ := info_parts info5
 have hs := src_string w s
 rcases Nat.eq_zero_or_pos s.size with h0 | h0
 ·have e : sb s = [] := List.eq_nil_of_length_eq_zero (by rw [sb_length, h0])
  rw [e] at hs ⊢
  refine ⟨_, _, run_app_none w 37 Tryz.underlying37 hi hz1 b off l.length l.length (.string s) hs (Nat.le_refl _), ?_⟩
  rw [List.append_nil]
  exact ⟨_, _, rfl, Nat.le_refl _, hl, Below.refl _ _⟩
 ·exact run_app_grow w 37 Tryz.underlying37 hi hz0 hz1 hz2 _ l l.length hl (.string s) (sb s) hs (by rw [sb_length]; omega) (by rw [sb_length]; omega)
set_option maxHeartbeats 400000 in
theorem Text_any (A : Option Addr) (l : List Nat) (c : Nat) (s : ByteArray) (w : World) (hn : l.length ≤ c) (hA : Rd w A l) (hb : l.length ≤ 900000) (h0 : s.size ≤ 1000) :
 Calls Tryz.prog 26 #[.slice A l.length c, .string s] w (Out w (l ++ (digs s.size ++ sb s))) := by
 have hbig : s.size < big := by unfold big; omega
 have ht := digs_le_ten s.size hbig
 have hp := digs_pos s.size
 go_enter Tryz.func26, Tryz.ntmps26
 go_wp2_with fail
 refine (digits_any s.size _ hbig).mono ?_
 intro e w1 hd
 obtain ⟨rfl, hh, _, hb1⟩ := hd
 have hr : Rd w1 (some ⟨w.heap.size, 0, none⟩) (digs s.size) := Rd.of_has hh fun i hi => by simp [hi]
 have HR := Lib.hid (text_run w1 w.heap.size 0 (digs s.size) s hr (by omega))
 clear hh hr
 go_wp2_with (at_builtin; refine wpList_app rfl _ _ 37 9 rfl (.slice (some ⟨w.heap.size, 0, none⟩) (digs s.size).length (digs s.size).length) (.string s) rfl rfl ?_; obtain ⟨R, W', hrun, hmade⟩ := HR.out; refine ⟨R, W', hrun, ?_⟩; have HM := Lib.hid hmade; clear hrun hmade)
 obtain ⟨A', d, rfl, hd, hr2, hb2⟩ := HM.out
 have HR2 := Lib.hid hr2
 clear hr2
 go_wp2_with fail
 refine (behind_any A l c A' (digs s.size ++ sb s) d _ hn ((hA.below hb1).below (hb2.mono (Nat.le_refl _))) HR2.out (by rw [List.length_append]; omega) (by rw [List.length_append, sb_length]; omega)).mono ?_
 intro e w2 ho
 have HO := Lib.hid ho
 clear ho
 obtain ⟨v, rfl, hv⟩ := HO.out
 have HV := Lib.hid hv
 clear hv
 go_wp2_with fail
 go_ret
 exact ⟨v, rfl, HV.out.after (hb1.trans (hb2.mono hb1.size))⟩

theorem rd_none {w : World} {l : List Nat} (h : Rd w none l) : l = [] := by
 rcases l with _ | ⟨x, l⟩
 ·rfl
 ·obtain ⟨b, off, e, _⟩ := h (by simp)
  cases e
def txt (s : ByteArray) : List Nat := digs s.size ++ sb s
theorem txt_byte (s : ByteArray) : ∀ x ∈ txt s, x < 256 := by
 intro x hx
 rcases List.mem_append.1 hx with h | h
 ·exact digs_byte _ x h
 ·exact sb_byte s x h

def plB (v : Vl) : List Nat := if v.k = 1 then [(v.n % 256).toNat] else if v.k = 2 then digs (zig v.n) else if v.k = 3 ∨ v.k = 4 then txt v.s else []
theorem toList_nil {s : ByteArray} (h : s.toList.isEmpty = true) : s = ⟨#[]⟩ := by
 have h2 : s.size = 0 := empty_size h
 cases s with | _ d => cases d with | _ l => simp [ByteArray.size] at h2; subst h2; rfl
theorem may_zero {v : Vl} (h : v.may = true) (hk : v.k = 0) : v = vlNil := by
 obtain ⟨k, n, s⟩ := v
 simp only at hk; subst hk
 simp only [Vl.may, mayF] at h
 simp at h
 obtain ⟨h1, h2⟩ := h
 subst h1
 have := toList_nil (s := s) (by simpa using h2)
 subst this; rfl
def nbits : List Vl → Nat
 | [] => 0
 | v :: R => (if v.k = 0 then 1 else 0) + 2 * nbits R
def imgF (R : List Vl) : List Nat := nbits R :: R.flatMap plB
theorem fits_at {M : List Cl} {R : List Vl} (h : fitsF M R = true) : R.length = M.length ∧ ∀ i (h1 : i < M.length) (h2 : i < R.length), R[i].may = true ∧ (R[i].k = M[i].k ∨ R[i].k = 0) := by
 unfold fitsF at h
 simp only [Bool.and_eq_true, decide_eq_true_eq] at h
 refine ⟨h.1, fun i h1 h2 => ?_⟩
 have h3 := h.2
 unfold fitsTo at h3
 rw [List.all_eq_true] at h3
 have := h3 i (List.mem_range.2 h1)
 rw [List.getElem?_eq_getElem h1, List.getElem?_eq_getElem h2] at this
 simp only [standsF, Bool.and_eq_true, Bool.or_eq_true, beq_iff_eq] at this
 exact ⟨this.1, this.2.imp id (fun h => h.1)⟩
def Vl.eqb (x y : Vl) : Bool := x.k == y.k && x.n == y.n && x.s.toList == y.s.toList
theorem toList_inj {s t : ByteArray} (h : s.toList = t.toList) : s = t := by
 rw [← bs_sb s, ← bs_sb t] at h ⊢
 rw [bs_toList, bs_toList] at h
 unfold bs
 rw [h]
theorem Vl.eqb_iff (x y : Vl) : x.eqb y = true ↔ x = y := by
 obtain ⟨a, b, c⟩ := x
 obtain ⟨a', b', c'⟩ := y
 simp only [Vl.eqb, Bool.and_eq_true, beq_iff_eq, Vl.mk.injEq]
 constructor
 ·rintro ⟨⟨rfl, rfl⟩, h⟩; exact ⟨rfl, rfl, toList_inj h⟩
 ·rintro ⟨rfl, rfl, rfl⟩; exact ⟨⟨rfl, rfl⟩, rfl⟩
def vsTo (L M : List Vl) (k : Nat) : Bool := (List.range k).all fun i => match L[i]?, M[i]? with | some x, some y => x.eqb y | _, _ => true
theorem vsTo_succ (L M : List Vl) (k : Nat) (hL : k < L.length) (hM : k < M.length) : vsTo L M (k + 1) = (vsTo L M k && L[k].eqb M[k]) := by
 unfold vsTo; rw [List.range_succ, List.all_append]; simp [hL, hM]
theorem vsTo_false (L M : List Vl) (k n : Nat) (hk : k < n) (hL : k < L.length) (hM : k < M.length) (h : L[k].eqb M[k] = false) : vsTo L M n = false := by
 unfold vsTo; rw [List.all_eq_false]
 exact ⟨k, List.mem_range.2 hk, by simp [hL, hM, h]⟩
def vsF (L M : List Vl) : Bool := decide (L.length = M.length) && vsTo L M L.length
theorem vsF_iff (L M : List Vl) : vsF L M = true ↔ L = M := by
 unfold vsF vsTo
 simp only [Bool.and_eq_true, decide_eq_true_eq, List.all_eq_true]
 constructor
 ·intro ⟨h1, h2⟩
  refine List.ext_getElem h1 fun i hi hj => ?_
  have := h2 i (List.mem_range.2 hi)
  rw [List.getElem?_eq_getElem hi, List.getElem?_eq_getElem hj] at this
  exact (Vl.eqb_iff _ _).1 this
 ·rintro rfl
  refine ⟨rfl, fun i hi => ?_⟩
  have hi := List.mem_range.1 hi
  rw [List.getElem?_eq_getElem hi]
  exact (Vl.eqb_iff _ _).2 rfl
def Cl.eqb (x y : Cl) : Bool := x.nm.toList == y.nm.toList && x.k == y.k && x.no == y.no
theorem Cl.eqb_refl (x : Cl) : x.eqb x = true := by simp [Cl.eqb]
def csTo (L M : List Cl) (k : Nat) : Bool := (List.range k).all fun i => match L[i]?, M[i]? with | some x, some y => x.eqb y | _, _ => true
theorem csTo_succ (L M : List Cl) (k : Nat) (hL : k < L.length) (hM : k < M.length) : csTo L M (k + 1) = (csTo L M k && L[k].eqb M[k]) := by
 unfold csTo; rw [List.range_succ, List.all_append]; simp [hL, hM]
theorem csTo_false (L M : List Cl) (k n : Nat) (hk : k < n) (hL : k < L.length) (hM : k < M.length) (h : L[k].eqb M[k] = false) : csTo L M n = false := by
 unfold csTo; rw [List.all_eq_false]
 exact ⟨k, List.mem_range.2 hk, by simp [hL, hM, h]⟩
def csF (L M : List Cl) : Bool := decide (L.length = M.length) && csTo L M L.length
def ssF (L : List Cl) (K : Int) (M : List Cl) (K' : Int) : Bool := K == K' && csF L M
theorem csF_refl (L : List Cl) : csF L L = true := by
 unfold csF csTo; simp
 intro i hi
 cases h : L[i]? with
 | none => rfl
 | some x => simp [Cl.eqb_refl]
theorem ssF_refl (L : List Cl) (K : Int) : ssF L K L K = true := by simp [ssF, csF_refl]
theorem partK (xs : Array Value) (i : Nat) (v : Value) (h : xs[i]? = some v) (w : World) : (part 4 xs i).run Tryz.prog w = .ok v w := by
 unfold part
 simp [Sem.run_bind, Tryz.isAgg4, h]
theorem partN (xs : Array Value) (i : Nat) (v : Value) (h : xs[i]? = some v) (w : World) : (part 3 xs i).run Tryz.prog w = .ok v w := by
 unfold part
 simp [Sem.run_bind, Tryz.isAgg3, h]
theorem partT (xs : Array Value) (i : Nat) (v : Value) (h : xs[i]? = some v) (w : World) : (part 9 xs i).run Tryz.prog w = .ok v w := by
 unfold part
 simp [Sem.run_bind, Tryz.isAgg9, h]
theorem eqC (s s' : ByteArray) (k k' : Int) (b b' : Bool) (w : World) : (Op.equalIn 10000 29 (.agg #[.string s, .int .i64 k, .bool b]) (.agg #[.string s', .int .i64 k', .bool b'])).run Tryz.prog w = .ok (Cl.eqb ⟨s, k, b⟩ ⟨s', k', b'⟩) w := by
 have e := fun (a b : Int) (w : World) => run_equalIn_int (P := Tryz.prog) w 9998 3 .i64 .i64 a b Tryz.underlying3
 have es := fun (a b : ByteArray) (w : World) => run_equalIn_string (P := Tryz.prog) w 9998 9 a b Tryz.underlying9
 have eb := fun (a b : Bool) (w : World) => run_equalIn_bool (P := Tryz.prog) w 9998 4 a b Tryz.underlying4
 have p0 := fun (x0 x1 x2 : Value) => partT #[x0, x1, x2] 0 x0 rfl
 have p1 := fun (x0 x1 x2 : Value) => partN #[x0, x1, x2] 1 x1 rfl
 have p2 := fun (x0 x1 x2 : Value) => partK #[x0, x1, x2] 2 x2 rfl
 rw [show (10000 : Nat) = 9999 + 1 by rfl, run_equalIn_agg w 9999 29 _ _ (by kernel_rfl) (by kernel_rfl)]
 unfold Program.fieldsOf
 rw [Tryz.underlying29]
 by_cases h0 : s.toList = s'.toList <;> by_cases h1 : k = k' <;> by_cases h2 : b = b' <;>
 simp [Op.eqFields, Sem.run_bind, Result.andThen, p0, p1, p2, e, es, eb, h0, h1, h2, Cl.eqb]
set_option maxHeartbeats 2000000 in
set_option maxRecDepth 100000 in
theorem equal_any (A : Option Addr) (L : List Cl) (n c : Nat) (A' : Option Addr) (M : List Cl) (n' c' : Nat) (w : World) (hn : L.length = n) (hn' : M.length = n') (hl : n ≤ 4398046511104) (hl' : n' ≤ 4398046511104) (hA : CRow w A L) (hA' : CRow w A' M) :
 Calls Tryz.prog 105 #[.slice A n c, .slice A' n' c'] w fun e w' => e = .returned (.bool (csF L M)) ∧ Hid (Below w.heap.size w w') := by
 have HN := Lib.hid hn
 have HN' := Lib.hid hn'
 have HA := Lib.hid hA
 have HA' := Lib.hid hA'
 have HB0 := Lib.hid (Below.refl w.heap.size w)
 have eq := eqC
 clear hn hA hA' hn'
 by_cases hnn : n = n'
 ·subst hnn
  have HC : Hid (csF L M = csTo L M n) := by show _ = _; unfold csF; rw [HN.out, HN'.out]; simp
  go_enter Tryz.func105, Tryz.ntmps105
  go_wp2_with fail
  go_loopw [13] (fun i wr => ∃ k : Nat, k ≤ n ∧ i = .int .i64 k ∧ Hid (csTo L M k = true) ∧ Hid (Below w.heap.size w wr)) (fun i _ => n - (intOf i).toNat)
  case atStart => exact ⟨0, by omega, rfl, rfl, Below.refl _ _⟩
  case round =>
   obtain ⟨k, hk, rfl, HT, HB⟩ := hrel
   by_cases hlt : k < n
   ·have hkl : k < L.length := by rw [HN.out]; exact hlt
    have hkm : k < M.length := by rw [HN'.out]; exact hlt
    obtain ⟨b, off, rfl, hc⟩ := (HA.out.below HB.out) (by intro e; rw [e] at hkl; simp at hkl)
    obtain ⟨b', off', rfl, hc'⟩ := (HA'.out.below HB.out) (by intro e; rw [e] at hkm; simp at hkm)
    obtain ⟨c0, c1, c2⟩ := hc k hkl
    obtain ⟨d0, d1, d2⟩ := hc' k hkm
    have HS := Lib.hid (csTo_succ L M k hkl hkm)
    have HF := Lib.hid (csTo_false L M k n hlt hkl hkm)
    clear hc hc'
    generalize L[k] = x at *
    generalize M[k] = y at *
    obtain ⟨xa, xb, xc⟩ := x
    obtain ⟨ya, yb, yc⟩ := y
    simp only at c0 c1 c2 d0 d1 d2
    have hkz : (k : Int) < (n : Int) := by omega
    have hk0 : (0 : Int) ≤ (k : Int) := by omega
    cases hq : Cl.eqb ⟨xa, xb, xc⟩ ⟨ya, yb, yc⟩
    ·go_wp2_with fail
     go_region
     all_goals
      go_wp2_with fail
      go_ret
      exact ⟨by rw [HC.out, HF.out hq]; rfl, HB.out.drew⟩
    ·go_wp2_with fail
     go_region
     all_goals
      go_wp2_with fail
      go_roundw
      case rel => exact ⟨k + 1, by omega, by go_num, by show _ = _; rw [HS.out, HT.out, hq]; rfl, HB.out.drew⟩
      case measure => simp [intOf]; omega
   ·obtain rfl : k = n := by omega
    go_wp2_with fail
    go_ret
    exact ⟨by rw [HC.out, HT.out]; rfl, HB⟩
 ·have HC : Hid (csF L M = false) := by show _ = _; unfold csF; rw [HN.out, HN'.out]; simp [hnn]
  have hq : ((n : Int) != (n' : Int)) = true := by simp; omega
  go_enter Tryz.func105, Tryz.ntmps105
  go_wp2_with fail
  go_ret
  exact ⟨by rw [HC.out]; rfl, HB0⟩
set_option maxHeartbeats 1000000 in
theorem same4_any (A : Option Addr) (L : List Cl) (n c : Nat) (K : Int) (A' : Option Addr) (M : List Cl) (n' c' : Nat) (K' : Int) (w : World) (hn : L.length = n) (hn' : M.length = n') (hl : n ≤ 4398046511104) (hl' : n' ≤ 4398046511104) (hA : CRow w A L) (hA' : CRow w A' M) :
 Calls Tryz.prog 77 #[.agg #[.slice A n c, .int .i64 K], .agg #[.slice A' n' c', .int .i64 K']] w fun e w' => e = .returned (.bool (ssF L K M K')) ∧ Hid (Below w.heap.size w w') := by
 have HB := Lib.hid (((Below.refl w.heap.size w).alloc (Nat.le_refl _) (.cells #[.slice A n c, .int .i64 K] 27)).alloc (by simp) (.cells #[.slice A' n' c', .int .i64 K'] 27))
 have HC := Lib.hid (equal_any A L n c A' M n' c' _ hn hn' hl hl' (hA.below HB.out) (hA'.below HB.out))
 clear hn hn' hA hA'
 by_cases hk : K = K'
 ·subst hk
  have HS : Hid (ssF L K M K = csF L M) := by show _ = _; simp [ssF]
  go_enter Tryz.func77, Tryz.ntmps77
  go_wp2_with fail
  refine HC.out.mono ?_
  rintro e w1 ⟨rfl, hb1⟩
  have HB1 := Lib.hid (HB.out.trans (hb1.out.mono HB.out.size))
  clear hb1
  go_wp2_with fail
  go_ret
  exact ⟨by rw [HS.out]; rfl, HB1⟩
 ·have HS : Hid (ssF L K M K' = false) := by show _ = _; simp [ssF, hk]
  have hq : (K == K') = false := by simp [hk]
  go_enter Tryz.func77, Tryz.ntmps77
  go_wp2_with fail
  go_ret
  exact ⟨by rw [HS.out]; rfl, HB⟩
set_option maxHeartbeats 2000000 in
set_option maxRecDepth 100000 in
theorem rsame_any (A : Option Addr) (L : List Cl) (n c : Nat) (K : Int) (A' : Option Addr) (M : List Cl) (n' c' : Nat) (K' : Int) (w : World) (hn : L.length = n) (hn' : M.length = n') (hl : n ≤ 4398046511104) (hl' : n' ≤ 4398046511104) (hA : CRow w A L) (hA' : CRow w A' M) :
 Calls Tryz.prog 63 #[.agg #[.slice A n c, .int .i64 K], .agg #[.slice A' n' c', .int .i64 K']] w fun e w' => e = .returned (.bool (ssF L K M K')) ∧ Hid (Below w.heap.size w w') := by
 have HB0 := Lib.hid (((Below.refl w.heap.size w).alloc (Nat.le_refl _) (.cells #[.slice A n c, .int .i64 K] 27)).alloc (by simp) (.cells #[.slice A' n' c', .int .i64 K'] 27))
 have HX0 := Lib.hid ((Has.new w 27 #[.slice A n c, .int .i64 K]).alloc (.cells #[.slice A' n' c', .int .i64 K'] 27))
 have hy := Has.new (w.alloc (.cells #[.slice A n c, .int .i64 K] 27)) 27 #[.slice A' n' c', .int .i64 K']
 rw [show (w.alloc (.cells #[.slice A n c, .int .i64 K] 27)).heap.size = w.heap.size + 1 by simp] at hy
 have HY0 := Lib.hid hy
 have HN := Lib.hid hn
 have HN' := Lib.hid hn'
 have HA := Lib.hid hA
 have HA' := Lib.hid hA'
 have eq := eqC
 clear hn hA hA' hn' hy
 by_cases hk : K = K'
 ·subst hk
  by_cases hnn : n = n'
  ·subst hnn
   have HC : Hid (ssF L K M K = csTo L M n) := by show _ = _; unfold ssF csF; rw [HN.out, HN'.out]; simp
   go_enter Tryz.func63, Tryz.ntmps63
   go_wp2_with fail
   go_loopw [5] (fun i wr => ∃ k : Nat, k ≤ n ∧ i = .int .i64 k ∧ Hid (csTo L M k = true) ∧ Hid (Below w.heap.size w wr) ∧ Hid (Has wr w.heap.size 27 #[.slice A n c, .int .i64 K]) ∧ Hid (Has wr (w.heap.size + 1) 27 #[.slice A' n c', .int .i64 K])) (fun i _ => n - (intOf i).toNat)
   case atStart => exact ⟨0, by omega, rfl, rfl, HB0.out, HX0.out, HY0.out⟩
   case round =>
    obtain ⟨k, hk, rfl, HT, HB, HX, HY⟩ := hrel
    have a0 := HX.out.cell 0
    have a1 := HY.out.cell 0
    simp at a0 a1
    by_cases hlt : k < n
    ·have hkl : k < L.length := by rw [HN.out]; exact hlt
     have hkm : k < M.length := by rw [HN'.out]; exact hlt
     obtain ⟨b, off, rfl, hc⟩ := (HA.out.below HB.out) (by intro e; rw [e] at hkl; simp at hkl)
     obtain ⟨b', off', rfl, hc'⟩ := (HA'.out.below HB.out) (by intro e; rw [e] at hkm; simp at hkm)
     obtain ⟨c0, c1, c2⟩ := hc k hkl
     obtain ⟨d0, d1, d2⟩ := hc' k hkm
     have HS := Lib.hid (csTo_succ L M k hkl hkm)
     have HF := Lib.hid (csTo_false L M k n hlt hkl hkm)
     clear hc hc'
     generalize L[k] = x at *
     generalize M[k] = y at *
     obtain ⟨xa, xb, xc⟩ := x
     obtain ⟨ya, yb, yc⟩ := y
     simp only at c0 c1 c2 d0 d1 d2
     have hkz : (k : Int) < (n : Int) := by omega
     have hk0 : (0 : Int) ≤ (k : Int) := by omega
     cases hq : Cl.eqb ⟨xa, xb, xc⟩ ⟨ya, yb, yc⟩
     ·go_wp2_with fail
      go_region
      all_goals
       go_wp2_with fail
       go_ret
       exact ⟨by rw [HC.out, HF.out hq]; rfl, HB.out.drew⟩
     ·go_wp2_with fail
      go_region
      all_goals
       go_wp2_with fail
       go_roundw
       case rel => exact ⟨k + 1, by omega, by go_num, by show _ = _; rw [HS.out, HT.out, hq]; rfl, HB.out.drew, HX.out.drew, HY.out.drew⟩
       case measure => simp [intOf]; omega
    ·obtain rfl : k = n := by omega
     go_wp2_with fail
     go_ret
     exact ⟨by rw [HC.out, HT.out]; rfl, HB⟩
  ·have HC : Hid (ssF L K M K = false) := by show _ = _; unfold ssF csF; rw [HN.out, HN'.out]; simp [hnn]
   have hq : ((n : Int) != (n' : Int)) = true := by simp; omega
   go_enter Tryz.func63, Tryz.ntmps63
   go_wp2_with fail
   go_ret
   exact ⟨by rw [HC.out]; rfl, HB0⟩
 ·have HS : Hid (ssF L K M K' = false) := by show _ = _; simp [ssF, hk]
  have hq : (K != K') = true := by simp [hk]
  go_enter Tryz.func63, Tryz.ntmps63
  go_wp2_with fail
  go_ret
  exact ⟨by rw [HS.out]; rfl, HB0⟩
end Go.Proofs.YtnpmgempkoeapaaGreatDoor
