/-
  Put together, as far as it is used: Kit, Str, Val, KeyB.
-/
import Derived.Test.YtnpmgempkoeapaaGreatDoorPeaa
import Derived.WalkKit
import Derived.WalkSpells
import Derived.WalkLawsBesides
import Derived.Lib.Hide
import Derived.Deep.AppendSrc
import Derived.Test.YtnpmgempkoeapaaGreatDoorProg
import Derived.Test.YtnpmgempkoeapaaGreatDoorShelf
import Derived.Laws.StructEq
import Derived.Lib.ValidLaws
set_option linter.unusedVariables false
set_option linter.unusedSimpArgs false
set_option linter.defProp false
namespace Go.Proofs.YtnpmgempkoeapaaGreatDoor
open Go.RowKit Dg
def zA := @List.getElem_toArray
def zB := @List.getElem_cons_succ
def zC := @List.getElem_cons_zero
def zD := @List.setIfInBounds_toArray
def zE := @List.set_cons_succ
def zF := @List.set_cons_zero
def zG := @List.getElem?_toArray
def zH := @List.getElem?_cons_zero
def zI := @List.getElem?_cons_succ

theorem or128 : ∀ x : Fin 256, x.val ||| 128 = x.val % 128 + 128 := by decide +kernel
theorem and127 : ∀ x : Fin 256, x.val &&& 127 = x.val % 128 := by decide +kernel
theorem pow7 (k : Nat) : 2 ^ (7 * k) = 128 ^ k := by rw [Nat.pow_mul]
theorem int_div_pow (n k : Nat) : (n : Int) / 2 ^ (7 * k) = ((n / 128 ^ k : Nat) : Int) := by
 rw [← pow7, Int.natCast_ediv, Int.natCast_pow]; rfl
theorem bits_or128 (n k : Nat) : bits .or .u8 ((n : Int) / 2 ^ (7 * k) % 256) 128 = ((n / 128 ^ k % 128 + 128 : Nat) : Int) := by
 rw [int_div_pow]
 have e : ((n / 128 ^ k : Nat) : Int) % 256 = ((n / 128 ^ k % 256 : Nat) : Int) := by omega
 rw [e]
 have h := u8_or_nat (n / 128 ^ k % 256) 128 (by omega) (by omega)
 have o := or128 ⟨n / 128 ^ k % 256, by omega⟩
 simp only at o
 rw [o] at h
 refine h.trans ?_
 omega
theorem bits_and127 (m : Nat) : bits .and .u8 ((m % 128 + 128 : Nat) : Int) 127 = ((m % 128 : Nat) : Int) := by
 have h := u8_and_nat (m % 128 + 128) 127 (by omega) (by omega)
 have o := and127 ⟨m % 128 + 128, by omega⟩
 simp only at o
 rw [o] at h
 refine h.trans ?_
 omega

def zig (n : Int) : Nat := if 0 ≤ n then (2 * n).toNat else (-2 * n - 1).toNat
theorem xor_ones (a : Nat) (ha : a < 18446744073709551616) : a ^^^ 18446744073709551615 = 18446744073709551615 - a := by
 have h : (BitVec.ofNat 64 a ^^^ BitVec.allOnes 64).toNat = (~~~ BitVec.ofNat 64 a).toNat := by rw [BitVec.xor_allOnes]
 rw [BitVec.toNat_xor, BitVec.toNat_not, BitVec.toNat_ofNat, BitVec.toNat_allOnes] at h
 rw [Nat.mod_eq_of_lt (by simpa using ha)] at h
 simpa using h
theorem wrap64_even (n : Int) : IntKind.u64.wrap (wrap64 (n * 2)) = (n * 2) % 18446744073709551616 := by
 rw [IntKind.wrap_u64]; unfold wrap64; omega
theorem zig_bits (n : Int) (h0 : -9223372036854775808 ≤ n) (h1 : n ≤ 9223372036854775807) :
 bits .xor .u64 (IntKind.u64.wrap (wrap64 (n * 2))) (IntKind.u64.wrap (n / 9223372036854775808)) = (zig n : Int) := by
 rw [wrap64_even, IntKind.wrap_u64]
 unfold zig
 by_cases h : 0 ≤ n
 ·have e1 : n / 9223372036854775808 % 18446744073709551616 = ((0 : Nat) : Int) := by omega
  have e2 : n * 2 % 18446744073709551616 = (((2 * n).toNat : Nat) : Int) := by omega
  rw [if_pos h, e1, e2, u64_xor_nat _ _ (by omega) (by omega), Nat.xor_zero]
 ·have e1 : n / 9223372036854775808 % 18446744073709551616 = ((18446744073709551615 : Nat) : Int) := by omega
  have e2 : n * 2 % 18446744073709551616 = (((n * 2 + 18446744073709551616).toNat : Nat) : Int) := by omega
  rw [if_neg h, e1, e2, u64_xor_nat _ _ (by omega) (by omega), xor_ones _ (by omega)]
  omega
theorem zig_lt (n : Int) (h0 : -9223372036854775808 ≤ n) (h1 : n ≤ 9223372036854775807) : zig n < 18446744073709551616 := by
 unfold zig; split <;> omega
def zag (n : Nat) : Int := if n % 2 = 0 then ((n / 2 : Nat) : Int) else -((n / 2 : Nat) : Int) - 1
theorem zag_zig (n : Int) : zag (zig n) = n := by
 unfold zag zig; split <;> split <;> omega

def Has (w : World) (g : Nat) (t : TypeId) (cs : Array Value) : Prop := w.heap[g]? = some (.cells cs t (0, 0))
section
variable {w w' : World} {g : Nat} {t : TypeId} {cs : Array Value}
theorem Has.lt (h : Has w g t cs) : g < w.heap.size := by
 unfold Has at h
 exact (Array.getElem?_eq_some_iff.1 h).1
theorem Has.cell (h : Has w g t cs) (i : Nat) : w.cell? ⟨g, i, none⟩ = cs[i]? := cell_of_row w g i cs t (0, 0) h
theorem Has.free (h : Has w g t cs) (i : Nat) : w.frozen? ⟨g, i, none⟩ = false := by
 unfold Has at h
 simp [World.frozen?, h]
theorem all12 {W : World} {g : Nat} {t : TypeId} {a0 a1 a2 a3 a4 a5 a6 a7 a8 a9 a10 a11 : Value} (h : Has W g t #[a0, a1, a2, a3, a4, a5, a6, a7, a8, a9, a10, a11]) : W.cell? ⟨g, 0, none⟩ = some a0 ∧ W.cell? ⟨g, 1, none⟩ = some a1 ∧ W.cell? ⟨g, 2, none⟩ = some a2 ∧ W.cell? ⟨g, 3, none⟩ = some a3 ∧ W.cell? ⟨g, 4, none⟩ = some a4 ∧ W.cell? ⟨g, 5, none⟩ = some a5 ∧ W.cell? ⟨g, 6, none⟩ = some a6 ∧ W.cell? ⟨g, 7, none⟩ = some a7 ∧ W.cell? ⟨g, 8, none⟩ = some a8 ∧ W.cell? ⟨g, 9, none⟩ = some a9 ∧ W.cell? ⟨g, 10, none⟩ = some a10 ∧ W.cell? ⟨g, 11, none⟩ = some a11 ∧ W.frozen? ⟨g, 0, none⟩ = false ∧ W.frozen? ⟨g, 1, none⟩ = false ∧ W.frozen? ⟨g, 2, none⟩ = false ∧ W.frozen? ⟨g, 3, none⟩ = false ∧ W.frozen? ⟨g, 4, none⟩ = false ∧ W.frozen? ⟨g, 5, none⟩ = false ∧ W.frozen? ⟨g, 6, none⟩ = false ∧ W.frozen? ⟨g, 7, none⟩ = false ∧ W.frozen? ⟨g, 8, none⟩ = false ∧ W.frozen? ⟨g, 9, none⟩ = false ∧ W.frozen? ⟨g, 10, none⟩ = false ∧ W.frozen? ⟨g, 11, none⟩ = false :=
 ⟨h.cell 0, h.cell 1, h.cell 2, h.cell 3, h.cell 4, h.cell 5, h.cell 6, h.cell 7, h.cell 8, h.cell 9, h.cell 10, h.cell 11, h.free 0, h.free 1, h.free 2, h.free 3, h.free 4, h.free 5, h.free 6, h.free 7, h.free 8, h.free 9, h.free 10, h.free 11⟩
theorem Has.new (w : World) (t : TypeId) (cs : Array Value) : Has (w.alloc (.cells cs t)) w.heap.size t cs := heap_alloc_new w _
theorem Has.drew (h : Has w g t cs) : Has w.drew g t cs := h
theorem Has.alloc (h : Has w g t cs) (o : Obj) : Has (w.alloc o) g t cs := (Below.heap_alloc w o g h.lt).trans h
theorem Has.put (h : Has w g t cs) (i : Nat) (u : Value) : Has (w.setCell ⟨g, i, none⟩ u) g t (cs.setIfInBounds i u) := by
 unfold Has at h ⊢
 simp [World.setCell, Array.getElem?_modify, h]
theorem Has.far (h : Has w g t cs) {p : Addr} (hp : g ≠ p.block) (u : Value) : Has (w.setCell p u) g t cs := (Below.heap_setCell w p u g hp).trans h
theorem Has.below {B : Nat} (h : Has w g t cs) (hb : Below B w w') (hg : g < B) : Has w' g t cs := (hb.block g hg).trans h
theorem size_set (w : World) (p : Addr) (u : Value) : (w.setCell p u).heap.size = w.heap.size := by simp [World.setCell]
end

def bv (x : Nat) : Value := .int .u8 (x : Int)

def arr (n L k : Nat) : Array Value := ((List.range L).map (fun j => if j < k then Value.int .u8 ((n / 128 ^ j % 128 + 128 : Nat) : Int) else .int .u8 0)).toArray
theorem arr_get (n L k j : Nat) (h : j < L) : (arr n L k)[j]? = some (if j < k then Value.int .u8 ((n / 128 ^ j % 128 + 128 : Nat) : Int) else .int .u8 0) := by
 simp [arr, h]
theorem arr_size (n L k : Nat) : (arr n L k).size = L := by simp [arr]
theorem arr_put (n L k : Nat) : (arr n L k).setIfInBounds k (.int .u8 ((n / 128 ^ k % 128 + 128 : Nat) : Int)) = arr n L (k + 1) := by
 apply Array.ext_getElem?
 intro j
 rw [Array.getElem?_setIfInBounds, arr_size]
 by_cases hj : j < L
 ·rw [arr_get n L k j hj, arr_get n L (k + 1) j hj]
  by_cases e : k = j
  ·subst e; rw [if_pos rfl, if_pos hj, if_pos (by omega)]
  ·rw [if_neg e]
   by_cases hjk : j < k
   ·rw [if_pos hjk, if_pos (by omega)]
   ·rw [if_neg hjk, if_neg (by omega)]
 ·have e1 : (arr n L k)[j]? = none := by rw [Array.getElem?_eq_none]; rw [arr_size]; omega
  have e2 : (arr n L (k + 1))[j]? = none := by rw [Array.getElem?_eq_none]; rw [arr_size]; omega
  rw [e1, e2]
  split
  ·rw [if_neg (by omega)]
  ·rfl
theorem arr_zero (n L : Nat) : madeCells (Value.int .u8 0).cells (L * 1) = arr n L 0 := by
 apply Array.ext_getElem?
 intro j
 by_cases hj : j < L
 ·rw [arr_get n L 0 j hj]
  have e0 : j % 1 = 0 := by omega
  simp [madeCells, Value.cells, hj, e0]
 ·have e2 : (arr n L 0)[j]? = none := by rw [Array.getElem?_eq_none]; rw [arr_size]; omega
  rw [e2, Array.getElem?_eq_none]
  rw [size_madeCells]; omega
theorem arr_end (n L : Nat) (hL : (digs n).length = L) (hp : 0 < L) :
 (arr n L L).setIfInBounds (L - 1) (.int .u8 ((n / 128 ^ (L - 1) % 128 : Nat) : Int)) = ((digs n).map bv).toArray := by
 have hr := digs_range n
 rw [hL] at hr
 apply Array.ext_getElem?
 intro j
 have ht : ∀ (l : List Value) (i : Nat), l.toArray[i]? = l[i]? := fun l i => by simp
 rw [Array.getElem?_setIfInBounds, arr_size, ht ((digs n).map bv), hr]
 by_cases hj : j < L
 ·rw [arr_get n L L j hj]
  simp only [List.map_map, List.getElem?_map, List.getElem?_range hj, Option.map_some, Function.comp, bv, digAt]
  by_cases e : L - 1 = j
  ·subst e; rw [if_pos rfl, if_pos hj, if_pos (by omega)]
  ·rw [if_neg e, if_pos hj, if_neg (by omega)]
 ·have e1 : (arr n L L)[j]? = none := by rw [Array.getElem?_eq_none]; rw [arr_size]; omega
  rw [e1, if_neg (by omega)]
  symm
  rw [List.getElem?_eq_none]
  simp; omega

def Rd (w : World) (A : Option Addr) (l : List Nat) : Prop :=
 l ≠ [] → ∃ b off, A = some ⟨b, off, none⟩ ∧ ∀ i (h : i < l.length), w.cell? ⟨b, off + i, none⟩ = some (bv l[i])
theorem Rd.nil (w : World) (A : Option Addr) : Rd w A [] := fun h => absurd rfl h
theorem Rd.keep {w w' : World} {A : Option Addr} {l : List Nat} (h : Rd w A l) (hk : ∀ (p : Addr) (x : Nat), w.cell? p = some (bv x) → w'.cell? p = w.cell? p) : Rd w' A l := fun hl => by
 obtain ⟨b, off, e, hc⟩ := h hl
 exact ⟨b, off, e, fun i hi => (hk _ _ (hc i hi)).trans (hc i hi)⟩
theorem Rd.below {w w' : World} {A : Option Addr} {l : List Nat} (h : Rd w A l) (hb : Below w.heap.size w w') : Rd w' A l :=
 h.keep fun p _ hp => hb.cell (World.block_lt_of_cell? w p hp)
theorem Rd.of_has {w : World} {g : Nat} {t : TypeId} {cs : Array Value} {l : List Nat} (h : Has w g t cs) (hc : ∀ i (hi : i < l.length), cs[i]? = some (bv l[i])) : Rd w (some ⟨g, 0, none⟩) l := fun _ =>
 ⟨g, 0, rfl, fun i hi => by rw [Nat.zero_add, h.cell]; exact hc i hi⟩
theorem Rd.drop {w : World} {b off : Nat} {l : List Nat} (h : Rd w (some ⟨b, off, none⟩) l) (k : Nat) : Rd w (some ⟨b, off + k, none⟩) (l.drop k) := fun hl => by
 have hk : l ≠ [] := by rintro rfl; simp at hl
 obtain ⟨b', off', e, hc⟩ := h hk
 injection e with e
 injection e with e1 e2
 subst e1; subst e2
 refine ⟨b, off + k, rfl, fun i hi => ?_⟩
 rw [List.length_drop] at hi
 rw [Nat.add_assoc, hc (k + i) (by omega), List.getElem_drop]
theorem Rd.take {w : World} {A : Option Addr} {l : List Nat} (h : Rd w A l) (k : Nat) : Rd w A (l.take k) := fun hl => by
 have hk : l ≠ [] := by rintro rfl; simp at hl
 obtain ⟨b, off, e, hc⟩ := h hk
 refine ⟨b, off, e, fun i hi => ?_⟩
 rw [List.length_take] at hi
 rw [hc i (by omega), List.getElem_take]

section
variable {P : Program}
theorem firstCells_rd (w : World) (A : Option Addr) (l : List Nat) (c : Nat) (h : Rd w A l) :
 (Builtin.firstCells 1 l.length (.slice A l.length c)).run P w = .ok (l.map bv).toArray w := by
 rcases A with _ | a
 ·have hl : l = [] := by
   rcases l with _ | ⟨x, l⟩
   ·rfl
   ·obtain ⟨b, off, e, _⟩ := h (by simp)
    cases e
  subst hl
  exact run_firstCells_none w 1 0 0 c
 ·refine run_firstCells_some w 1 l.length a l.length c (l.map bv) (by simp) fun j v hj => ?_
  have hjl : j < l.length := by
   have := (List.getElem?_eq_some_iff.1 hj).1
   simpa using this
  obtain ⟨b, off, e, hc⟩ := h (by rintro rfl; simp at hjl)
  injection e with e
  subst e
  rw [Addr.add_lit, hc j hjl]
  simpa [hjl] using hj
theorem bv_one : ∀ (l : List Nat), ∀ u ∈ l.map bv, u.oneCell' = true := fun l u hu => by
 obtain ⟨x, _, rfl⟩ := List.mem_map.1 hu
 rfl
theorem src_rd (w : World) {tx e' : TypeId} (hk : P.underlying tx = some (.slice e')) (A : Option Addr) (l : List Nat) (c : Nat) (h : Rd w A l) :
 Src P 1 tx (.slice A l.length c) l.length (l.map bv) w :=
 ⟨.inl ⟨e', hk⟩, fun _ => rfl, firstCells_rd w A l c h, firstCells_rd w.drew A l c h, by simp, bv_one l⟩

theorem wpList_app {ops : Array Oper} {rest : List Oper} {o : Oper} {a : Act} {w : World} {Q : Exit → Act → World → Prop} (hgd : o.guard = none) (s x : Operand) (t tx : TypeId)
 (ho : o.op = .call { callee := .builtin .append, args := #[s, x], argTypes := #[t, tx] }) (v xv : Value) (hs : a.eval s = v) (hx : a.eval x = xv)
 (hrun : ∃ R W', (Builtin.append_ #[t, tx] o.type #[v, xv]).run P w = .ok R W' ∧ wpList P ops Q rest (a.put o.dst R) W') : wpList P ops Q (o :: rest) a w := by
 obtain ⟨R, W', hrun, h⟩ := hrun
 refine wpList_plain hgd fun K hK => ?_
 unfold Oper.wp execOp
 simp only [ho, resolve, invoke, builtin, Sem.run_bind, Sem.run_pure, Result.andThen_ok, List.map_toArray, List.map_cons, List.map_nil, hs, hx, hrun]
 exact hK _ _ h

def Made (w : World) (l : List Nat) (v : Value) (w' : World) : Prop := ∃ A c, v = .slice A l.length c ∧ l.length ≤ c ∧ Rd w' A l ∧ Below w.heap.size w w'

theorem run_app_grow (w : World) {t tx e : TypeId} (ty : TypeId) {i : TypeInfo} (ht : P.underlying t = some (.slice e)) (hi : P.info? e = some i) (hz : i.zero = some (.int .u8 0)) (h1 : i.size = 1) (h2 : i.bytes = 1)
 (A : Option Addr) (l : List Nat) (c : Nat) (hl : Rd w A l) (x : Value) (m : List Nat) (hs : Src P 1 tx x m.length (m.map bv) w) (hg : c < l.length + m.length) (hb : l.length + m.length ≤ 1000000) :
 ∃ R W', (Builtin.append_ #[t, tx] ty #[.slice A l.length c, x]).run P w = .ok R W' ∧ Made w (l ++ m) R W' := by
 have hr := run_append_grow_src (P := P) w t tx ty e i (.int .u8 0) ht hi hz A l.length c (l.map bv) (by rw [h1]; exact firstCells_rd w.drew A l c hl) x m.length (m.map bv) (by rw [h1]; exact hs) hg (by omega) (growslice_fits hg (by rw [h2]; omega))
 refine ⟨_, _, hr, ?_⟩
 have hge := grownCap_ge w (l.length + m.length) c e
 refine ⟨_, _, by rw [List.length_append], by rw [List.length_append]; exact hge, ?_, ((Below.refl _ w).drew).alloc (Nat.le_refl _) _⟩
 refine Rd.of_has (Has.new w.drew e _) fun j hj => ?_
 have hj' : j < (l.map bv ++ m.map bv).length := by simpa using hj
 rw [Array.getElem?_append_left (by simpa using hj)]
 have ht : ∀ (l : List Value) (i : Nat), l.toArray[i]? = l[i]? := fun l i => by simp
 rw [ht, ← List.map_append, List.getElem?_map, List.getElem?_eq_getElem hj]
 rfl
theorem run_app_none (w : World) {t tx e : TypeId} (ty : TypeId) {i : TypeInfo} (ht : P.underlying t = some (.slice e)) (hi : P.info? e = some i) (h1 : i.size = 1)
 (b off n c : Nat) (x : Value) (hs : Src P 1 tx x 0 [] w) (hc : n ≤ c) :
 (Builtin.append_ #[t, tx] ty #[.slice (some ⟨b, off, none⟩) n c, x]).run P w = .ok (.slice (some ⟨b, off, none⟩) n c) w := by
 have hr := run_append_room_src (P := P) w t tx ty e i ht hi b off n c x 0 [] (by rw [h1]; exact hs) (by omega) (by simp) (by simp)
 simpa [World.setCells] using hr
end

end Go.Proofs.YtnpmgempkoeapaaGreatDoor
namespace Go.Proofs.YtnpmgempkoeapaaGreatDoor
open Go.RowKit Dg

def sb (s : ByteArray) : List Nat := s.data.toList.map UInt8.toNat
theorem sb_length (s : ByteArray) : (sb s).length = s.size := by
 unfold sb; rw [List.length_map, Array.length_toList]; rfl
def bs (l : List Nat) : ByteArray := ⟨(l.map UInt8.ofNat).toArray⟩
theorem bs_size (l : List Nat) : (bs l).size = l.length := by simp [bs, ByteArray.size]
theorem bs_sb (s : ByteArray) : bs (sb s) = s := by
 simp only [sb, bs, List.map_map]
 have : (UInt8.ofNat ∘ UInt8.toNat) = id := by funext x; simp
 rw [this, List.map_id]
theorem sb_byte (s : ByteArray) : ∀ x ∈ sb s, x < 256 := by
 intro x hx
 obtain ⟨y, _, rfl⟩ := List.mem_map.1 hx
 exact y.toNat_lt
theorem bs_toList (l : List Nat) : (bs l).toList = l.map UInt8.ofNat := ByteArray.toList_mk _
theorem fold_bs (l : List Nat) : ∀ s : ByteArray, (l.map (Int.ofNat)).foldl (fun r n => r.push (UInt8.ofNat n.toNat)) s = ⟨s.data ++ (l.map UInt8.ofNat).toArray⟩ := by
 induction l with
 | nil => intro s; simp
 | cons x l ih =>
   intro s
   rw [List.map_cons, List.foldl_cons, ih]
   simp [ByteArray.push]

theorem conv_rd (w : World) (A : Option Addr) (l : List Nat) (c : Nat) (h : Rd w A l) :
 (convert 37 9 (.slice A l.length c)).run Tryz.prog w = .ok (.string (bs l)) w := by
 rw [run_convert_bytes_string w 37 9 5 A l.length c Tryz.underlying37 Tryz.underlying5 Tryz.underlying9]
 rcases A with _ | a
 ·have hl : l = [] := by
   rcases l with _ | ⟨x, l⟩
   ·rfl
   ·obtain ⟨b, off, e, _⟩ := h (by simp)
    cases e
  subst hl
  rfl
 ·have hf := firstCells_rd (P := Tryz.prog) w (some a) l c h
  simp only [Builtin.firstCells, Nat.mul_one] at hf
  have hm : l.map bv = (l.map Int.ofNat).map (Value.int .u8) := by rw [List.map_map]; rfl
  rw [hm] at hf
  rw [run_bytesToString w a l.length c (l.map Int.ofNat) hf, fold_bs]
  simp [bs]
theorem conv_len (w : World) (A : Option Addr) (l : List Nat) (n c : Nat) (hn : l.length = n) (h : Rd w A l) :
 (convert 37 9 (.slice A n c)).run Tryz.prog w = .ok (.string (bs l)) w := by
 rw [← hn]; exact conv_rd w A l c h
def Str (W : World) (l : List Nat) (A : Option Addr) (n : Nat) (w' : World) : Prop := l.length = n ∧ Rd w' A l ∧ Below W.heap.size W w'
theorem Str.conv {W w' : World} {l : List Nat} {A : Option Addr} {n : Nat} (c : Nat) (h : Str W l A n w') : Sem.run Tryz.prog (convert 37 9 (.slice A n c)) w' = .ok (.string (bs l)) w' := conv_len w' A l n c h.1 h.2.1
theorem Str.later {W w' w2 : World} {l : List Nat} {A : Option Addr} {n : Nat} (h : Str W l A n w') (hb : Below w'.heap.size w' w2) : Str W l A n w2 := ⟨h.1, h.2.1.below hb, h.2.2.trans (hb.mono h.2.2.size)⟩
theorem partI (xs : Array Value) (i : Nat) (v : Value) (h : xs[i]? = some v) (w : World) : (part 3 xs i).run Tryz.prog w = .ok v w := by
 unfold part
 simp [Sem.run_bind, Tryz.isAgg3, h]
theorem partS (xs : Array Value) (i : Nat) (v : Value) (h : xs[i]? = some v) (w : World) : (part 9 xs i).run Tryz.prog w = .ok v w := by
 unfold part
 simp [Sem.run_bind, Tryz.isAgg9, h]
theorem eqV (k n k' n' : Int) (s s' : ByteArray) (w : World) : (Op.equalIn 10000 87 (.agg #[.int .i64 k, .int .i64 n, .string s]) (.agg #[.int .i64 k', .int .i64 n', .string s'])).run Tryz.prog w = .ok (k == k' && n == n' && s.toList == s'.toList) w := by
 have e := fun (a b : Int) (w : World) => run_equalIn_int (P := Tryz.prog) w 9998 3 .i64 .i64 a b Tryz.underlying3
 have es := fun (a b : ByteArray) (w : World) => run_equalIn_string (P := Tryz.prog) w 9998 9 a b Tryz.underlying9
 have p0 := fun (x0 x1 x2 : Value) => partI #[x0, x1, x2] 0 x0 rfl
 have p1 := fun (x0 x1 x2 : Value) => partI #[x0, x1, x2] 1 x1 rfl
 have p2 := fun (x0 x1 x2 : Value) => partS #[x0, x1, x2] 2 x2 rfl
 rw [show (10000 : Nat) = 9999 + 1 by rfl, run_equalIn_agg w 9999 87 _ _ (by kernel_rfl) (by kernel_rfl)]
 unfold Program.fieldsOf
 rw [Tryz.underlying87]
 by_cases h0 : k = k' <;> by_cases h1 : n = n' <;> by_cases h2 : s.toList = s'.toList <;>
 simp [Op.eqFields, Sem.run_bind, Result.andThen, p0, p1, p2, e, es, h0, h1, h2]
def short (n : Int) (s : ByteArray) : Bool := n == 0 && decide (s.size ≤ 4096)
set_option maxHeartbeats 400000 in
theorem isText_any (k n : Int) (s : ByteArray) (w : World) (hs : s.size ≤ 9223372036854775807) :
 Calls Tryz.prog 120 #[.agg #[.int .i64 k, .int .i64 n, .string s]] w fun e w' => e = .returned (.bool (short n s)) ∧ Hid (Below w.heap.size w w') := by
 have eq := eqV
 have HB := fun n => Lib.hid ((Below.refl w.heap.size w).alloc (Nat.le_refl _) (.cells #[.int .i64 k, .int .i64 n, .string s] 87))
 go_enter Tryz.func120, Tryz.ntmps120
 go_wp2_with fail
 ·have h : n = 0 := by assumption
  go_ret
  exact ⟨by simp [short, h]; omega, HB 0⟩
 ·have h : ¬ n = 0 := by assumption
  go_ret
  exact ⟨by simp [short, h], HB n⟩
def mayF (k n : Int) (s : ByteArray) : Bool :=
 if k = 0 then n == 0 && s.toList.isEmpty else if k = 1 then s.toList.isEmpty && (n == 0 || n == 1) else if k = 2 then s.toList.isEmpty else if k = 3 then short n s && Lib.validD s.data.toList else if k = 4 then short n s else false
def Tabs (w : World) : Prop := Lib.Utf8Tabs (Tryz.laysValid_ren.g 3) (Tryz.laysValid_ren.g 4) w
theorem Tabs.below {w w' : World} (h : Tabs w) (hb : Below w.heap.size w w') : Tabs w' := Utf8Tabs_below h hb
set_option maxHeartbeats 400000 in
theorem may_any (k n : Int) (s : ByteArray) (w : World) (hs : s.size ≤ 9223372036854775807) (hT : Tabs w) :
 Calls Tryz.prog 109 #[.agg #[.int .i64 k, .int .i64 n, .string s]] w fun e w' => e = .returned (.bool (mayF k n s)) ∧ Hid (Below w.heap.size w w') := by
 have eq := eqV
 have HB := fun k n s => Lib.hid ((Below.refl w.heap.size w).alloc (Nat.le_refl _) (.cells #[.int .i64 k, .int .i64 n, .string s] 87))
 by_cases h0 : k = 0
 ·subst h0
  go_enter Tryz.func109, Tryz.ntmps109
  go_wp2_with fail
  go_ret
  exact ⟨by simp [mayF], HB 0 n s⟩
 by_cases h1 : k = 1
 ·subst h1
  by_cases hn : n = 0
  ·subst hn
   cases he : s.toList.isEmpty
   ·go_enter Tryz.func109, Tryz.ntmps109
    go_wp2_with fail
    go_ret
    exact ⟨by simp [mayF, he], HB _ _ _⟩
   ·go_enter Tryz.func109, Tryz.ntmps109
    go_wp2_with fail
    go_ret
    exact ⟨by simp [mayF, he], HB _ _ _⟩
  ·have hq : (n == 0) = false := by simp [hn]
   go_enter Tryz.func109, Tryz.ntmps109
   go_wp2_with fail
   go_ret
   exact ⟨by simp [mayF, hq, Bool.and_comm], HB _ _ _⟩
 by_cases h2 : k = 2
 ·subst h2
  go_enter Tryz.func109, Tryz.ntmps109
  go_wp2_with fail
  go_ret
  exact ⟨by simp [mayF], HB _ _ _⟩
 by_cases h3 : k = 3
 ·subst h3
  have C1 := Lib.hid (fun w => isText_any 3 n s w hs)
  go_enter Tryz.func109, Tryz.ntmps109
  go_wp2_with fail
  refine (C1.out _).mono ?_
  rintro e w1 ⟨rfl, hb1⟩
  have HB1 := Lib.hid ((HB 3 n s).out.trans (hb1.out.mono (HB 3 n s).out.size))
  have hc1 : w1.cell? ⟨w.heap.size, 2, none⟩ = some (.string s) := by
   rw [hb1.out.cell (by simp)]
   simp
  have HV := Lib.hid (fun w (h : Tabs w) => Any.utf8_ValidString Tryz.laysValid s w hs h)
  have HT := Lib.hid hT
  clear hb1 hT
  cases hsh : short n s
  ·go_wp2_with fail
   go_ret
   exact ⟨by simp [mayF, hsh], HB1.out⟩
  ·go_wp2_with fail
   refine (HV.out _ (HT.out.below HB1.out)).mono ?_
   rintro e w2 ⟨rfl, hb2⟩
   have HB2 := Lib.hid (HB1.out.trans (hb2.mono HB1.out.size))
   clear hb2
   go_wp2_with fail
   go_ret
   exact ⟨by simp [mayF, hsh], HB2.out⟩
 by_cases h4 : k = 4
 ·subst h4
  have C1 := Lib.hid (fun w => isText_any 4 n s w hs)
  go_enter Tryz.func109, Tryz.ntmps109
  go_wp2_with fail
  refine (C1.out _).mono ?_
  rintro e w1 ⟨rfl, hb1⟩
  have HB1 := Lib.hid ((HB 4 n s).out.trans (hb1.out.mono (HB 4 n s).out.size))
  go_wp2_with fail
  go_ret
  exact ⟨by simp [mayF], HB1.out⟩
 ·go_enter Tryz.func109, Tryz.ntmps109
  go_wp2_with fail
  go_ret
  exact ⟨by simp [mayF, h0, h1, h2, h3, h4], HB _ _ _⟩
theorem info5 : (Tryz.prog.info? 5).map (fun i => (i.zero, i.size, i.bytes)) = some (some (.int .u8 0), 1, 1) := by kernel_rfl
def Own (B : Nat) (w : World) (v : Value) (l : List Nat) : Prop := w.ownsRow B 5 1 v l.length (l.map bv)
def OutO (w : World) (l : List Nat) (e : Ending) (w' : World) : Prop := ∃ v, e = .returned v ∧ Own w.heap.size w' v l ∧ Below w.heap.size w w'
theorem own_nil (B : Nat) (w : World) : Own B w (.slice none 0 0) [] := World.ownsRow_nil _ _ _ _
theorem Own.below {B : Nat} {w w' : World} {v : Value} {l : List Nat} (h : Own B w v l) (hb : Below w.heap.size w w') : Own B w' v l := by
 rcases h.2 with ⟨hv, hn⟩ | ⟨g, cap, cur, hv, hg, hh, hc, hcm, hsz, ht⟩
 ·exact ⟨h.1, .inl ⟨hv, hn⟩⟩
 ·exact ⟨h.1, .inr ⟨g, cap, cur, hv, hg, Has.below (t := 5) (cs := cur) hh hb (Has.lt (t := 5) (cs := cur) hh), hc, hcm, hsz, ht⟩⟩
theorem own_full {B : Nat} {w : World} {v : Value} {l : List Nat} (h : Own B w v l) : ∃ A c, v = .slice A l.length c ∧ l.length ≤ c ∧ Rd w A l := by
 rcases h.2 with ⟨hv, hn⟩ | ⟨g, cap, cur, hv, _, hh, hc, _, _, ht⟩
 ·obtain rfl := List.eq_nil_of_length_eq_zero hn
  exact ⟨none, 0, hv, Nat.le_refl _, Rd.nil _ _⟩
 ·subst hv
  exact ⟨_, _, rfl, hc, Rd.of_has (t := 5) (cs := cur) hh fun i hi => by
   have h1 : (l.map bv)[i]? = some (bv l[i]) := by simp [hi]
   rw [← ht, List.getElem?_take, if_pos (by omega)] at h1
   simpa using h1⟩
theorem own_conv {B : Nat} {w : World} {v : Value} {l : List Nat} (h : Own B w v l) : ∃ A n c, v = .slice A n c ∧ Hid (l.length = n) ∧ Sem.run Tryz.prog (convert 37 9 (.slice A n c)) w = .ok (.string (bs l)) w := by
 obtain ⟨A, c, e, _, hr⟩ := own_full h
 exact ⟨A, l.length, c, e, rfl, conv_len w A l _ c rfl hr⟩
def Kept (w w' : World) : Prop := ∀ (g : Nat) (t : TypeId) (cs : Array Value), t ≠ 5 → Has w g t cs → Has w' g t cs
theorem Kept.trans {a b c : World} (h : Kept a b) (k : Kept b c) : Kept a c := fun g t cs ht hh => k g t cs ht (h g t cs ht hh)
theorem Kept.below {a b : World} (h : Below a.heap.size a b) : Kept a b := fun _ _ _ _ hh => hh.below h hh.lt
theorem app_at (w : World) (g : Nat) (hg0 : g = w.heap.size) (B : Nat) (v : Value) (l : List Nat) (ds : List Nat) (cs : Array Value) (hcs : cs = (ds.map bv).toArray) (m : Nat) (hm : ds.length = m) (h : Own B w v l) (hB : B ≤ w.heap.size) (hl : l.length + m ≤ 1000000) :
 ∃ R W', (Builtin.append_ #[37, 37] 37 #[v, .slice (some ⟨g, 0, none⟩) m m]).run Tryz.prog (w.alloc (.cells cs 5)) = .ok R W' ∧ Own B W' R (l ++ ds) ∧ Below B w W' ∧ Kept w W' := by
 subst hcs; subst hm; subst hg0
 obtain ⟨i0, hi, hz0, hz1, hz2⟩ := info_parts info5
 obtain ⟨R, W', hrun, hown, hg, _⟩ := run_append_own (P := Tryz.prog) (w.alloc (.cells (ds.map bv).toArray 5)) B 37 37 5 i0 (.int .u8 0) 1 1 Tryz.underlying37 hi hz0 hz1 hz2 rfl (by decide) v l.length (l.map bv) (h.alloc _)
  ⟨w.heap.size, 0, none⟩ ds.length ds.length (ds.map bv) (by simp) (fun j u hj => by
    have := (Has.new w 5 (ds.map bv).toArray).cell j
    rw [List.getElem?_toArray] at this
    rw [Addr.add_lit, Nat.zero_add]
    exact this.trans hj) (bv_one ds) (by unfold maxLen; omega) (by omega) (by simp; omega)
 refine ⟨R, W', hrun, ?_, ?_, ?_⟩
 ·unfold Own; rw [List.map_append, List.length_append]; exact hown
 ·exact ((Below.refl B w).alloc hB _).grown hg (by simp; omega) fun k hk => (World.ownsRow.lt h k hk).1
 ·intro g t cs ht hh
  have hh2 := hh.alloc (.cells (ds.map bv).toArray 5)
  refine (hg.block g hh2.lt fun e => ?_).trans hh2
  rcases h.2 with ⟨hv, _⟩ | ⟨g', cap, cur, hv, _, hc, _⟩
  ·rw [hv] at e; cases e
  ·rw [hv] at e
   have e2 : g = g' := by simpa [Value.ownBlock] using e
   subst e2
   unfold Has at hh
   rw [hc] at hh
   simp at hh
   exact ht hh.2.symm
theorem app_new (w : World) (B : Nat) (v : Value) (l : List Nat) (ds : List Nat) (cs : Array Value) (hcs : cs = (ds.map bv).toArray) (m : Nat) (hm : ds.length = m) (h : Own B w v l) (hB : B ≤ w.heap.size) (hl : l.length + m ≤ 1000000) :
 ∃ R W', (Builtin.append_ #[37, 37] 37 #[v, .slice (some ⟨w.heap.size, 0, none⟩) m m]).run Tryz.prog (w.alloc (.cells cs 5)) = .ok R W' ∧ Own B W' R (l ++ ds) ∧ Below B w W' := by
 obtain ⟨R, W', h1, h2, h3, _⟩ := app_at w _ rfl B v l ds cs hcs m hm h hB hl
 exact ⟨R, W', h1, h2, h3⟩
def hi (n : Int) (size k : Nat) : List Nat := (List.range k).map fun i => (n / 2 ^ (8 * (size - 1 - i)) % 256).toNat
theorem hi_succ (n : Int) (size k : Nat) : hi n size (k + 1) = hi n size k ++ [(n / 2 ^ (8 * (size - 1 - k)) % 256).toNat] := by
 unfold hi; rw [List.range_succ, List.map_append]; rfl
theorem hi_len (n : Int) (size k : Nat) : (hi n size k).length = k := by simp [hi]
set_option maxHeartbeats 1000000 in
set_option maxRecDepth 100000 in
theorem addNumber_any (B : Nat) (v : Value) (l : List Nat) (n : Int) (size : Nat) (w : World) (h : Own B w v l) (hB : B ≤ w.heap.size) (hl : l.length ≤ 900000) (hs : size ≤ 8) :
 Calls Tryz.prog 131 #[v, .int .i64 n, .int .i64 size] w fun e w' => ∃ v', e = .returned v' ∧ Hid (Own B w' v' (l ++ hi n size size)) ∧ Hid (Below B w w') := by
 have H := Lib.hid h
 clear h
 go_enter Tryz.func131, Tryz.ntmps131
 go_wp2_with fail
 go_loopw [0, 9] (fun x i wr => ∃ (k : Nat) (u : Value), k ≤ size ∧ i = .int .i64 k ∧ u = x ∧ Hid (Own B wr u (l ++ hi n size k)) ∧ Hid (Below B w wr)) (fun _ i _ => size - (intOf i).toNat)
 case atStart => exact ⟨0, v, by omega, rfl, rfl, by simpa [hi] using H, Below.refl _ _⟩
 case round =>
  obtain ⟨k, u, hk, rfl, rfl, HO, HB⟩ := hrel
  by_cases hlt : k < size
  ·have HA := Lib.hid (app_new wr B u (l ++ hi n size k) [(n / 2 ^ (8 * (size - 1 - k)) % 256).toNat] #[.int .u8 (n / 2 ^ (8 * (size - 1 - k)) % 256)] (by simp [bv]; omega) 1 rfl HO.out (Nat.le_trans hB HB.out.size) (by rw [List.length_append, hi_len]; omega))
   go_wp2_with (at_builtin; refine wpList_app rfl _ _ 37 37 rfl u (.slice (some ⟨wr.heap.size, 0, none⟩) 1 1) rfl rfl ?_; obtain ⟨R, W', hrun, hmade⟩ := HA.out; refine ⟨R, W', hrun, ?_⟩; have HM := Lib.hid hmade; clear hrun hmade)
   go_roundw
   case rel => exact ⟨k + 1, R, by omega, by go_num, rfl, by rw [hi_succ, ← List.append_assoc]; exact HM.out.1, HB.out.trans HM.out.2⟩
   case measure => simp [intOf]; omega
  ·obtain rfl : k = size := by omega
   go_wp2_with fail
   go_ret
   exact ⟨u, rfl, HO, HB⟩
def esc : List Nat → List Nat
 | [] => []
 | x :: t => if x = 0 then 0 :: 255 :: esc t else x :: esc t
theorem esc_append : ∀ l m : List Nat, esc (l ++ m) = esc l ++ esc m
 | [], _ => rfl
 | x :: t, m => by
   simp only [List.cons_append, esc]
   rw [esc_append t m]
   split <;> simp
theorem esc_len : ∀ l : List Nat, (esc l).length ≤ 2 * l.length
 | [] => by simp [esc]
 | x :: t => by
   have := esc_len t
   simp only [esc]
   split <;> simp <;> omega
theorem sb_get (s : ByteArray) (k : Nat) (h : k < s.size) : (sb s)[k]'(by rw [sb_length]; exact h) = (s[k]'h).toNat := by
 simp [sb]
 rfl
theorem sb_take_succ (s : ByteArray) (k : Nat) (h : k < s.size) : (sb s).take (k + 1) = (sb s).take k ++ [(s[k]'h).toNat] := by
 rw [List.take_succ_eq_append_getElem (by rw [sb_length]; exact h), sb_get s k h]
set_option maxHeartbeats 2000000 in
set_option maxRecDepth 100000 in
theorem addText_any (B : Nat) (v : Value) (l : List Nat) (s : ByteArray) (w : World) (h : Own B w v l) (hB : B ≤ w.heap.size) (hl : l.length + 2 * s.size ≤ 900000) :
 Calls Tryz.prog 132 #[v, .string s] w fun e w' => ∃ v', e = .returned v' ∧ Hid (Own B w' v' (l ++ (esc (sb s) ++ [0, 1]))) ∧ Hid (Below B w w') := by
 have H := Lib.hid h
 clear h
 go_enter Tryz.func132, Tryz.ntmps132
 go_wp2_with fail
 go_loopw [0, 8] (fun x i wr => ∃ (k : Nat) (u : Value), k ≤ s.size ∧ i = .int .i64 k ∧ u = x ∧ Hid (Own B wr u (l ++ esc ((sb s).take k))) ∧ Hid (Below B w wr)) (fun _ i _ => s.size - (intOf i).toNat)
 case atStart => exact ⟨0, v, by omega, rfl, rfl, by simpa [esc] using H, Below.refl _ _⟩
 case round =>
  obtain ⟨k, u, hk, rfl, rfl, HO, HB⟩ := hrel
  have hel : (esc ((sb s).take k)).length ≤ 2 * k := by
   have := esc_len ((sb s).take k)
   rw [List.length_take] at this
   omega
  by_cases hlt : k < s.size
  ·have HS := Lib.hid (sb_take_succ s k hlt)
   have HA := Lib.hid (app_new wr B u (l ++ esc ((sb s).take k)) [s[k].toNat] #[.int .u8 s[k].toNat] (by simp [bv]) 1 rfl HO.out (Nat.le_trans hB HB.out.size) (by rw [List.length_append]; omega))
   by_cases hz : s[k].toNat = 0
   ·have HE : Hid (esc ((sb s).take (k + 1)) = esc ((sb s).take k) ++ [0] ++ [255]) := by
     show _ = _
     rw [HS.out, esc_append, hz]; simp [esc]
    have HA := Lib.hid (app_new wr B u (l ++ esc ((sb s).take k)) [0] #[.int .u8 0] rfl 1 rfl HO.out (Nat.le_trans hB HB.out.size) (by rw [List.length_append]; omega))
    have hzz : ((s[k].toNat : Int) == 0) = true := by rw [hz]; rfl
    go_wp2_with (first
     | (at_builtin; refine wpList_app rfl _ _ 37 37 rfl u (.slice (some ⟨wr.heap.size, 0, none⟩) 1 1) rfl rfl ?_; obtain ⟨R, W', hrun, hmade⟩ := HA.out; refine ⟨R, W', hrun, ?_⟩; have HM := Lib.hid hmade; clear hrun hmade HA)
     | (at_builtin; refine wpList_app rfl _ _ 37 37 rfl R (.slice (some ⟨W'.heap.size, 0, none⟩) 1 1) rfl rfl ?_; obtain ⟨R2, W2, hrun, hmade⟩ := app_new W' B R _ [255] #[.int .u8 255] rfl 1 rfl HM.out.1 (Nat.le_trans hB (Nat.le_trans HB.out.size HM.out.2.size)) (by rw [List.length_append, List.length_append]; simp; omega); refine ⟨R2, W2, hrun, ?_⟩; have HM2 := Lib.hid hmade; clear hrun hmade))
    go_roundw
    case rel => exact ⟨k + 1, R2, by omega, by go_num, rfl, by rw [HE.out, ← List.append_assoc, ← List.append_assoc]; exact HM2.out.1, HB.out.trans (HM.out.2.trans HM2.out.2)⟩
    case measure => simp [intOf]; omega
   ·have HE : Hid (esc ((sb s).take (k + 1)) = esc ((sb s).take k) ++ [s[k].toNat]) := by
     show _ = _
     rw [HS.out, esc_append]; simp [esc, hz]
    have hzz : ((s[k].toNat : Int) == 0) = false := by simp; omega
    go_wp2_with (at_builtin; refine wpList_app rfl _ _ 37 37 rfl u (.slice (some ⟨wr.heap.size, 0, none⟩) 1 1) rfl rfl ?_; obtain ⟨R, W', hrun, hmade⟩ := HA.out; refine ⟨R, W', hrun, ?_⟩; have HM := Lib.hid hmade; clear hrun hmade HA)
    go_roundw
    case rel => exact ⟨k + 1, R, by omega, by go_num, rfl, by rw [HE.out, ← List.append_assoc]; exact HM.out.1, HB.out.trans HM.out.2⟩
    case measure => simp [intOf]; omega
  ·obtain rfl : k = s.size := by omega
   have HT : Hid ((sb s).take s.size = sb s) := List.take_of_length_le (by rw [sb_length]; exact Nat.le_refl _)
   have HA := Lib.hid (app_new wr B u (l ++ esc ((sb s).take s.size)) [0, 1] #[.int .u8 0, .int .u8 1] rfl 2 rfl HO.out (Nat.le_trans hB HB.out.size) (by rw [List.length_append]; omega))
   go_wp2_with (at_builtin; refine wpList_app rfl _ _ 37 37 rfl u (.slice (some ⟨wr.heap.size, 0, none⟩) 2 2) rfl rfl ?_; obtain ⟨R, W', hrun, hmade⟩ := HA.out; refine ⟨R, W', hrun, ?_⟩; have HM := Lib.hid hmade; clear hrun hmade HA)
   go_ret
   refine ⟨R, rfl, ?_, HB.out.trans HM.out.2⟩
   have h := HM.out.1
   rw [HT.out, List.append_assoc] at h
   exact h
end Go.Proofs.YtnpmgempkoeapaaGreatDoor
