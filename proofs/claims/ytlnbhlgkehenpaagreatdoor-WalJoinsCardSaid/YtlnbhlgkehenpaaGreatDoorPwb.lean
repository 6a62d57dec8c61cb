/-
  Put together, as far as it is used: Kit, WtL, WvL, WvM, Str, Wk, Val, KeyB, KeyC, KeyD, OwnV, Dec, Vals, Kv, Name, Rkey, WKey, WAdd, WRight, FewW, GdM, Utf, Rutf, Cmp, RVals, RGood, NextW, PtM, RPoint, Ma, Conc.
-/
import Derived.Test.YtlnbhlgkehenpaaGreatDoorPwa
import Derived.WalkKit
import Derived.WalkSpells
import Derived.WalkLawsBesides
import Derived.Lib.Hide
import Derived.Deep.AppendSrc
import Derived.RangeFuncNested
import Derived.RangeFuncBound
import Derived.RangeFuncCalls
import Derived.RangeFuncLeaves
import Derived.Test.YtlnbhlgkehenpaaGreatDoorProg
import Derived.OwnWalkIn
import Derived.TacticsInMore
import Derived.LoopNIn
import Derived.LoopIn
import Derived.Shelf.RegionOpen
import Derived.Deep.RegionHeld3
import Derived.OwnWalk
import Derived.Laws.AppendOwnNone
import Derived.Laws.OwnMore
import Derived.Test.YtlnbhlgkehenpaaGreatDoorShelf
import Derived.Laws.StructEq
import Derived.Lib.ValidLaws
import Derived.RegionTactic
import Derived.Laws.ResultCell
import Derived.Laws.RangeAny
import Derived.Lib.AppendZerosOnto
import Derived.Deep.QuietTactic
import Derived.BigQuiet
import Derived.OpenShut
import Derived.Lib.AppendStr
set_option linter.unusedVariables false
set_option linter.unusedSimpArgs false
set_option linter.defProp false
namespace Go.Proofs.YtlnbhlgkehenpaaGreatDoor
open Go.RowKit Dg
def zA := @List.getElem_toArray
def zB := @List.getElem_cons_succ
def zC := @List.getElem_cons_zero
def zD := @List.setIfInBounds_toArray
def zE := @List.set_cons_succ
def zF := @List.set_cons_zero
def zG := @List.getElem?_toArray
def zH := @List.getElem?_cons_zero
def zI := @List.getElem?_cons_succ

theorem or128 : ∀ x : Fin 256, x.val ||| 128 = x.val % 128 + 128 := by decide +kernel
theorem and127 : ∀ x : Fin 256, x.val &&& 127 = x.val % 128 := by decide +kernel
theorem pow7 (k : Nat) : 2 ^ (7 * k) = 128 ^ k := by rw [Nat.pow_mul]
theorem int_div_pow (n k : Nat) : (n : Int) / 2 ^ (7 * k) = ((n / 128 ^ k : Nat) : Int) := by
 rw [← pow7, Int.natCast_ediv, Int.natCast_pow]; rfl
theorem bits_or128 (n k : Nat) : bits .or .u8 ((n : Int) / 2 ^ (7 * k) % 256) 128 = ((n / 128 ^ k % 128 + 128 : Nat) : Int) := by
 rw [int_div_pow]
 have e : ((n / 128 ^ k : Nat) : Int) % 256 = ((n / 128 ^ k % 256 : Nat) : Int) := by omega
 rw [e]
 have h := u8_or_nat (n / 128 ^ k % 256) 128 (by omega) (by omega)
 have o := or128 ⟨n / 128 ^ k % 256, by omega⟩
 simp only at o
 rw [o] at h
 refine h.trans ?_
 omega
theorem bits_and127 (m : Nat) : bits .and .u8 ((m % 128 + 128 : Nat) : Int) 127 = ((m % 128 : Nat) : Int) := by
 have h := u8_and_nat (m % 128 + 128) 127 (by omega) (by omega)
 have o := and127 ⟨m % 128 + 128, by omega⟩
 simp only at o
 rw [o] at h
 refine h.trans ?_
 omega

def Has (w : World) (g : Nat) (t : TypeId) (cs : Array Value) : Prop := w.heap[g]? = some (.cells cs t (0, 0))
section
variable {w w' : World} {g : Nat} {t : TypeId} {cs : Array Value}
theorem Has.lt (h : Has w g t cs) : g < w.heap.size := by
 unfold Has at h
 exact (Array.getElem?_eq_some_iff.1 h).1
theorem Has.cell (h : Has w g t cs) (i : Nat) : w.cell? ⟨g, i, none⟩ = cs[i]? := cell_of_row w g i cs t (0, 0) h
theorem Has.free (h : Has w g t cs) (i : Nat) : w.frozen? ⟨g, i, none⟩ = false := by
 unfold Has at h
 simp [World.frozen?, h]
theorem all12 {W : World} {g : Nat} {t : TypeId} {a0 a1 a2 a3 a4 a5 a6 a7 a8 a9 a10 a11 : Value} (h : Has W g t #[a0, a1, a2, a3, a4, a5, a6, a7, a8, a9, a10, a11]) : W.cell? ⟨g, 0, none⟩ = some a0 ∧ W.cell? ⟨g, 1, none⟩ = some a1 ∧ W.cell? ⟨g, 2, none⟩ = some a2 ∧ W.cell? ⟨g, 3, none⟩ = some a3 ∧ W.cell? ⟨g, 4, none⟩ = some a4 ∧ W.cell? ⟨g, 5, none⟩ = some a5 ∧ W.cell? ⟨g, 6, none⟩ = some a6 ∧ W.cell? ⟨g, 7, none⟩ = some a7 ∧ W.cell? ⟨g, 8, none⟩ = some a8 ∧ W.cell? ⟨g, 9, none⟩ = some a9 ∧ W.cell? ⟨g, 10, none⟩ = some a10 ∧ W.cell? ⟨g, 11, none⟩ = some a11 ∧ W.frozen? ⟨g, 0, none⟩ = false ∧ W.frozen? ⟨g, 1, none⟩ = false ∧ W.frozen? ⟨g, 2, none⟩ = false ∧ W.frozen? ⟨g, 3, none⟩ = false ∧ W.frozen? ⟨g, 4, none⟩ = false ∧ W.frozen? ⟨g, 5, none⟩ = false ∧ W.frozen? ⟨g, 6, none⟩ = false ∧ W.frozen? ⟨g, 7, none⟩ = false ∧ W.frozen? ⟨g, 8, none⟩ = false ∧ W.frozen? ⟨g, 9, none⟩ = false ∧ W.frozen? ⟨g, 10, none⟩ = false ∧ W.frozen? ⟨g, 11, none⟩ = false :=
 ⟨h.cell 0, h.cell 1, h.cell 2, h.cell 3, h.cell 4, h.cell 5, h.cell 6, h.cell 7, h.cell 8, h.cell 9, h.cell 10, h.cell 11, h.free 0, h.free 1, h.free 2, h.free 3, h.free 4, h.free 5, h.free 6, h.free 7, h.free 8, h.free 9, h.free 10, h.free 11⟩
theorem Has.new (w : World) (t : TypeId) (cs : Array Value) : Has (w.alloc (.cells cs t)) w.heap.size t cs := heap_alloc_new w _
theorem Has.drew (h : Has w g t cs) : Has w.drew g t cs := h
theorem Has.alloc (h : Has w g t cs) (o : Obj) : Has (w.alloc o) g t cs := (Below.heap_alloc w o g h.lt).trans h
theorem Has.put (h : Has w g t cs) (i : Nat) (u : Value) : Has (w.setCell ⟨g, i, none⟩ u) g t (cs.setIfInBounds i u) := by
 unfold Has at h ⊢
 simp [World.setCell, Array.getElem?_modify, h]
theorem Has.far (h : Has w g t cs) {p : Addr} (hp : g ≠ p.block) (u : Value) : Has (w.setCell p u) g t cs := (Below.heap_setCell w p u g hp).trans h
theorem Has.below {B : Nat} (h : Has w g t cs) (hb : Below B w w') (hg : g < B) : Has w' g t cs := (hb.block g hg).trans h
theorem size_set (w : World) (p : Addr) (u : Value) : (w.setCell p u).heap.size = w.heap.size := by simp [World.setCell]
end

def bv (x : Nat) : Value := .int .u8 (x : Int)

def arr (n L k : Nat) : Array Value := ((List.range L).map (fun j => if j < k then Value.int .u8 ((n / 128 ^ j % 128 + 128 : Nat) : Int) else .int .u8 0)).toArray
theorem arr_get (n L k j : Nat) (h : j < L) : (arr n L k)[j]? = some (if j < k then Value.int .u8 ((n / 128 ^ j % 128 + 128 : Nat) : Int) else .int .u8 0) := by
 simp [arr, h]
theorem arr_size (n L k : Nat) : (arr n L k).size = L := by simp [arr]
theorem arr_put (n L k : Nat) : (arr n L k).setIfInBounds k (.int .u8 ((n / 128 ^ k % 128 + 128 : Nat) : Int)) = arr n L (k + 1) := by
 apply Array.ext_getElem?
 intro j
 rw [Array.getElem?_setIfInBounds, arr_size]
 by_cases hj : j < L
 ·rw [arr_get n L k j hj, arr_get n L (k + 1) j hj]
  by_cases e : k = j
  ·subst e; rw [if_pos rfl, if_pos hj, if_pos (by omega)]
  ·rw [if_neg e]
   by_cases hjk : j < k
   ·rw [if_pos hjk, if_pos (by omega)]
   ·rw [if_neg hjk, if_neg (by omega)]
 ·have e1 : (arr n L k)[j]? = none := by rw [Array.getElem?_eq_none]; rw [arr_size]; omega
  have e2 : (arr n L (k + 1))[j]? = none := by rw [Array.getElem?_eq_none]; rw [arr_size]; omega
  rw [e1, e2]
  split
  ·rw [if_neg (by omega)]
  ·rfl
theorem arr_zero (n L : Nat) : madeCells (Value.int .u8 0).cells (L * 1) = arr n L 0 := by
 apply Array.ext_getElem?
 intro j
 by_cases hj : j < L
 ·rw [arr_get n L 0 j hj]
  have e0 : j % 1 = 0 := by omega
  simp [madeCells, Value.cells, hj, e0]
 ·have e2 : (arr n L 0)[j]? = none := by rw [Array.getElem?_eq_none]; rw [arr_size]; omega
  rw [e2, Array.getElem?_eq_none]
  rw [size_madeCells]; omega
theorem arr_end (n L : Nat) (hL : (digs n).length = L) (hp : 0 < L) :
 (arr n L L).setIfInBounds (L - 1) (.int .u8 ((n / 128 ^ (L - 1) % 128 : Nat) : Int)) = ((digs n).map bv).toArray := by
 have hr := digs_range n
 rw [hL] at hr
 apply Array.ext_getElem?
 intro j
 have ht : ∀ (l : List Value) (i : Nat), l.toArray[i]? = l[i]? := fun l i => by simp
 rw [Array.getElem?_setIfInBounds, arr_size, ht ((digs n).map bv), hr]
 by_cases hj : j < L
 ·rw [arr_get n L L j hj]
  simp only [List.map_map, List.getElem?_map, List.getElem?_range hj, Option.map_some, Function.comp, bv, digAt]
  by_cases e : L - 1 = j
  ·subst e; rw [if_pos rfl, if_pos hj, if_pos (by omega)]
  ·rw [if_neg e, if_pos hj, if_neg (by omega)]
 ·have e1 : (arr n L L)[j]? = none := by rw [Array.getElem?_eq_none]; rw [arr_size]; omega
  rw [e1, if_neg (by omega)]
  symm
  rw [List.getElem?_eq_none]
  simp; omega

def Rd (w : World) (A : Option Addr) (l : List Nat) : Prop :=
 l ≠ [] → ∃ b off, A = some ⟨b, off, none⟩ ∧ ∀ i (h : i < l.length), w.cell? ⟨b, off + i, none⟩ = some (bv l[i])
theorem Rd.nil (w : World) (A : Option Addr) : Rd w A [] := fun h => absurd rfl h
theorem Rd.keep {w w' : World} {A : Option Addr} {l : List Nat} (h : Rd w A l) (hk : ∀ (p : Addr) (x : Nat), w.cell? p = some (bv x) → w'.cell? p = w.cell? p) : Rd w' A l := fun hl => by
 obtain ⟨b, off, e, hc⟩ := h hl
 exact ⟨b, off, e, fun i hi => (hk _ _ (hc i hi)).trans (hc i hi)⟩
theorem Rd.below {w w' : World} {A : Option Addr} {l : List Nat} (h : Rd w A l) (hb : Below w.heap.size w w') : Rd w' A l :=
 h.keep fun p _ hp => hb.cell (World.block_lt_of_cell? w p hp)
theorem Rd.of_has {w : World} {g : Nat} {t : TypeId} {cs : Array Value} {l : List Nat} (h : Has w g t cs) (hc : ∀ i (hi : i < l.length), cs[i]? = some (bv l[i])) : Rd w (some ⟨g, 0, none⟩) l := fun _ =>
 ⟨g, 0, rfl, fun i hi => by rw [Nat.zero_add, h.cell]; exact hc i hi⟩
theorem Rd.drop {w : World} {b off : Nat} {l : List Nat} (h : Rd w (some ⟨b, off, none⟩) l) (k : Nat) : Rd w (some ⟨b, off + k, none⟩) (l.drop k) := fun hl => by
 have hk : l ≠ [] := by rintro rfl; simp at hl
 obtain ⟨b', off', e, hc⟩ := h hk
 injection e with e
 injection e with e1 e2
 subst e1; subst e2
 refine ⟨b, off + k, rfl, fun i hi => ?_⟩
 rw [List.length_drop] at hi
 rw [Nat.add_assoc, hc (k + i) (by omega), List.getElem_drop]
theorem Rd.take {w : World} {A : Option Addr} {l : List Nat} (h : Rd w A l) (k : Nat) : Rd w A (l.take k) := fun hl => by
 have hk : l ≠ [] := by rintro rfl; simp at hl
 obtain ⟨b, off, e, hc⟩ := h hk
 refine ⟨b, off, e, fun i hi => ?_⟩
 rw [List.length_take] at hi
 rw [hc i (by omega), List.getElem_take]

section
variable {P : Program}
theorem firstCells_rd (w : World) (A : Option Addr) (l : List Nat) (c : Nat) (h : Rd w A l) :
 (Builtin.firstCells 1 l.length (.slice A l.length c)).run P w = .ok (l.map bv).toArray w := by
 rcases A with _ | a
 ·have hl : l = [] := by
   rcases l with _ | ⟨x, l⟩
   ·rfl
   ·obtain ⟨b, off, e, _⟩ := h (by simp)
    cases e
  subst hl
  exact run_firstCells_none w 1 0 0 c
 ·refine run_firstCells_some w 1 l.length a l.length c (l.map bv) (by simp) fun j v hj => ?_
  have hjl : j < l.length := by
   have := (List.getElem?_eq_some_iff.1 hj).1
   simpa using this
  obtain ⟨b, off, e, hc⟩ := h (by rintro rfl; simp at hjl)
  injection e with e
  subst e
  rw [Addr.add_lit, hc j hjl]
  simpa [hjl] using hj
theorem bv_one : ∀ (l : List Nat), ∀ u ∈ l.map bv, u.oneCell' = true := fun l u hu => by
 obtain ⟨x, _, rfl⟩ := List.mem_map.1 hu
 rfl
theorem src_rd (w : World) {tx e' : TypeId} (hk : P.underlying tx = some (.slice e')) (A : Option Addr) (l : List Nat) (c : Nat) (h : Rd w A l) :
 Src P 1 tx (.slice A l.length c) l.length (l.map bv) w :=
 ⟨.inl ⟨e', hk⟩, fun _ => rfl, firstCells_rd w A l c h, firstCells_rd w.drew A l c h, by simp, bv_one l⟩

theorem wpList_app {ops : Array Oper} {rest : List Oper} {o : Oper} {a : Act} {w : World} {Q : Exit → Act → World → Prop} (hgd : o.guard = none) (s x : Operand) (t tx : TypeId)
 (ho : o.op = .call { callee := .builtin .append, args := #[s, x], argTypes := #[t, tx] }) (v xv : Value) (hs : a.eval s = v) (hx : a.eval x = xv)
 (hrun : ∃ R W', (Builtin.append_ #[t, tx] o.type #[v, xv]).run P w = .ok R W' ∧ wpList P ops Q rest (a.put o.dst R) W') : wpList P ops Q (o :: rest) a w := by
 obtain ⟨R, W', hrun, h⟩ := hrun
 refine wpList_plain hgd fun K hK => ?_
 unfold Oper.wp execOp
 simp only [ho, resolve, invoke, builtin, Sem.run_bind, Sem.run_pure, Result.andThen_ok, List.map_toArray, List.map_cons, List.map_nil, hs, hx, hrun]
 exact hK _ _ h

def Made (w : World) (l : List Nat) (v : Value) (w' : World) : Prop := ∃ A c, v = .slice A l.length c ∧ l.length ≤ c ∧ Rd w' A l ∧ Below w.heap.size w w'

theorem run_app_grow (w : World) {t tx e : TypeId} (ty : TypeId) {i : TypeInfo} (ht : P.underlying t = some (.slice e)) (hi : P.info? e = some i) (hz : i.zero = some (.int .u8 0)) (h1 : i.size = 1) (h2 : i.bytes = 1)
 (A : Option Addr) (l : List Nat) (c : Nat) (hl : Rd w A l) (x : Value) (m : List Nat) (hs : Src P 1 tx x m.length (m.map bv) w) (hg : c < l.length + m.length) (hb : l.length + m.length ≤ 1000000) :
 ∃ R W', (Builtin.append_ #[t, tx] ty #[.slice A l.length c, x]).run P w = .ok R W' ∧ Made w (l ++ m) R W' := by
 have hr := run_append_grow_src (P := P) w t tx ty e i (.int .u8 0) ht hi hz A l.length c (l.map bv) (by rw [h1]; exact firstCells_rd w.drew A l c hl) x m.length (m.map bv) (by rw [h1]; exact hs) hg (by omega) (growslice_fits hg (by rw [h2]; omega))
 refine ⟨_, _, hr, ?_⟩
 have hge := grownCap_ge w (l.length + m.length) c e
 refine ⟨_, _, by rw [List.length_append], by rw [List.length_append]; exact hge, ?_, ((Below.refl _ w).drew).alloc (Nat.le_refl _) _⟩
 refine Rd.of_has (Has.new w.drew e _) fun j hj => ?_
 have hj' : j < (l.map bv ++ m.map bv).length := by simpa using hj
 rw [Array.getElem?_append_left (by simpa using hj)]
 have ht : ∀ (l : List Value) (i : Nat), l.toArray[i]? = l[i]? := fun l i => by simp
 rw [ht, ← List.map_append, List.getElem?_map, List.getElem?_eq_getElem hj]
 rfl
theorem run_app_none (w : World) {t tx e : TypeId} (ty : TypeId) {i : TypeInfo} (ht : P.underlying t = some (.slice e)) (hi : P.info? e = some i) (h1 : i.size = 1)
 (b off n c : Nat) (x : Value) (hs : Src P 1 tx x 0 [] w) (hc : n ≤ c) :
 (Builtin.append_ #[t, tx] ty #[.slice (some ⟨b, off, none⟩) n c, x]).run P w = .ok (.slice (some ⟨b, off, none⟩) n c) w := by
 have hr := run_append_room_src (P := P) w t tx ty e i ht hi b off n c x 0 [] (by rw [h1]; exact hs) (by omega) (by simp) (by simp)
 simpa [World.setCells] using hr
end

end Go.Proofs.YtlnbhlgkehenpaaGreatDoor
namespace Go.Proofs.YtlnbhlgkehenpaaGreatDoor
open Go.RowKit
structure Tur (X : List Nat) (w w' : World) : Prop where
 os : w'.os = w.os
 tape : w'.tape = w.tape
 output : w'.output = w.output
 size : w.heap.size ≤ w'.heap.size
 block : ∀ k, k < w.heap.size → k ∉ X → w'.heap[k]? = w.heap[k]?
def Fre (X X' : List Nat) (w : World) : Prop := ∀ b ∈ X', b ∈ X ∨ w.heap.size ≤ b
theorem Tur.refl (X : List Nat) (w : World) : Tur X w w := ⟨rfl, rfl, rfl, Nat.le_refl _, fun _ _ _ => rfl⟩
theorem Fre.refl (X : List Nat) (w : World) : Fre X X w := fun _ h => .inl h
theorem Tur.trans {X X' : List Nat} {a b c : World} (h : Tur X a b) (k : Tur X' b c) (hf : Fre X X' a) : Tur X a c :=
 ⟨k.os.trans h.os, k.tape.trans h.tape, k.output.trans h.output, Nat.le_trans h.size k.size, fun i hi hx => (k.block i (Nat.lt_of_lt_of_le hi h.size) fun hx' => (hf i hx').elim hx (fun hh => by omega)).trans (h.block i hi hx)⟩
theorem Fre.trans {X X' X2 : List Nat} {a b : World} (h : Fre X X' a) (k : Fre X' X2 b) (hs : a.heap.size ≤ b.heap.size) : Fre X X2 a := fun i hi => (k i hi).elim (h i) fun hh => .inr (by omega)
theorem Tur.of_below {X : List Nat} {w w' : World} (h : Below w.heap.size w w') : Tur X w w' := ⟨h.os, h.tape, h.output, h.size, fun k hk _ => h.block k hk⟩
theorem Tur.below {X : List Nat} {w w' : World} {B : Nat} (h : Tur X w w') (hx : ∀ b ∈ X, B ≤ b) (hB : B ≤ w.heap.size) : Below B w w' :=
 ⟨h.os, h.tape, h.output, h.size, fun k hk => h.block k (by omega) fun hh => by have := hx k hh; omega⟩
theorem Tur.setCell {X : List Nat} (w : World) {p : Addr} (hp : p.block ∈ X) (u : Value) : Tur X w (w.setCell p u) :=
 ⟨rfl, rfl, rfl, by simp [World.setCell], fun k _ hx => Below.heap_setCell _ _ _ _ (fun e => hx (e ▸ hp))⟩
theorem Tur.alloc (X : List Nat) (w : World) (o : Obj) : Tur X w (w.alloc o) := Tur.of_below ((Below.refl _ w).alloc (Nat.le_refl _) o)
theorem Tur.drew (X : List Nat) (w : World) : Tur X w w.drew := ⟨rfl, rfl, rfl, Nat.le_refl _, fun _ _ _ => rfl⟩
theorem Tur.grown {X : List Nat} {w w' : World} {row : Option Nat} (hg : w.grownBy w' row) (hr : ∀ k, row = some k → k ∈ X) : Tur X w w' :=
 ⟨hg.os, hg.tape, hg.output, hg.size, fun k hk hx => hg.block k hk fun e => hx (hr k e.symm)⟩
theorem Tur.sub {X Y : List Nat} {w w' : World} (h : Tur X w w') (hs : ∀ b ∈ X, b ∈ Y) : Tur Y w w' := ⟨h.os, h.tape, h.output, h.size, fun k hk hy => h.block k hk fun hx => hy (hs k hx)⟩
theorem Tur.putObj {X : List Nat} (w : World) {l : Nat} (hl : l ∈ X) (o : Obj) : Tur X w (w.putObj l o) :=
 ⟨rfl, rfl, rfl, by simp, fun k _ hx => World.putObj_heap_other (fun e => hx (e ▸ hl))⟩
theorem Has.tur {X : List Nat} {w w' : World} {g : Nat} {t : TypeId} {cs : Array Value} (h : Has w g t cs) (ht : Tur X w w') (hg : g ∉ X) : Has w' g t cs := (ht.block g h.lt hg).trans h
def Stays {α : Type} (B : Nat) (J : List α → List Nat → World → Prop) : Prop :=
 ∀ pre X W W' Z, J pre X W → Tur Z W W' → (∀ b ∈ Z, B ≤ b ∧ b ∉ X) → J pre X W'
theorem Stays.mono {α : Type} {B C : Nat} {J : List α → List Nat → World → Prop} (h : Stays B J) (hBC : B ≤ C) : Stays C J :=
 fun pre X W W' Z hj ht hz => h pre X W W' Z hj ht fun b hb => ⟨Nat.le_trans hBC (hz b hb).1, (hz b hb).2⟩
def Round {α : Type} (F : Fence) (P : Program) (l : Nat) (encs : α → Array Value) (xs : List α) (J Jx : List α → List Nat → World → Prop) : Prop :=
 ∀ m pre x X W1, J pre X W1 → pre ++ [x] <+: xs → YieldAt F m P l (encs x) W1 fun e W' =>
  ∃ X', ((e = .returned (.bool true) ∧ J (pre ++ [x]) X' W') ∨ (e = .returned (.bool false) ∧ Jx (pre ++ [x]) X' W')) ∧ Tur X W1 W' ∧ Fre X X' W1
def Tells {α : Type} (F : Fence) (P : Program) (g : Nat) (lb : Array Value) (encs : α → Array Value) (K : Nat → Prop) (xs : List α) (w : World) : Prop :=
 ∀ (n l : Nat) (J Jx : List α → List Nat → World → Prop) (W : World) (X : List Nat), w.heap.size ≤ W.heap.size → (∀ b, K b → W.heap[b]? = w.heap[b]?) → (∀ b ∈ X, ¬ K b) →
  Stays W.heap.size J → Stays W.heap.size Jx → (∀ pre X W, J pre X W → ∀ b ∈ X, b < W.heap.size) → Round F P l encs xs J Jx → J [] X W →
  CallsIn F n P g (#[.func (.yield l) #[] #[]] ++ lb) W fun e W' => (∃ v, e = .returned v) ∧ ∃ X', J xs X' W' ∨ ∃ pre, Jx pre X' W'
def Left {α : Type} (I : List α → List Nat → World → Prop) (Ix : Code → List α → List Nat → World → Prop) (xs : List α) (X : List Nat) (W : World) : Exit → Act → World → Prop
 | .normal, _, W' => ∃ X', I xs X' W' ∧ Tur X W W' ∧ Fre X X' W
 | .ret, _, W' => ∃ X', Ix .ret xs X' W' ∧ Tur X W W' ∧ Fre X X' W
 | .exit id, _, W' => ∃ X', Ix (.exit id) xs X' W' ∧ Tur X W W' ∧ Fre X X' W
 | .goto t, _, W' => ∃ X', Ix (.goto t) xs X' W' ∧ Tur X W W' ∧ Fre X X' W
 | _, _, _ => False
section
variable {F : Fence} {n : Nat} {P : Program}
theorem wp_tells {α : Type} {g : Operand} {ps : Array Tmp} {assign body : Code} {Q : Exit → Act → World → Prop} {a : Act} {w : World}
 (hd : F.depth = none) (hro : F.round = none) {gf : Nat} {lb : Array Value} (hg : a.eval g = .func (.func gf) #[] lb) (hFg : F.fn gf) (eg : ∀ args w, (callFunc gf args).run P w = .ok (.enter gf args) w)
 {encs : α → Array Value} {K : Nat → Prop} {xs : List α} {w0 : World} (hseq : Tells F P gf lb encs K xs w0) (hw0 : w0.heap.size ≤ w.heap.size) (hK0 : ∀ b, K b → w.heap[b]? = w0.heap[b]?) (hK1 : ∀ b, K b → b < w.heap.size) (hps : ∀ x, (encs x).size = ps.size)
 (I : List α → List Nat → World → Prop) (Ix : Code → List α → List Nat → World → Prop) (hI : Stays w.heap.size I) (hIx : ∀ c, Stays w.heap.size (Ix c)) (hIl : ∀ pre X W, I pre X W → ∀ b ∈ X, b < W.heap.size)
 (X0 : List Nat) (hX0 : ∀ b ∈ X0, ¬ K b) (h0 : I [] X0 w) 
 (hloop : ∃ a₁ : α → Act, (∀ (m l : Nat) (x : α) (W : World) (K : Act → World → Prop), K (a₁ x) W →
   assign.wpIn (F.inRound l) m P (Exit.then K (fun _ _ _ => False)) { tmps := (ps.zip (encs x)).foldl (fun t (p, v) => t.setIfInBounds p v) a.tmps, defers := [] } W) ∧
   ∀ (m l : Nat) (pre : List α) (x : α) (X : List Nat) (W : World), I pre X W → pre ++ [x] <+: xs → body.wpIn (F.inRound l) m P (Left I Ix (pre ++ [x]) X W) (a₁ x) W)
 (hdone : ∀ (D : Nat) (X : List Nat) (W : World), w.heap.size ≤ D → I xs X W → D ∉ X → W.heap[D]? = some (.deferred (some [])) → Q .normal { a with defers := { target := .collected D, args := #[] } :: a.defers } W)
 (hstop : ∀ (D : Nat) (c : Code) (pre : List α) (X : List Nat) (W : World), w.heap.size ≤ D → Ix c pre X W → D ∉ X → W.heap[D]? = some (.deferred (some [])) → c.wpIn F n P Q { a with defers := { target := .collected D, args := #[] } :: a.defers } W) :
 (Code.rangeFunc g ps assign body).wpIn F n P Q a w := by
 obtain ⟨a₁, hassign, hbody⟩ := hloop
 refine wpIn_rangeFunc fun fn hfn => ?_
 rw [hro]
 generalize hD : w.heap.size = D at *
 -- the record, as it is in each state
 let rec_ : LoopState → Option Code → Obj := fun st pe => .loop { state := st, pending := pe, fn, tmps := a.tmps, params := ps, assign, body, defers := D }
 let W1 := (w.alloc (.deferred (some []))).alloc (rec_ .ready none)
 have s1 : W1.heap.size = D + 2 := by show ((w.alloc _).alloc _).heap.size = _; simp [hD]
 have t1 : Tur [] w W1 := (Tur.alloc [] w _).trans (Tur.alloc [] _ _) (Fre.refl _ _)
 have l1 : W1.heap[D + 1]? = some (rec_ .ready none) := by
  have := World.alloc_heap_new (w.alloc (.deferred (some []))) (rec_ .ready none)
  rwa [World.size_alloc, hD] at this
 have d1 : W1.heap[D]? = some (.deferred (some [])) := by
  have h1 := World.alloc_heap_new w (.deferred (some []))
  rw [hD] at h1
  exact (Below.heap_alloc _ _ _ (by simp [hD])).trans h1
 let J : List α → List Nat → World → Prop := fun pre Y W => ∃ X, Y = (D + 1) :: X ∧ I pre X W ∧ D + 1 ∉ X ∧ D ∉ X ∧ W.heap[D + 1]? = some (rec_ .ready none) ∧ W.heap[D]? = some (.deferred (some []))
 let Jx : List α → List Nat → World → Prop := fun pre Y W => ∃ X c, Y = (D + 1) :: X ∧ Ix c pre X W ∧ D ∉ X ∧ D + 1 ∉ X ∧ W.heap[D + 1]? = some (rec_ .done (some c)) ∧ W.heap[D]? = some (.deferred (some []))
 have lt : ∀ {W : World} {k : Nat} {o : Obj}, W.heap[k]? = some o → k < W.heap.size := fun h => (Array.getElem?_eq_some_iff.1 h).1
 have hX0l := hIl _ _ _ h0
 refine ⟨D + 1, [{ target := .collected D, args := #[] }], W1, { target := .fn (.func gf) lb, args := #[.func (.yield (D + 1)) #[] #[]] }, W1, gf, #[.func (.yield (D + 1)) #[] #[]] ++ lb, W1, ?_, ?_, ?_, ?_, (fun h => (by rw [hd] at h; cases h)), ?_⟩
 ·have := run_enterLoop_outer (P := P) (w := w) fn a.tmps ps assign body
  rw [hD] at this
  exact this
 ·simp only [resolve, hg]
  simp [go_sem]
 ·intro f' hf'
  simp [Target.leads] at hf'
  subst hf'
  exact hFg
 ·simp [invoke, go_sem, eg]
 refine (hseq (n - 1) (D + 1) J Jx W1 ((D + 1) :: X0) (by omega) (fun b hb => (t1.block b (by have := hK1 b hb; omega) (by simp)).trans (hK0 b hb)) ?_ ?_ ?_ ?_ ?_ ⟨X0, rfl, hI _ _ _ _ [] h0 t1 (by simp), (fun h => (by have := hX0l _ h; omega)), (fun h => (by have := hX0l _ h; omega)), l1, d1⟩).mono ?_
 ·intro b hb hk
  rcases List.mem_cons.1 hb with rfl | hb
  ·have := hK1 _ hk; omega
  ·exact hX0 b hb hk
 ·rintro pre Y W W' Z ⟨X, rfl, hi, h1, h2, h3, h4⟩ ht hz
  have hz' : ∀ b ∈ Z, D + 2 ≤ b ∧ b ∉ X := fun b hb => ⟨by have := (hz b hb).1; omega, fun hx => (hz b hb).2 (List.mem_cons_of_mem _ hx)⟩
  exact ⟨X, rfl, hI _ _ _ _ Z hi ht (fun b hb => ⟨by have := (hz' b hb).1; omega, (hz' b hb).2⟩), h1, h2, (ht.block _ (lt h3) fun h => by have := (hz' _ h).1; omega).trans h3, (ht.block _ (lt h4) fun h => by have := (hz' _ h).1; omega).trans h4⟩
 ·rintro pre Y W W' Z ⟨X, c, rfl, hi, h1, h2, h3, h4⟩ ht hz
  have hz' : ∀ b ∈ Z, D + 2 ≤ b ∧ b ∉ X := fun b hb => ⟨by have := (hz b hb).1; omega, fun hx => (hz b hb).2 (List.mem_cons_of_mem _ hx)⟩
  exact ⟨X, c, rfl, hIx c _ _ _ _ Z hi ht (fun b hb => ⟨by have := (hz' b hb).1; omega, (hz' b hb).2⟩), h1, h2, (ht.block _ (lt h3) fun h => by have := (hz' _ h).1; omega).trans h3, (ht.block _ (lt h4) fun h => by have := (hz' _ h).1; omega).trans h4⟩
 ·rintro pre Y W ⟨X, rfl, hi, h1, h2, h3, h4⟩ b hb
  rcases List.mem_cons.1 hb with rfl | hb
  ·exact lt h3
  ·exact hIl _ _ _ hi b hb
 ·rintro m pre x Y W ⟨X, rfl, hi, h1, h2, h3, h4⟩ hpre
  refine ⟨fn, _, assign, body, run_yield (P := P) (args := encs x) h3 (hps x), roundIn_of_wpIn hfn (hassign m _ x W _ ⟨_, run_beginRound h3 rfl, ?_⟩)⟩
  let W2 := W.putObj (D + 1) (rec_ .busy none)
  have t2 : Tur [D + 1] W W2 := Tur.putObj W (by simp) _
  have h32 : W2.heap[D + 1]? = some (rec_ .busy none) := World.putObj_heap_same (lt h3)
  have h42 : W2.heap[D]? = some (.deferred (some [])) := (t2.block D (lt h4) (by simp)).trans h4
  have s2 : W.heap.size ≤ W2.heap.size := t2.size
  have hone : ∀ b ∈ [D + 1], D ≤ b ∧ b ∉ X := fun b hb => by rw [List.mem_singleton.1 hb]; exact ⟨Nat.le_succ _, h1⟩
  refine wpIn_mono (hbody m (D + 1) pre x X W2 (hI _ _ _ _ _ hi t2 hone) hpre) ?_
  -- behind the body: the record is closed, by whatever way it was left
  have fin : ∀ (jump : Option Code) (X' : List Nat) (W3 : World), Tur X W2 W3 → Fre X X' W2 →
   ∃ W4, (Instr.endRound (D + 1) jump).run P W3 = .ok (.bool jump.isNone) W4 ∧ W4.heap[D + 1]? = some (rec_ (if jump.isNone then .ready else .done) jump) ∧ W4.heap[D]? = some (.deferred (some [])) ∧ Tur [D + 1] W3 W4 ∧ D + 1 ∉ X' ∧ D ∉ X' ∧ Tur ((D + 1) :: X) W W4 ∧ Fre ((D + 1) :: X) ((D + 1) :: X') W := by
   intro jump X' W3 ht hf
   have h33 : W3.heap[D + 1]? = some (rec_ .busy none) := (ht.block _ (lt h32) h1).trans h32
   have h43 : W3.heap[D]? = some (.deferred (some [])) := (ht.block _ (lt h42) h2).trans h42
   have t4 : Tur [D + 1] W3 (W3.putObj (D + 1) (rec_ (if jump.isNone then .ready else .done) jump)) := Tur.putObj W3 (by simp) _
   have sub1 : ∀ b ∈ [D + 1], b ∈ (D + 1) :: X := fun b hb => by rw [List.mem_singleton.1 hb]; exact List.mem_cons_self
   refine ⟨_, run_endRound (P := P) jump h33, World.putObj_heap_same (lt h33), (t4.block D (lt h43) (by simp)).trans h43, t4, fun h => ?_, fun h => ?_, ?_, fun b hb => ?_⟩
   ·rcases hf _ h with h | h
    ·exact h1 h
    ·have := lt h32; omega
   ·rcases hf _ h with h | h
    ·exact h2 h
    ·have := lt h42; omega
   ·exact ((t2.sub sub1).trans (ht.sub fun b hb => List.mem_cons_of_mem _ hb) (Fre.refl _ _)).trans (t4.sub sub1) (Fre.refl _ _)
   ·rcases List.mem_cons.1 hb with rfl | hb
    ·exact .inl List.mem_cons_self
    ·rcases hf _ hb with h | h
     ·exact .inl (List.mem_cons_of_mem _ h)
     ·exact .inr (by omega)
  have one' : ∀ {X' : List Nat}, D + 1 ∉ X' → ∀ b ∈ [D + 1], D ≤ b ∧ b ∉ X' := fun h b hb => by rw [List.mem_singleton.1 hb]; exact ⟨Nat.le_succ _, h⟩
  rintro e a3 W3 hp
  cases e with
  | normal =>
    obtain ⟨X', hi3, ht, hf⟩ := hp
    obtain ⟨W4, hr, h34, h44, t4, n1, n2, tt, ff⟩ := fin none X' W3 ht hf
    exact ⟨_, W4, hr, _, .inl ⟨rfl, X', rfl, hI _ _ _ _ _ hi3 t4 (one' n1), n1, n2, h34, h44⟩, tt, ff⟩
  | ret =>
    obtain ⟨X', hi3, ht, hf⟩ := hp
    obtain ⟨W4, hr, h34, h44, t4, n1, n2, tt, ff⟩ := fin (some .ret) X' W3 ht hf
    exact ⟨_, W4, hr, _, .inr ⟨rfl, X', .ret, rfl, hIx _ _ _ _ _ _ hi3 t4 (one' n1), n2, n1, h34, h44⟩, tt, ff⟩
  | exit id =>
    obtain ⟨X', hi3, ht, hf⟩ := hp
    obtain ⟨W4, hr, h34, h44, t4, n1, n2, tt, ff⟩ := fin (some (.exit id)) X' W3 ht hf
    exact ⟨_, W4, hr, _, .inr ⟨rfl, X', .exit id, rfl, hIx _ _ _ _ _ _ hi3 t4 (one' n1), n2, n1, h34, h44⟩, tt, ff⟩
  | goto t =>
    obtain ⟨X', hi3, ht, hf⟩ := hp
    obtain ⟨W4, hr, h34, h44, t4, n1, n2, tt, ff⟩ := fin (some (.goto t)) X' W3 ht hf
    exact ⟨_, W4, hr, _, .inr ⟨rfl, X', .goto t, rfl, hIx _ _ _ _ _ _ hi3 t4 (one' n1), n2, n1, h34, h44⟩, tt, ff⟩
  | panic ch => exact hp.elim
  | outgrown => exact hp.elim
 ·rintro e W2 ⟨⟨v, rfl⟩, Y, (⟨X, rfl, hi, h1, h2, h3, h4⟩ | ⟨pre, X, c, rfl, hi, h2, h1, h3, h4⟩)⟩
  ·have t3 : Tur [D + 1] W2 (W2.putObj (D + 1) (rec_ .exhausted none)) := Tur.putObj W2 (by simp) _
   exact ⟨none, _, run_endLoop (P := P) h3 (by simp), hdone D X _ (Nat.le_refl _) (hI _ _ _ _ _ hi t3 fun b hb => by rw [List.mem_singleton.1 hb]; exact ⟨Nat.le_succ _, h1⟩) h2 ((t3.block D (lt h4) (by simp)).trans h4)⟩
  ·have t3 : Tur [D + 1] W2 (W2.putObj (D + 1) (rec_ .exhausted (some c))) := Tur.putObj W2 (by simp) _
   exact ⟨some c, _, run_endLoop (P := P) h3 (by simp), hstop D c pre X _ (Nat.le_refl _) (hIx c _ _ _ _ _ hi t3 fun b hb => by rw [List.mem_singleton.1 hb]; exact ⟨Nat.le_succ _, h1⟩) h2 ((t3.block D (lt h4) (by simp)).trans h4)⟩
end
end Go.Proofs.YtlnbhlgkehenpaaGreatDoor
namespace Go.Proofs.YtlnbhlgkehenpaaGreatDoor
open Go.RowKit
def StaysG {α : Type} (B : Nat) (M : Nat → Prop) (J : List α → List Nat → World → Prop) : Prop :=
 ∀ pre X W W' Z, J pre X W → Tur Z W W' → (∀ b ∈ Z, (B ≤ b ∨ M b) ∧ b ∉ X) → J pre X W'
def RoundG {α : Type} (F : Fence) (P : Program) (l : Nat) (encs : α → Array Value) (C : List α → World → Prop) (J Jx : List α → List Nat → World → Prop) : Prop :=
 ∀ m pre x X W1, J pre X W1 → C (pre ++ [x]) W1 → YieldAt F m P l (encs x) W1 fun e W' =>
  ∃ X', ((e = .returned (.bool true) ∧ J (pre ++ [x]) X' W') ∨ (e = .returned (.bool false) ∧ Jx (pre ++ [x]) X' W')) ∧ Tur X W1 W' ∧ Fre X X' W1
def TellsG {α : Type} (F : Fence) (P : Program) (g : Nat) (lb : Array Value) (encs : α → Array Value) (C Fin : List α → World → Prop) (K M : Nat → Prop) (w : World) : Prop :=
 ∀ (n l : Nat) (J Jx : List α → List Nat → World → Prop) (W : World) (X : List Nat), w.heap.size ≤ W.heap.size → (W.os = w.os ∧ W.tape = w.tape ∧ W.output = w.output) → (∀ b, K b → W.heap[b]? = w.heap[b]?) → (∀ b ∈ X, ¬ K b) →
  StaysG W.heap.size M J → StaysG W.heap.size M Jx → (∀ pre X W, J pre X W → ∀ b ∈ X, b < W.heap.size) → RoundG F P l encs C J Jx → J [] X W →
  CallsIn F n P g (#[.func (.yield l) #[] #[]] ++ lb) W fun e W' => (∃ v, e = .returned v) ∧ ∃ X', (∃ xs, Fin xs W' ∧ J xs X' W') ∨ ∃ pre, Jx pre X' W'
def Rec (W : World) (b : Nat) : Prop := ∀ t cs, ¬ Has W b t cs
theorem rec_of {W : World} {b : Nat} {o : Obj} (h : W.heap[b]? = some o) (ho : ∀ cs t, o ≠ .cells cs t) : Rec W b := fun t cs hh => by
 have : some o = some (.cells cs t) := h.symm.trans hh
 injection this with e
 exact ho _ _ e
def Rec2 (W : World) (b : Nat) : Prop := ∀ o, W.heap[b]? = some o → ∀ c e f, o ≠ .cells c e f
theorem rec2_of {W : World} {b : Nat} {o : Obj} (h : W.heap[b]? = some o) (ho : ∀ c e f, o ≠ .cells c e f) : Rec2 W b := fun o' h' => by
 obtain rfl : o = o' := Option.some.inj (h.symm.trans h')
 exact ho
def Calm {α : Type} (B : Nat) (C : List α → World → Prop) : Prop := ∀ pre W W' b, C pre W → Tur [b] W W' → B ≤ b → Rec2 W b → C pre W'
section
variable {F : Fence} {n : Nat} {P : Program}
theorem wp_tellsG {α : Type} {g : Operand} {ps : Array Tmp} {assign body : Code} {Q : Exit → Act → World → Prop} {a : Act} {w : World}
 (hd : F.depth = none) (hro : F.round = none) {gf : Nat} {lb : Array Value} (hg : a.eval g = .func (.func gf) #[] lb) (hFg : F.fn gf) (eg : ∀ args w, (callFunc gf args).run P w = .ok (.enter gf args) w)
 {encs : α → Array Value} {C Fin : List α → World → Prop} {K M : Nat → Prop} {w0 : World} (hseq : TellsG F P gf lb encs C Fin K M w0) (hC : Calm w.heap.size C) (hF : Calm w.heap.size Fin) (hM : ∀ b, M b → b < w.heap.size) (hw0 : w0.heap.size ≤ w.heap.size) (hO0 : w.os = w0.os ∧ w.tape = w0.tape ∧ w.output = w0.output) (hK0 : ∀ b, K b → w.heap[b]? = w0.heap[b]?) (hK1 : ∀ b, K b → b < w.heap.size) (hps : ∀ x, (encs x).size = ps.size)
 (I : List α → List Nat → World → Prop) (Ix : Code → List α → List Nat → World → Prop) (hI : StaysG w.heap.size M I) (hIx : ∀ c, StaysG w.heap.size M (Ix c)) (hIl : ∀ pre X W, I pre X W → ∀ b ∈ X, b < W.heap.size)
 (X0 : List Nat) (hX0 : ∀ b ∈ X0, ¬ K b) (h0 : I [] X0 w) 
 (hloop : ∃ (a₁ : α → World → Act) (w₁ : α → World → World), (∀ x W, Tur [] W (w₁ x W)) ∧ (∀ (m l : Nat) (x : α) (W : World) (K : Act → World → Prop), K (a₁ x W) (w₁ x W) →
   assign.wpIn (F.inRound l) m P (Exit.then K (fun _ _ _ => False)) { tmps := (ps.zip (encs x)).foldl (fun t (p, v) => t.setIfInBounds p v) a.tmps, defers := [] } W) ∧
   ∀ (m l b : Nat) (pre : List α) (x : α) (X : List Nat) (W W2 : World), b < W.heap.size → Tur [b] (w₁ x W) W2 → I pre X W2 → C (pre ++ [x]) W2 → body.wpIn (F.inRound l) m P (Left I Ix (pre ++ [x]) X W2) (a₁ x W) W2)
 (hdone : ∀ (D : Nat) (xs : List α) (X : List Nat) (W : World), w.heap.size ≤ D → Fin xs W → I xs X W → D ∉ X → W.heap[D]? = some (.deferred (some [])) → Q .normal { a with defers := { target := .collected D, args := #[] } :: a.defers } W)
 (hstop : ∀ (D : Nat) (c : Code) (pre : List α) (X : List Nat) (W : World), w.heap.size ≤ D → Ix c pre X W → D ∉ X → W.heap[D]? = some (.deferred (some [])) → c.wpIn F n P Q { a with defers := { target := .collected D, args := #[] } :: a.defers } W) :
 (Code.rangeFunc g ps assign body).wpIn F n P Q a w := by
 obtain ⟨a₁, w₁, hT1, hassign, hbody⟩ := hloop
 refine wpIn_rangeFunc fun fn hfn => ?_
 rw [hro]
 generalize hD : w.heap.size = D at *
 -- the record, as it is in each state
 let rec_ : LoopState → Option Code → Obj := fun st pe => .loop { state := st, pending := pe, fn, tmps := a.tmps, params := ps, assign, body, defers := D }
 let W1 := (w.alloc (.deferred (some []))).alloc (rec_ .ready none)
 have s1 : W1.heap.size = D + 2 := by show ((w.alloc _).alloc _).heap.size = _; simp [hD]
 have t1 : Tur [] w W1 := (Tur.alloc [] w _).trans (Tur.alloc [] _ _) (Fre.refl _ _)
 have l1 : W1.heap[D + 1]? = some (rec_ .ready none) := by
  have := World.alloc_heap_new (w.alloc (.deferred (some []))) (rec_ .ready none)
  rwa [World.size_alloc, hD] at this
 have d1 : W1.heap[D]? = some (.deferred (some [])) := by
  have h1 := World.alloc_heap_new w (.deferred (some []))
  rw [hD] at h1
  exact (Below.heap_alloc _ _ _ (by simp [hD])).trans h1
 let J : List α → List Nat → World → Prop := fun pre Y W => ∃ X, Y = (D + 1) :: X ∧ I pre X W ∧ D + 1 ∉ X ∧ D ∉ X ∧ W.heap[D + 1]? = some (rec_ .ready none) ∧ W.heap[D]? = some (.deferred (some []))
 let Jx : List α → List Nat → World → Prop := fun pre Y W => ∃ X c, Y = (D + 1) :: X ∧ Ix c pre X W ∧ D ∉ X ∧ D + 1 ∉ X ∧ W.heap[D + 1]? = some (rec_ .done (some c)) ∧ W.heap[D]? = some (.deferred (some []))
 have lt : ∀ {W : World} {k : Nat} {o : Obj}, W.heap[k]? = some o → k < W.heap.size := fun h => (Array.getElem?_eq_some_iff.1 h).1
 have hX0l := hIl _ _ _ h0
 refine ⟨D + 1, [{ target := .collected D, args := #[] }], W1, { target := .fn (.func gf) lb, args := #[.func (.yield (D + 1)) #[] #[]] }, W1, gf, #[.func (.yield (D + 1)) #[] #[]] ++ lb, W1, ?_, ?_, ?_, ?_, (fun h => (by rw [hd] at h; cases h)), ?_⟩
 ·have := run_enterLoop_outer (P := P) (w := w) fn a.tmps ps assign body
  rw [hD] at this
  exact this
 ·simp only [resolve, hg]
  simp [go_sem]
 ·intro f' hf'
  simp [Target.leads] at hf'
  subst hf'
  exact hFg
 ·simp [invoke, go_sem, eg]
 refine (hseq (n - 1) (D + 1) J Jx W1 ((D + 1) :: X0) (by omega) ⟨t1.os.trans hO0.1, t1.tape.trans hO0.2.1, t1.output.trans hO0.2.2⟩ (fun b hb => (t1.block b (by have := hK1 b hb; omega) (by simp)).trans (hK0 b hb)) ?_ ?_ ?_ ?_ ?_ ⟨X0, rfl, hI _ _ _ _ [] h0 t1 (by simp), (fun h => (by have := hX0l _ h; omega)), (fun h => (by have := hX0l _ h; omega)), l1, d1⟩).mono ?_
 ·intro b hb hk
  rcases List.mem_cons.1 hb with rfl | hb
  ·have := hK1 _ hk; omega
  ·exact hX0 b hb hk
 ·rintro pre Y W W' Z ⟨X, rfl, hi, h1, h2, h3, h4⟩ ht hz
  have hz' : ∀ b ∈ Z, (D + 2 ≤ b ∨ M b) ∧ b ∉ X := fun b hb => ⟨by rw [← s1]; exact (hz b hb).1, fun hx => (hz b hb).2 (List.mem_cons_of_mem _ hx)⟩
  have hn : ∀ b ∈ Z, b ≠ D ∧ b ≠ D + 1 := fun b hb => by
   rcases (hz' b hb).1 with h | h
   ·omega
   ·have := hM b h; omega
  exact ⟨X, rfl, hI _ _ _ _ Z hi ht (fun b hb => ⟨(hz' b hb).1.imp (fun h => by omega) id, (hz' b hb).2⟩), h1, h2, (ht.block _ (lt h3) fun h => (hn _ h).2 rfl).trans h3, (ht.block _ (lt h4) fun h => (hn _ h).1 rfl).trans h4⟩
 ·rintro pre Y W W' Z ⟨X, c, rfl, hi, h1, h2, h3, h4⟩ ht hz
  have hz' : ∀ b ∈ Z, (D + 2 ≤ b ∨ M b) ∧ b ∉ X := fun b hb => ⟨by rw [← s1]; exact (hz b hb).1, fun hx => (hz b hb).2 (List.mem_cons_of_mem _ hx)⟩
  have hn : ∀ b ∈ Z, b ≠ D ∧ b ≠ D + 1 := fun b hb => by
   rcases (hz' b hb).1 with h | h
   ·omega
   ·have := hM b h; omega
  exact ⟨X, c, rfl, hIx c _ _ _ _ Z hi ht (fun b hb => ⟨(hz' b hb).1.imp (fun h => by omega) id, (hz' b hb).2⟩), h1, h2, (ht.block _ (lt h3) fun h => (hn _ h).2 rfl).trans h3, (ht.block _ (lt h4) fun h => (hn _ h).1 rfl).trans h4⟩
 ·rintro pre Y W ⟨X, rfl, hi, h1, h2, h3, h4⟩ b hb
  rcases List.mem_cons.1 hb with rfl | hb
  ·exact lt h3
  ·exact hIl _ _ _ hi b hb
 ·rintro m pre x Y W ⟨X, rfl, hi, h1, h2, h3, h4⟩ hpre
  have tn := hT1 x W
  have h3n : (w₁ x W).heap[D + 1]? = some (rec_ .ready none) := (tn.block _ (lt h3) (by simp)).trans h3
  refine ⟨fn, _, assign, body, run_yield (P := P) (args := encs x) h3 (hps x), roundIn_of_wpIn hfn (hassign m _ x W _ ⟨_, run_beginRound h3n rfl, ?_⟩)⟩
  let W2 := (w₁ x W).putObj (D + 1) (rec_ .busy none)
  have t2' : Tur [D + 1] (w₁ x W) W2 := Tur.putObj _ (by simp) _
  have t2 : Tur [D + 1] W W2 := (tn.sub (by simp)).trans t2' (Fre.refl _ _)
  have h32 : W2.heap[D + 1]? = some (rec_ .busy none) := World.putObj_heap_same (lt h3n)
  have h42 : W2.heap[D]? = some (.deferred (some [])) := (t2.block D (lt h4) (by simp)).trans h4
  have s2 : W.heap.size ≤ W2.heap.size := t2.size
  have hone : ∀ b ∈ [D + 1], (D ≤ b ∨ M b) ∧ b ∉ X := fun b hb => by rw [List.mem_singleton.1 hb]; exact ⟨.inl (Nat.le_succ _), h1⟩
  refine wpIn_mono (hbody m (D + 1) (D + 1) pre x X W W2 (lt h3) t2' (hI _ _ _ _ _ hi t2 hone) (hC _ _ _ _ hpre t2 (Nat.le_succ _) (rec2_of h3 (fun c e f => by simp [rec_])))) ?_
  -- behind the body: the record is closed, by whatever way it was left
  have fin : ∀ (jump : Option Code) (X' : List Nat) (W3 : World), Tur X W2 W3 → Fre X X' W2 →
   ∃ W4, (Instr.endRound (D + 1) jump).run P W3 = .ok (.bool jump.isNone) W4 ∧ W4.heap[D + 1]? = some (rec_ (if jump.isNone then .ready else .done) jump) ∧ W4.heap[D]? = some (.deferred (some [])) ∧ Tur [D + 1] W3 W4 ∧ D + 1 ∉ X' ∧ D ∉ X' ∧ Tur ((D + 1) :: X) W W4 ∧ Fre ((D + 1) :: X) ((D + 1) :: X') W := by
   intro jump X' W3 ht hf
   have h33 : W3.heap[D + 1]? = some (rec_ .busy none) := (ht.block _ (lt h32) h1).trans h32
   have h43 : W3.heap[D]? = some (.deferred (some [])) := (ht.block _ (lt h42) h2).trans h42
   have t4 : Tur [D + 1] W3 (W3.putObj (D + 1) (rec_ (if jump.isNone then .ready else .done) jump)) := Tur.putObj W3 (by simp) _
   have sub1 : ∀ b ∈ [D + 1], b ∈ (D + 1) :: X := fun b hb => by rw [List.mem_singleton.1 hb]; exact List.mem_cons_self
   refine ⟨_, run_endRound (P := P) jump h33, World.putObj_heap_same (lt h33), (t4.block D (lt h43) (by simp)).trans h43, t4, fun h => ?_, fun h => ?_, ?_, fun b hb => ?_⟩
   ·rcases hf _ h with h | h
    ·exact h1 h
    ·have := lt h32; omega
   ·rcases hf _ h with h | h
    ·exact h2 h
    ·have := lt h42; omega
   ·exact ((t2.sub sub1).trans (ht.sub fun b hb => List.mem_cons_of_mem _ hb) (Fre.refl _ _)).trans (t4.sub sub1) (Fre.refl _ _)
   ·rcases List.mem_cons.1 hb with rfl | hb
    ·exact .inl List.mem_cons_self
    ·rcases hf _ hb with h | h
     ·exact .inl (List.mem_cons_of_mem _ h)
     ·exact .inr (by omega)
  have one' : ∀ {X' : List Nat}, D + 1 ∉ X' → ∀ b ∈ [D + 1], (D ≤ b ∨ M b) ∧ b ∉ X' := fun h b hb => by rw [List.mem_singleton.1 hb]; exact ⟨.inl (Nat.le_succ _), h⟩
  rintro e a3 W3 hp
  cases e with
  | normal =>
    obtain ⟨X', hi3, ht, hf⟩ := hp
    obtain ⟨W4, hr, h34, h44, t4, n1, n2, tt, ff⟩ := fin none X' W3 ht hf
    exact ⟨_, W4, hr, _, .inl ⟨rfl, X', rfl, hI _ _ _ _ _ hi3 t4 (one' n1), n1, n2, h34, h44⟩, tt, ff⟩
  | ret =>
    obtain ⟨X', hi3, ht, hf⟩ := hp
    obtain ⟨W4, hr, h34, h44, t4, n1, n2, tt, ff⟩ := fin (some .ret) X' W3 ht hf
    exact ⟨_, W4, hr, _, .inr ⟨rfl, X', .ret, rfl, hIx _ _ _ _ _ _ hi3 t4 (one' n1), n2, n1, h34, h44⟩, tt, ff⟩
  | exit id =>
    obtain ⟨X', hi3, ht, hf⟩ := hp
    obtain ⟨W4, hr, h34, h44, t4, n1, n2, tt, ff⟩ := fin (some (.exit id)) X' W3 ht hf
    exact ⟨_, W4, hr, _, .inr ⟨rfl, X', .exit id, rfl, hIx _ _ _ _ _ _ hi3 t4 (one' n1), n2, n1, h34, h44⟩, tt, ff⟩
  | goto t =>
    obtain ⟨X', hi3, ht, hf⟩ := hp
    obtain ⟨W4, hr, h34, h44, t4, n1, n2, tt, ff⟩ := fin (some (.goto t)) X' W3 ht hf
    exact ⟨_, W4, hr, _, .inr ⟨rfl, X', .goto t, rfl, hIx _ _ _ _ _ _ hi3 t4 (one' n1), n2, n1, h34, h44⟩, tt, ff⟩
  | panic ch => exact hp.elim
  | outgrown => exact hp.elim
 ·rintro e W2 ⟨⟨v, rfl⟩, Y, (⟨xs, hfin, X, rfl, hi, h1, h2, h3, h4⟩ | ⟨pre, X, c, rfl, hi, h2, h1, h3, h4⟩)⟩
  ·have t3 : Tur [D + 1] W2 (W2.putObj (D + 1) (rec_ .exhausted none)) := Tur.putObj W2 (by simp) _
   exact ⟨none, _, run_endLoop (P := P) h3 (by simp), hdone D xs X _ (Nat.le_refl _) (hF _ _ _ _ hfin t3 (Nat.le_succ _) (rec2_of h3 (fun c e f => by simp [rec_]))) (hI _ _ _ _ _ hi t3 fun b hb => by rw [List.mem_singleton.1 hb]; exact ⟨.inl (Nat.le_succ _), h1⟩) h2 ((t3.block D (lt h4) (by simp)).trans h4)⟩
  ·have t3 : Tur [D + 1] W2 (W2.putObj (D + 1) (rec_ .exhausted (some c))) := Tur.putObj W2 (by simp) _
   exact ⟨some c, _, run_endLoop (P := P) h3 (by simp), hstop D c pre X _ (Nat.le_refl _) (hIx c _ _ _ _ _ hi t3 fun b hb => by rw [List.mem_singleton.1 hb]; exact ⟨.inl (Nat.le_succ _), h1⟩) h2 ((t3.block D (lt h4) (by simp)).trans h4)⟩
end
end Go.Proofs.YtlnbhlgkehenpaaGreatDoor
namespace Go.Proofs.YtlnbhlgkehenpaaGreatDoor
open Go.RowKit Go.Shelf
set_option maxRecDepth 100000
attribute [local go_sem] Oper.semAt_some
theorem moments_any (w : World) (A : Option Addr) (n c : Nat) (k : Int) (f tb : Nat) :
 Calls Tryz.prog 16 #[.slice A n c, .int .i64 k, .func (.func f) #[] #[.pointer (some ⟨tb, 0, none⟩)]] w fun e w' => e = .returned (.func (.func 31) #[] #[.pointer (some ⟨w.heap.size, 0, none⟩), .pointer (some ⟨w.heap.size + 1, 0, none⟩), .pointer (some ⟨w.heap.size + 2, 0, none⟩)]) ∧
  w' = ((w.alloc (.cells #[.slice A n c] 22)).alloc (.cells #[.int .i64 k] 3)).alloc (.cells #[.func (.func f) #[] #[.pointer (some ⟨tb, 0, none⟩)]] 58) := by
 go_enter Tryz.func16, Tryz.ntmps16
 go_wp2_with fail
 go_ret
 exact ⟨rfl, rfl⟩
theorem given_any (w : World) (A : Option Addr) (n c : Nat) :
 Calls Tryz.prog 17 #[.slice A n c] w fun e w' => e = .returned (.func (.func 33) #[] #[.pointer (some ⟨w.heap.size, 0, none⟩)]) ∧ w' = w.alloc (.cells #[.slice A n c] 23) := by
 go_enter Tryz.func17, Tryz.ntmps17
 go_wp2_with fail
 go_ret
 exact ⟨rfl, rfl⟩
theorem standing_any (w : World) (g : Nat) :
 Calls Tryz.prog 46 #[.pointer (some ⟨g, 0, none⟩)] w fun e w' => e = .returned (.func (.func 75) #[] #[.pointer (some ⟨w.heap.size, 0, none⟩)]) ∧ w' = w.alloc (.cells #[.pointer (some ⟨g, 0, none⟩)] 95) := by
 go_enter Tryz.func46, Tryz.ntmps46
 go_wp2_with fail
 go_ret
 exact ⟨rfl, rfl⟩
set_option maxHeartbeats 2000000 in
theorem it0_tells (w : World) (lb mb tb : Nat) (A : Option Addr) (n c : Nat) (hl : Has w lb 22 #[.slice A n c]) (hm : Has w mb 3 #[.int .i64 0]) :
 Tells Fence.wide Tryz.prog 31 #[.pointer (some ⟨lb, 0, none⟩), .pointer (some ⟨mb, 0, none⟩), .pointer (some ⟨tb, 0, none⟩)] (fun x : Empty => x.elim) (fun b => b = lb ∨ b = mb) [] w := by
 intro m l J Jx W X hs hK hX hJ hJx hJl hR h0
 have hlW : Has W lb 22 #[.slice A n c] := (hK lb (.inl rfl)).trans hl
 have hmW : Has W mb 3 #[.int .i64 0] := (hK mb (.inr rfl)).trans hm
 have cl := hlW.cell 0
 have cm := hmW.cell 0
 have hro : Fence.wide.round = none := rfl
 refine callsIn_of_wp_marks Tryz.func31 rfl trivial ?_ rfl
 simp only [Tryz.ntmps31, List.size_toArray, List.length_cons, List.length_nil, Nat.reduceAdd, Nat.reduceSub, Array.replicate_succ, Array.replicate_zero, List.push_toArray, List.append_toArray, List.nil_append, List.cons_append]
 gi_wp2
 gi_loopw [12] (fun i wx => i = .int .i64 0 ∧ wx = W) (fun _ _ => 0)
 case atStart => exact ⟨rfl, rfl⟩
 case round =>
  obtain ⟨rfl, rfl⟩ := hrel
  gi_wp2
  refine ⟨_, results_none rfl _ _ _, ⟨_, rfl⟩, X, .inl ?_⟩
  exact h0
end Go.Proofs.YtlnbhlgkehenpaaGreatDoor
namespace Go.Proofs.YtlnbhlgkehenpaaGreatDoor
open Go.RowKit Dg

def sb (s : ByteArray) : List Nat := s.data.toList.map UInt8.toNat
theorem sb_length (s : ByteArray) : (sb s).length = s.size := by
 unfold sb; rw [List.length_map, Array.length_toList]; rfl
def bs (l : List Nat) : ByteArray := ⟨(l.map UInt8.ofNat).toArray⟩
theorem bs_size (l : List Nat) : (bs l).size = l.length := by simp [bs, ByteArray.size]
theorem sb_bs (l : List Nat) (h : ∀ x ∈ l, x < 256) : sb (bs l) = l := by
 simp only [sb, bs, List.map_map]
 conv => rhs; rw [← List.map_id l]
 apply List.map_congr_left
 intro x hx
 have := h x hx
 simp
 omega
theorem bs_sb (s : ByteArray) : bs (sb s) = s := by
 simp only [sb, bs, List.map_map]
 have : (UInt8.ofNat ∘ UInt8.toNat) = id := by funext x; simp
 rw [this, List.map_id]
theorem sb_byte (s : ByteArray) : ∀ x ∈ sb s, x < 256 := by
 intro x hx
 obtain ⟨y, _, rfl⟩ := List.mem_map.1 hx
 exact y.toNat_lt
theorem bs_toList (l : List Nat) : (bs l).toList = l.map UInt8.ofNat := ByteArray.toList_mk _
theorem fold_bs (l : List Nat) : ∀ s : ByteArray, (l.map (Int.ofNat)).foldl (fun r n => r.push (UInt8.ofNat n.toNat)) s = ⟨s.data ++ (l.map UInt8.ofNat).toArray⟩ := by
 induction l with
 | nil => intro s; simp
 | cons x l ih =>
   intro s
   rw [List.map_cons, List.foldl_cons, ih]
   simp [ByteArray.push]

theorem conv_rd (w : World) (A : Option Addr) (l : List Nat) (c : Nat) (h : Rd w A l) :
 (convert 70 9 (.slice A l.length c)).run Tryz.prog w = .ok (.string (bs l)) w := by
 rw [run_convert_bytes_string w 70 9 5 A l.length c Tryz.underlying70 Tryz.underlying5 Tryz.underlying9]
 rcases A with _ | a
 ·have hl : l = [] := by
   rcases l with _ | ⟨x, l⟩
   ·rfl
   ·obtain ⟨b, off, e, _⟩ := h (by simp)
    cases e
  subst hl
  rfl
 ·have hf := firstCells_rd (P := Tryz.prog) w (some a) l c h
  simp only [Builtin.firstCells, Nat.mul_one] at hf
  have hm : l.map bv = (l.map Int.ofNat).map (Value.int .u8) := by rw [List.map_map]; rfl
  rw [hm] at hf
  rw [run_bytesToString w a l.length c (l.map Int.ofNat) hf, fold_bs]
  simp [bs]
theorem conv_len (w : World) (A : Option Addr) (l : List Nat) (n c : Nat) (hn : l.length = n) (h : Rd w A l) :
 (convert 70 9 (.slice A n c)).run Tryz.prog w = .ok (.string (bs l)) w := by
 rw [← hn]; exact conv_rd w A l c h
def Str (W : World) (l : List Nat) (A : Option Addr) (n : Nat) (w' : World) : Prop := l.length = n ∧ Rd w' A l ∧ Below W.heap.size W w'
theorem Str.conv {W w' : World} {l : List Nat} {A : Option Addr} {n : Nat} (c : Nat) (h : Str W l A n w') : Sem.run Tryz.prog (convert 70 9 (.slice A n c)) w' = .ok (.string (bs l)) w' := conv_len w' A l n c h.1 h.2.1
theorem Str.later {W w' w2 : World} {l : List Nat} {A : Option Addr} {n : Nat} (h : Str W l A n w') (hb : Below w'.heap.size w' w2) : Str W l A n w2 := ⟨h.1, h.2.1.below hb, h.2.2.trans (hb.mono h.2.2.size)⟩
set_option maxRecDepth 100000
structure Wk where
 t : ByteArray
 d : Bool
 k : ByteArray
def WRow (w : World) (A : Option Addr) (T : List Wk) : Prop :=
 T ≠ [] → ∃ b off, A = some ⟨b, off, none⟩ ∧ ∀ i (h : i < T.length), w.cell? ⟨b, off + i * 3, none⟩ = some (.string T[i].t) ∧ w.cell? ⟨b, off + i * 3 + 1, none⟩ = some (.bool T[i].d) ∧ w.cell? ⟨b, off + i * 3 + 2, none⟩ = some (.string T[i].k)
theorem WRow.below {w w' : World} {A : Option Addr} {T : List Wk} (h : WRow w A T) (hb : Below w.heap.size w w') : WRow w' A T := fun hne => by
 obtain ⟨b, off, e, hc⟩ := h hne
 have k := fun (a : Addr) (v : Value) (h : w.cell? a = some v) => (hb.cell (World.block_lt_of_cell? _ _ h)).trans h
 exact ⟨b, off, e, fun i hi => ⟨k _ _ (hc i hi).1, k _ _ (hc i hi).2.1, k _ _ (hc i hi).2.2⟩⟩
theorem WRow.nil (w : World) (A : Option Addr) : WRow w A [] := fun h => absurd rfl h
def Wk.row (x : Wk) : List Value := [.string x.t, .bool x.d, .string x.k]
theorem infoW : (Tryz.prog.info? 120).map (fun i => (i.zero, i.size, i.bytes)) = some (some (.agg #[.string ⟨#[]⟩, .bool false, .string ⟨#[]⟩]), 3, 40) := by kernel_rfl
def OwnW (B : Nat) (w : World) (v : Value) (L : List Wk) : Prop := w.ownsRow B 120 3 v L.length (L.flatMap Wk.row)
theorem ownW_nil (B : Nat) (w : World) : OwnW B w (.slice none 0 0) [] := World.ownsRow_nil _ _ _ _
theorem OwnW.below {B : Nat} {w w' : World} {v : Value} {L : List Wk} (h : OwnW B w v L) (hb : Below w.heap.size w w') : OwnW B w' v L := by
 rcases h.2 with ⟨hv, hn⟩ | ⟨g, cap, cur, hv, hg, hh, hc, hcm, hsz, ht⟩
 ·exact ⟨h.1, .inl ⟨hv, hn⟩⟩
 ·exact ⟨h.1, .inr ⟨g, cap, cur, hv, hg, Has.below (t := 120) (cs := cur) hh hb (Has.lt (t := 120) (cs := cur) hh), hc, hcm, hsz, ht⟩⟩
theorem wflat_len (L : List Wk) : (L.flatMap Wk.row).length = L.length * 3 := by
 induction L with
 | nil => rfl
 | cons x L ih => rw [List.flatMap_cons, List.length_append, ih]; simp [Wk.row]; omega
theorem wflat_get (L : List Wk) (i j : Nat) (h : i < L.length) (hj : j < 3) : (L.flatMap Wk.row)[i * 3 + j]? = L[i].row[j]? := by
 induction L generalizing i with
 | nil => simp at h
 | cons x L ih =>
   rw [List.flatMap_cons]
   rcases i with _ | i
   ·rw [List.getElem?_append_left (by simp [Wk.row]; omega)]
    simp
   ·rw [List.getElem?_append_right (by simp [Wk.row]; omega)]
    have e : (i + 1) * 3 + j - x.row.length = i * 3 + j := by simp [Wk.row]; omega
    rw [e, ih i (by simpa using h)]
    simp
theorem ownW_row {B : Nat} {w : World} {v : Value} {L : List Wk} (h : OwnW B w v L) : ∃ A c, v = .slice A L.length c ∧ L.length ≤ c ∧ c ≤ maxLen ∧ WRow w A L ∧ (A = none → c = 0) := by
 rcases h.2 with ⟨hv, hn⟩ | ⟨g, cap, cur, hv, _, hh, hc, hcm, hsz, ht⟩
 ·obtain rfl := List.eq_nil_of_length_eq_zero hn
  exact ⟨none, 0, hv, Nat.le_refl _, Nat.zero_le _, fun h => absurd rfl h, fun _ => rfl⟩
 ·refine ⟨_, _, hv, hc, hcm, fun _ => ⟨g, 0, rfl, fun i hi => ?_⟩, fun e => by cases e⟩
  have hq : ∀ j, j < 3 → w.cell? ⟨g, 0 + (i * 3 + j), none⟩ = L[i].row[j]? := fun j hj => by
   rw [Nat.zero_add, Has.cell (t := 120) (cs := cur) hh, ← wflat_get L i j hi hj, ← ht, List.getElem?_take, if_pos (by omega)]
   simp
  have q0 := hq 0 (by omega)
  have q1 := hq 1 (by omega)
  have q2 := hq 2 (by omega)
  exact ⟨q0, q1, q2⟩
theorem appW (w : World) (g : Nat) (hg0 : g = w.heap.size) (B : Nat) (v : Value) (L : List Wk) (x : Wk) (h : OwnW B w v L) (hB : B ≤ w.heap.size) (hl : L.length ≤ 1000) :
 ∃ R W', (Builtin.append_ #[73, 73] 73 #[v, .slice (some ⟨g, 0, none⟩) 1 1]).run Tryz.prog (w.alloc (.cells #[.string x.t, .bool x.d, .string x.k] 120)) = .ok R W' ∧ OwnW B W' R (L ++ [x]) ∧ Below B w W' := by
 subst hg0
 obtain ⟨i0, hi, hz0, hz1, hz2⟩ := info_parts infoW
 obtain ⟨R, W', hrun, hown, hg, _⟩ := run_append_own (P := Tryz.prog) (w.alloc (.cells x.row.toArray 120)) B 73 73 120 i0 _ 3 40 Tryz.underlying73 hi hz0 hz1 hz2 rfl (by decide) v L.length (L.flatMap Wk.row) (h.alloc _)
  ⟨w.heap.size, 0, none⟩ 1 1 x.row rfl (fun j u hj => by
    have := (Has.new w 120 x.row.toArray).cell j
    rw [List.getElem?_toArray] at this
    rw [Addr.add_lit, Nat.zero_add]
    exact this.trans hj) (fun u hu => by simp [Wk.row] at hu; rcases hu with rfl | rfl | rfl <;> rfl) (by unfold maxLen; omega) (by omega) (by simp; omega)
 refine ⟨R, W', hrun, ?_, ?_⟩
 ·unfold OwnW; rw [List.flatMap_append, List.length_append]; simpa using hown
 ·exact ((Below.refl B w).alloc hB _).grown hg (by simp; omega) fun k hk => (World.ownsRow.lt h k hk).1
theorem ownW_open {B : Nat} {w : World} {v : Value} {L : List Wk} (h : OwnW B w v L) : ∃ A n c, v = .slice A n c ∧ Hid (L.length = n) ∧ n ≤ c ∧ c ≤ maxLen ∧ Hid (WRow w A L) ∧ Hid (A = none → c = 0) := by
 obtain ⟨A, c, e, h1, h2, h3, h4⟩ := ownW_row h
 exact ⟨A, L.length, c, e, rfl, h1, h2, h3, h4⟩
theorem wflat_set (L : List Wk) (i j : Nat) (u : Value) (x : Wk) (hi : i < L.length) (hj : j < 3) (hx : x.row = L[i].row.set j u) : (L.flatMap Wk.row).set (i * 3 + j) u = (L.set i x).flatMap Wk.row := by
 induction L generalizing i with
 | nil => simp at hi
 | cons y L ih =>
   rcases i with _ | i
   ·simp only [zC] at hx
    rw [List.flatMap_cons, List.set_cons_zero, List.flatMap_cons, hx, Nat.zero_mul, Nat.zero_add]
    rw [List.set_append_left _ _ (by simp [Wk.row]; omega)]
   ·simp only [zB] at hx
    rw [List.flatMap_cons, List.set_cons_succ, List.flatMap_cons, ← ih i (by simpa using hi) hx]
    rw [List.set_append_right _ _ (by simp [Wk.row]; omega)]
    have e : (i + 1) * 3 + j - y.row.length = i * 3 + j := by simp [Wk.row]; omega
    rw [e]
theorem ownW_put {B : Nat} {w : World} {v : Value} {L : List Wk} (h : OwnW B w v L) (i : Nat) (hi : i < L.length) (j : Nat) (hj : j < 3) (u : Value) (x : Wk) (hx : x.row = L[i].row.set j u) :
 ∃ g c, v = .slice (some ⟨g, 0, none⟩) L.length c ∧ B ≤ g ∧ L.length ≤ c ∧ w.frozen? ⟨g, i * 3 + j, none⟩ = false ∧ w.cell? ⟨g, i * 3 + j, none⟩ = L[i].row[j]? ∧ OwnW B (w.setCell ⟨g, i * 3 + j, none⟩ u) v (L.set i x) := by
 rcases h.2 with ⟨hv, hn⟩ | ⟨g, cap, cur, hv, hg, hh, hc, hcm, hsz, ht⟩
 ·omega
 ·refine ⟨g, cap, hv, hg, hc, Has.free (t := 120) (cs := cur) hh _, ?_, ?_⟩
  ·rw [Has.cell (t := 120) (cs := cur) hh, ← wflat_get L i j hi hj, ← ht, List.getElem?_take, if_pos (by omega)]
   simp
  ·refine ⟨by rw [wflat_len], .inr ⟨g, cap, cur.setIfInBounds (i * 3 + j) u, by rw [List.length_set]; exact hv, hg, Has.put (t := 120) (cs := cur) hh (i * 3 + j) u, by rw [List.length_set]; exact hc, hcm, by simpa using hsz, ?_⟩⟩
   rw [List.length_set, ← wflat_set L i j u x hi hj hx, ← ht, Array.toList_setIfInBounds, List.take_set]
theorem WRow.drop {w : World} {b off : Nat} {L : List Wk} (h : WRow w (some ⟨b, off, none⟩) L) (k : Nat) : WRow w (some ⟨b, off + k * 3, none⟩) (L.drop k) := fun hl => by
 obtain ⟨b', off', e, hc⟩ := h (by rintro rfl; simp at hl)
 injection e with e
 injection e with e1 e2
 subst e1 e2
 refine ⟨b, off + k * 3, rfl, fun i hi => ?_⟩
 rw [List.length_drop] at hi
 obtain ⟨h0, h1, h2⟩ := hc (k + i) (by omega)
 rw [List.getElem_drop]
 have e : off + (k + i) * 3 = off + k * 3 + i * 3 := by omega
 rw [e] at h0 h1 h2
 exact ⟨h0, h1, h2⟩
theorem WRow.take {w : World} {A : Option Addr} {L : List Wk} (h : WRow w A L) (k : Nat) : WRow w A (L.take k) := fun hl => by
 obtain ⟨b, off, e, hc⟩ := h (by rintro rfl; simp at hl)
 refine ⟨b, off, e, fun i hi => ?_⟩
 rw [List.length_take] at hi
 rw [List.getElem_take]
 exact hc i (by omega)
theorem WRow.one (w : World) (x : Wk) : WRow (w.alloc (.cells #[.string x.t, .bool x.d, .string x.k] 120)) (some ⟨w.heap.size, 0, none⟩) [x] := fun _ => ⟨w.heap.size, 0, rfl, fun i hi => by
 have hh := Has.new w 120 #[.string x.t, .bool x.d, .string x.k]
 obtain rfl : i = 0 := by simpa using hi
 exact ⟨hh.cell 0, hh.cell 1, hh.cell 2⟩⟩
theorem OwnW.drew {B : Nat} {w : World} {v : Value} {L : List Wk} (h : OwnW B w v L) : OwnW B w.drew v L := h.below ((Below.refl _ w).drew)
theorem OwnW.off0 {B : Nat} {w : World} {g off n c : Nat} {L : List Wk} (h : OwnW B w (.slice (some ⟨g, off, none⟩) n c) L) : off = 0 := by
 rcases h.2 with ⟨hv, _⟩ | ⟨g2, cap, cur, hv, _⟩
 ·cases hv
 ·injection hv with e1 _ _
  injection e1 with e1
  injection e1
theorem ownW_put2 {B : Nat} {w : World} {g n c : Nat} {L : List Wk} (h : OwnW B w (.slice (some ⟨g, 0, none⟩) n c) L) (i : Nat) (hi : i < L.length) (j : Nat) (hj : j < 3) (u : Value) (x : Wk) (hx : x.row = L[i].row.set j u) :
 B ≤ g ∧ w.frozen? ⟨g, i * 3 + j, none⟩ = false ∧ OwnW B (w.setCell ⟨g, i * 3 + j, none⟩ u) (.slice (some ⟨g, 0, none⟩) n c) (L.set i x) := by
 obtain ⟨g2, c2, hv, hB, _, hf, _, ho⟩ := ownW_put h i hi j hj u x hx
 injection hv with e1 e2 e3
 injection e1 with e1
 injection e1 with e1
 subst e1
 exact ⟨hB, hf, ho⟩
theorem OwnW.row {B : Nat} {w : World} {v : Value} {L : List Wk} (h : OwnW B w v L) {A : Option Addr} {n c : Nat} (hv : v = .slice A n c) : WRow w A L := by
 obtain ⟨A2, c2, e, _, _, hr, _⟩ := ownW_row h
 rw [hv] at e
 injection e with e1 _ _
 rw [e1]; exact hr
theorem ownW_down {B B' : Nat} {w : World} {v : Value} {l : List Wk} (h : OwnW B w v l) (hb : B' ≤ B) : OwnW B' w v l := by
 obtain ⟨h1, h2⟩ := h
 refine ⟨h1, ?_⟩
 rcases h2 with h2 | ⟨g, cap, cur, e, hg, r⟩
 ·exact .inl h2
 ·exact .inr ⟨g, cap, cur, e, Nat.le_trans hb hg, r⟩
theorem OwnW.far {B : Nat} {w : World} {v : Value} {L : List Wk} (h : OwnW B w v L) {p : Addr} (hp : p.block < B) (u : Value) : OwnW B (w.setCell p u) v L := by
 rcases h.2 with ⟨hv, hn⟩ | ⟨g, cap, cur, hv, hg, hh, hc, hcm, hsz, ht⟩
 ·exact ⟨h.1, .inl ⟨hv, hn⟩⟩
 ·exact ⟨h.1, .inr ⟨g, cap, cur, hv, hg, Has.far (t := 120) (cs := cur) hh (by omega) u, hc, hcm, hsz, ht⟩⟩
theorem partI (xs : Array Value) (i : Nat) (v : Value) (h : xs[i]? = some v) (w : World) : (part 3 xs i).run Tryz.prog w = .ok v w := by
 unfold part
 simp [Sem.run_bind, Tryz.isAgg3, h]
theorem partS (xs : Array Value) (i : Nat) (v : Value) (h : xs[i]? = some v) (w : World) : (part 9 xs i).run Tryz.prog w = .ok v w := by
 unfold part
 simp [Sem.run_bind, Tryz.isAgg9, h]
theorem eqV (k n k' n' : Int) (s s' : ByteArray) (w : World) : (Op.equalIn 10000 115 (.agg #[.int .i64 k, .int .i64 n, .string s]) (.agg #[.int .i64 k', .int .i64 n', .string s'])).run Tryz.prog w = .ok (k == k' && n == n' && s.toList == s'.toList) w := by
 have e := fun (a b : Int) (w : World) => run_equalIn_int (P := Tryz.prog) w 9998 3 .i64 .i64 a b Tryz.underlying3
 have es := fun (a b : ByteArray) (w : World) => run_equalIn_string (P := Tryz.prog) w 9998 9 a b Tryz.underlying9
 have p0 := fun (x0 x1 x2 : Value) => partI #[x0, x1, x2] 0 x0 rfl
 have p1 := fun (x0 x1 x2 : Value) => partI #[x0, x1, x2] 1 x1 rfl
 have p2 := fun (x0 x1 x2 : Value) => partS #[x0, x1, x2] 2 x2 rfl
 rw [show (10000 : Nat) = 9999 + 1 by rfl, run_equalIn_agg w 9999 115 _ _ (by kernel_rfl) (by kernel_rfl)]
 unfold Program.fieldsOf
 rw [Tryz.underlying115]
 by_cases h0 : k = k' <;> by_cases h1 : n = n' <;> by_cases h2 : s.toList = s'.toList <;>
 simp [Op.eqFields, Sem.run_bind, Result.andThen, p0, p1, p2, e, es, h0, h1, h2]
def short (n : Int) (s : ByteArray) : Bool := n == 0 && decide (s.size ≤ 4096)
set_option maxHeartbeats 400000 in
theorem isText_any (k n : Int) (s : ByteArray) (w : World) (hs : s.size ≤ 9223372036854775807) :
 Calls Tryz.prog 136 #[.agg #[.int .i64 k, .int .i64 n, .string s]] w fun e w' => e = .returned (.bool (short n s)) ∧ Hid (Below w.heap.size w w') := by
 have eq := eqV
 have HB := fun n => Lib.hid ((Below.refl w.heap.size w).alloc (Nat.le_refl _) (.cells #[.int .i64 k, .int .i64 n, .string s] 115))
 go_enter Tryz.func136, Tryz.ntmps136
 go_wp2_with fail
 ·have h : n = 0 := by assumption
  go_ret
  exact ⟨by simp [short, h]; omega, HB 0⟩
 ·have h : ¬ n = 0 := by assumption
  go_ret
  exact ⟨by simp [short, h], HB n⟩
def mayF (k n : Int) (s : ByteArray) : Bool :=
 if k = 0 then n == 0 && s.toList.isEmpty else if k = 1 then s.toList.isEmpty && (n == 0 || n == 1) else if k = 2 then s.toList.isEmpty else if k = 3 then short n s && Lib.validD s.data.toList else if k = 4 then short n s else false
def Tabs (w : World) : Prop := Lib.Utf8Tabs (Tryz.laysValid_ren.g 3) (Tryz.laysValid_ren.g 4) w
theorem Tabs.below {w w' : World} (h : Tabs w) (hb : Below w.heap.size w w') : Tabs w' := Utf8Tabs_below h hb
set_option maxHeartbeats 400000 in
theorem may_any (k n : Int) (s : ByteArray) (w : World) (hs : s.size ≤ 9223372036854775807) (hT : Tabs w) :
 Calls Tryz.prog 121 #[.agg #[.int .i64 k, .int .i64 n, .string s]] w fun e w' => e = .returned (.bool (mayF k n s)) ∧ Hid (Below w.heap.size w w') := by
 have eq := eqV
 have HB := fun k n s => Lib.hid ((Below.refl w.heap.size w).alloc (Nat.le_refl _) (.cells #[.int .i64 k, .int .i64 n, .string s] 115))
 by_cases h0 : k = 0
 ·subst h0
  go_enter Tryz.func121, Tryz.ntmps121
  go_wp2_with fail
  go_ret
  exact ⟨by simp [mayF], HB 0 n s⟩
 by_cases h1 : k = 1
 ·subst h1
  by_cases hn : n = 0
  ·subst hn
   cases he : s.toList.isEmpty
   ·go_enter Tryz.func121, Tryz.ntmps121
    go_wp2_with fail
    go_ret
    exact ⟨by simp [mayF, he], HB _ _ _⟩
   ·go_enter Tryz.func121, Tryz.ntmps121
    go_wp2_with fail
    go_ret
    exact ⟨by simp [mayF, he], HB _ _ _⟩
  ·have hq : (n == 0) = false := by simp [hn]
   go_enter Tryz.func121, Tryz.ntmps121
   go_wp2_with fail
   go_ret
   exact ⟨by simp [mayF, hq, Bool.and_comm], HB _ _ _⟩
 by_cases h2 : k = 2
 ·subst h2
  go_enter Tryz.func121, Tryz.ntmps121
  go_wp2_with fail
  go_ret
  exact ⟨by simp [mayF], HB _ _ _⟩
 by_cases h3 : k = 3
 ·subst h3
  have C1 := Lib.hid (fun w => isText_any 3 n s w hs)
  go_enter Tryz.func121, Tryz.ntmps121
  go_wp2_with fail
  refine (C1.out _).mono ?_
  rintro e w1 ⟨rfl, hb1⟩
  have HB1 := Lib.hid ((HB 3 n s).out.trans (hb1.out.mono (HB 3 n s).out.size))
  have hc1 : w1.cell? ⟨w.heap.size, 2, none⟩ = some (.string s) := by
   rw [hb1.out.cell (by simp)]
   simp
  have HV := Lib.hid (fun w (h : Tabs w) => Any.utf8_ValidString Tryz.laysValid s w hs h)
  have HT := Lib.hid hT
  clear hb1 hT
  cases hsh : short n s
  ·go_wp2_with fail
   go_ret
   exact ⟨by simp [mayF, hsh], HB1.out⟩
  ·go_wp2_with fail
   refine (HV.out _ (HT.out.below HB1.out)).mono ?_
   rintro e w2 ⟨rfl, hb2⟩
   have HB2 := Lib.hid (HB1.out.trans (hb2.mono HB1.out.size))
   clear hb2
   go_wp2_with fail
   go_ret
   exact ⟨by simp [mayF, hsh], HB2.out⟩
 by_cases h4 : k = 4
 ·subst h4
  have C1 := Lib.hid (fun w => isText_any 4 n s w hs)
  go_enter Tryz.func121, Tryz.ntmps121
  go_wp2_with fail
  refine (C1.out _).mono ?_
  rintro e w1 ⟨rfl, hb1⟩
  have HB1 := Lib.hid ((HB 4 n s).out.trans (hb1.out.mono (HB 4 n s).out.size))
  go_wp2_with fail
  go_ret
  exact ⟨by simp [mayF], HB1.out⟩
 ·go_enter Tryz.func121, Tryz.ntmps121
  go_wp2_with fail
  go_ret
  exact ⟨by simp [mayF, h0, h1, h2, h3, h4], HB _ _ _⟩
theorem info5 : (Tryz.prog.info? 5).map (fun i => (i.zero, i.size, i.bytes)) = some (some (.int .u8 0), 1, 1) := by kernel_rfl
def Own (B : Nat) (w : World) (v : Value) (l : List Nat) : Prop := w.ownsRow B 5 1 v l.length (l.map bv)
def OutO (w : World) (l : List Nat) (e : Ending) (w' : World) : Prop := ∃ v, e = .returned v ∧ Own w.heap.size w' v l ∧ Below w.heap.size w w'
theorem own_nil (B : Nat) (w : World) : Own B w (.slice none 0 0) [] := World.ownsRow_nil _ _ _ _
theorem Own.below {B : Nat} {w w' : World} {v : Value} {l : List Nat} (h : Own B w v l) (hb : Below w.heap.size w w') : Own B w' v l := by
 rcases h.2 with ⟨hv, hn⟩ | ⟨g, cap, cur, hv, hg, hh, hc, hcm, hsz, ht⟩
 ·exact ⟨h.1, .inl ⟨hv, hn⟩⟩
 ·exact ⟨h.1, .inr ⟨g, cap, cur, hv, hg, Has.below (t := 5) (cs := cur) hh hb (Has.lt (t := 5) (cs := cur) hh), hc, hcm, hsz, ht⟩⟩
theorem own_full {B : Nat} {w : World} {v : Value} {l : List Nat} (h : Own B w v l) : ∃ A c, v = .slice A l.length c ∧ l.length ≤ c ∧ Rd w A l := by
 rcases h.2 with ⟨hv, hn⟩ | ⟨g, cap, cur, hv, _, hh, hc, _, _, ht⟩
 ·obtain rfl := List.eq_nil_of_length_eq_zero hn
  exact ⟨none, 0, hv, Nat.le_refl _, Rd.nil _ _⟩
 ·subst hv
  exact ⟨_, _, rfl, hc, Rd.of_has (t := 5) (cs := cur) hh fun i hi => by
   have h1 : (l.map bv)[i]? = some (bv l[i]) := by simp [hi]
   rw [← ht, List.getElem?_take, if_pos (by omega)] at h1
   simpa using h1⟩
theorem own_conv {B : Nat} {w : World} {v : Value} {l : List Nat} (h : Own B w v l) : ∃ A n c, v = .slice A n c ∧ Hid (l.length = n) ∧ Sem.run Tryz.prog (convert 70 9 (.slice A n c)) w = .ok (.string (bs l)) w := by
 obtain ⟨A, c, e, _, hr⟩ := own_full h
 exact ⟨A, l.length, c, e, rfl, conv_len w A l _ c rfl hr⟩
def Kept (w w' : World) : Prop := ∀ (g : Nat) (t : TypeId) (cs : Array Value), t ≠ 5 → Has w g t cs → Has w' g t cs
theorem Kept.trans {a b c : World} (h : Kept a b) (k : Kept b c) : Kept a c := fun g t cs ht hh => k g t cs ht (h g t cs ht hh)
theorem Kept.below {a b : World} (h : Below a.heap.size a b) : Kept a b := fun _ _ _ _ hh => hh.below h hh.lt
theorem app_at (w : World) (g : Nat) (hg0 : g = w.heap.size) (B : Nat) (v : Value) (l : List Nat) (ds : List Nat) (cs : Array Value) (hcs : cs = (ds.map bv).toArray) (m : Nat) (hm : ds.length = m) (h : Own B w v l) (hB : B ≤ w.heap.size) (hl : l.length + m ≤ 1000000) :
 ∃ R W', (Builtin.append_ #[70, 70] 70 #[v, .slice (some ⟨g, 0, none⟩) m m]).run Tryz.prog (w.alloc (.cells cs 5)) = .ok R W' ∧ Own B W' R (l ++ ds) ∧ Below B w W' ∧ Kept w W' := by
 subst hcs; subst hm; subst hg0
 obtain ⟨i0, hi, hz0, hz1, hz2⟩ := info_parts info5
 obtain ⟨R, W', hrun, hown, hg, _⟩ := run_append_own (P := Tryz.prog) (w.alloc (.cells (ds.map bv).toArray 5)) B 70 70 5 i0 (.int .u8 0) 1 1 Tryz.underlying70 hi hz0 hz1 hz2 rfl (by decide) v l.length (l.map bv) (h.alloc _)
  ⟨w.heap.size, 0, none⟩ ds.length ds.length (ds.map bv) (by simp) (fun j u hj => by
    have := (Has.new w 5 (ds.map bv).toArray).cell j
    rw [List.getElem?_toArray] at this
    rw [Addr.add_lit, Nat.zero_add]
    exact this.trans hj) (bv_one ds) (by unfold maxLen; omega) (by omega) (by simp; omega)
 refine ⟨R, W', hrun, ?_, ?_, ?_⟩
 ·unfold Own; rw [List.map_append, List.length_append]; exact hown
 ·exact ((Below.refl B w).alloc hB _).grown hg (by simp; omega) fun k hk => (World.ownsRow.lt h k hk).1
 ·intro g t cs ht hh
  have hh2 := hh.alloc (.cells (ds.map bv).toArray 5)
  refine (hg.block g hh2.lt fun e => ?_).trans hh2
  rcases h.2 with ⟨hv, _⟩ | ⟨g', cap, cur, hv, _, hc, _⟩
  ·rw [hv] at e; cases e
  ·rw [hv] at e
   have e2 : g = g' := by simpa [Value.ownBlock] using e
   subst e2
   unfold Has at hh
   rw [hc] at hh
   simp at hh
   exact ht hh.2.symm
theorem app_new (w : World) (B : Nat) (v : Value) (l : List Nat) (ds : List Nat) (cs : Array Value) (hcs : cs = (ds.map bv).toArray) (m : Nat) (hm : ds.length = m) (h : Own B w v l) (hB : B ≤ w.heap.size) (hl : l.length + m ≤ 1000000) :
 ∃ R W', (Builtin.append_ #[70, 70] 70 #[v, .slice (some ⟨w.heap.size, 0, none⟩) m m]).run Tryz.prog (w.alloc (.cells cs 5)) = .ok R W' ∧ Own B W' R (l ++ ds) ∧ Below B w W' := by
 obtain ⟨R, W', h1, h2, h3, _⟩ := app_at w _ rfl B v l ds cs hcs m hm h hB hl
 exact ⟨R, W', h1, h2, h3⟩
def hi (n : Int) (size k : Nat) : List Nat := (List.range k).map fun i => (n / 2 ^ (8 * (size - 1 - i)) % 256).toNat
theorem hi_succ (n : Int) (size k : Nat) : hi n size (k + 1) = hi n size k ++ [(n / 2 ^ (8 * (size - 1 - k)) % 256).toNat] := by
 unfold hi; rw [List.range_succ, List.map_append]; rfl
theorem hi_len (n : Int) (size k : Nat) : (hi n size k).length = k := by simp [hi]
set_option maxHeartbeats 1000000 in
set_option maxRecDepth 100000 in
theorem addNumber_any (B : Nat) (v : Value) (l : List Nat) (n : Int) (size : Nat) (w : World) (h : Own B w v l) (hB : B ≤ w.heap.size) (hl : l.length ≤ 900000) (hs : size ≤ 8) :
 Calls Tryz.prog 154 #[v, .int .i64 n, .int .i64 size] w fun e w' => ∃ v', e = .returned v' ∧ Hid (Own B w' v' (l ++ hi n size size)) ∧ Hid (Below B w w') := by
 have H := Lib.hid h
 clear h
 go_enter Tryz.func154, Tryz.ntmps154
 go_wp2_with fail
 go_loopw [0, 9] (fun x i wr => ∃ (k : Nat) (u : Value), k ≤ size ∧ i = .int .i64 k ∧ u = x ∧ Hid (Own B wr u (l ++ hi n size k)) ∧ Hid (Below B w wr)) (fun _ i _ => size - (intOf i).toNat)
 case atStart => exact ⟨0, v, by omega, rfl, rfl, by simpa [hi] using H, Below.refl _ _⟩
 case round =>
  obtain ⟨k, u, hk, rfl, rfl, HO, HB⟩ := hrel
  by_cases hlt : k < size
  ·have HA := Lib.hid (app_new wr B u (l ++ hi n size k) [(n / 2 ^ (8 * (size - 1 - k)) % 256).toNat] #[.int .u8 (n / 2 ^ (8 * (size - 1 - k)) % 256)] (by simp [bv]; omega) 1 rfl HO.out (Nat.le_trans hB HB.out.size) (by rw [List.length_append, hi_len]; omega))
   go_wp2_with (at_builtin; refine wpList_app rfl _ _ 70 70 rfl u (.slice (some ⟨wr.heap.size, 0, none⟩) 1 1) rfl rfl ?_; obtain ⟨R, W', hrun, hmade⟩ := HA.out; refine ⟨R, W', hrun, ?_⟩; have HM := Lib.hid hmade; clear hrun hmade)
   go_roundw
   case rel => exact ⟨k + 1, R, by omega, by go_num, rfl, by rw [hi_succ, ← List.append_assoc]; exact HM.out.1, HB.out.trans HM.out.2⟩
   case measure => simp [intOf]; omega
  ·obtain rfl : k = size := by omega
   go_wp2_with fail
   go_ret
   exact ⟨u, rfl, HO, HB⟩
def esc : List Nat → List Nat
 | [] => []
 | x :: t => if x = 0 then 0 :: 255 :: esc t else x :: esc t
theorem esc_append : ∀ l m : List Nat, esc (l ++ m) = esc l ++ esc m
 | [], _ => rfl
 | x :: t, m => by
   simp only [List.cons_append, esc]
   rw [esc_append t m]
   split <;> simp
theorem esc_len : ∀ l : List Nat, (esc l).length ≤ 2 * l.length
 | [] => by simp [esc]
 | x :: t => by
   have := esc_len t
   simp only [esc]
   split <;> simp <;> omega
theorem sb_get (s : ByteArray) (k : Nat) (h : k < s.size) : (sb s)[k]'(by rw [sb_length]; exact h) = (s[k]'h).toNat := by
 simp [sb]
 rfl
theorem sb_take_succ (s : ByteArray) (k : Nat) (h : k < s.size) : (sb s).take (k + 1) = (sb s).take k ++ [(s[k]'h).toNat] := by
 rw [List.take_succ_eq_append_getElem (by rw [sb_length]; exact h), sb_get s k h]
set_option maxHeartbeats 2000000 in
set_option maxRecDepth 100000 in
theorem addText_any (B : Nat) (v : Value) (l : List Nat) (s : ByteArray) (w : World) (h : Own B w v l) (hB : B ≤ w.heap.size) (hl : l.length + 2 * s.size ≤ 900000) :
 Calls Tryz.prog 155 #[v, .string s] w fun e w' => ∃ v', e = .returned v' ∧ Hid (Own B w' v' (l ++ (esc (sb s) ++ [0, 1]))) ∧ Hid (Below B w w') := by
 have H := Lib.hid h
 clear h
 go_enter Tryz.func155, Tryz.ntmps155
 go_wp2_with fail
 go_loopw [0, 8] (fun x i wr => ∃ (k : Nat) (u : Value), k ≤ s.size ∧ i = .int .i64 k ∧ u = x ∧ Hid (Own B wr u (l ++ esc ((sb s).take k))) ∧ Hid (Below B w wr)) (fun _ i _ => s.size - (intOf i).toNat)
 case atStart => exact ⟨0, v, by omega, rfl, rfl, by simpa [esc] using H, Below.refl _ _⟩
 case round =>
  obtain ⟨k, u, hk, rfl, rfl, HO, HB⟩ := hrel
  have hel : (esc ((sb s).take k)).length ≤ 2 * k := by
   have := esc_len ((sb s).take k)
   rw [List.length_take] at this
   omega
  by_cases hlt : k < s.size
  ·have HS := Lib.hid (sb_take_succ s k hlt)
   have HA := Lib.hid (app_new wr B u (l ++ esc ((sb s).take k)) [s[k].toNat] #[.int .u8 s[k].toNat] (by simp [bv]) 1 rfl HO.out (Nat.le_trans hB HB.out.size) (by rw [List.length_append]; omega))
   by_cases hz : s[k].toNat = 0
   ·have HE : Hid (esc ((sb s).take (k + 1)) = esc ((sb s).take k) ++ [0] ++ [255]) := by
     show _ = _
     rw [HS.out, esc_append, hz]; simp [esc]
    have HA := Lib.hid (app_new wr B u (l ++ esc ((sb s).take k)) [0] #[.int .u8 0] rfl 1 rfl HO.out (Nat.le_trans hB HB.out.size) (by rw [List.length_append]; omega))
    have hzz : ((s[k].toNat : Int) == 0) = true := by rw [hz]; rfl
    go_wp2_with (first
     | (at_builtin; refine wpList_app rfl _ _ 70 70 rfl u (.slice (some ⟨wr.heap.size, 0, none⟩) 1 1) rfl rfl ?_; obtain ⟨R, W', hrun, hmade⟩ := HA.out; refine ⟨R, W', hrun, ?_⟩; have HM := Lib.hid hmade; clear hrun hmade HA)
     | (at_builtin; refine wpList_app rfl _ _ 70 70 rfl R (.slice (some ⟨W'.heap.size, 0, none⟩) 1 1) rfl rfl ?_; obtain ⟨R2, W2, hrun, hmade⟩ := app_new W' B R _ [255] #[.int .u8 255] rfl 1 rfl HM.out.1 (Nat.le_trans hB (Nat.le_trans HB.out.size HM.out.2.size)) (by rw [List.length_append, List.length_append]; simp; omega); refine ⟨R2, W2, hrun, ?_⟩; have HM2 := Lib.hid hmade; clear hrun hmade))
    go_roundw
    case rel => exact ⟨k + 1, R2, by omega, by go_num, rfl, by rw [HE.out, ← List.append_assoc, ← List.append_assoc]; exact HM2.out.1, HB.out.trans (HM.out.2.trans HM2.out.2)⟩
    case measure => simp [intOf]; omega
   ·have HE : Hid (esc ((sb s).take (k + 1)) = esc ((sb s).take k) ++ [s[k].toNat]) := by
     show _ = _
     rw [HS.out, esc_append]; simp [esc, hz]
    have hzz : ((s[k].toNat : Int) == 0) = false := by simp; omega
    go_wp2_with (at_builtin; refine wpList_app rfl _ _ 70 70 rfl u (.slice (some ⟨wr.heap.size, 0, none⟩) 1 1) rfl rfl ?_; obtain ⟨R, W', hrun, hmade⟩ := HA.out; refine ⟨R, W', hrun, ?_⟩; have HM := Lib.hid hmade; clear hrun hmade HA)
    go_roundw
    case rel => exact ⟨k + 1, R, by omega, by go_num, rfl, by rw [HE.out, ← List.append_assoc]; exact HM.out.1, HB.out.trans HM.out.2⟩
    case measure => simp [intOf]; omega
  ·obtain rfl : k = s.size := by omega
   have HT : Hid ((sb s).take s.size = sb s) := List.take_of_length_le (by rw [sb_length]; exact Nat.le_refl _)
   have HA := Lib.hid (app_new wr B u (l ++ esc ((sb s).take s.size)) [0, 1] #[.int .u8 0, .int .u8 1] rfl 2 rfl HO.out (Nat.le_trans hB HB.out.size) (by rw [List.length_append]; omega))
   go_wp2_with (at_builtin; refine wpList_app rfl _ _ 70 70 rfl u (.slice (some ⟨wr.heap.size, 0, none⟩) 2 2) rfl rfl ?_; obtain ⟨R, W', hrun, hmade⟩ := HA.out; refine ⟨R, W', hrun, ?_⟩; have HM := Lib.hid hmade; clear hrun hmade HA)
   go_ret
   refine ⟨R, rfl, ?_, HB.out.trans HM.out.2⟩
   have h := HM.out.1
   rw [HT.out, List.append_assoc] at h
   exact h
theorem xor_half (u : Nat) (h : u < 18446744073709551616) : u ^^^ 9223372036854775808 = (u + 9223372036854775808) % 18446744073709551616 := by
 have h1 := Nat.xor_mod_two_pow (a := u) (b := 9223372036854775808) (n := 63)
 have h2 := Nat.xor_div_two_pow (a := u) (b := 9223372036854775808) (n := 63)
 rw [show (2 : Nat) ^ 63 = 9223372036854775808 by decide] at h1 h2
 rw [show (9223372036854775808 : Nat) % 9223372036854775808 = 0 by decide, Nat.xor_zero] at h1
 rw [show (9223372036854775808 : Nat) / 9223372036854775808 = 1 by decide] at h2
 have h3 : u / 9223372036854775808 = 0 ∨ u / 9223372036854775808 = 1 := by omega
 rcases h3 with h3 | h3 <;> rw [h3] at h2
 ·rw [show (0 : Nat) ^^^ 1 = 1 by decide] at h2; omega
 ·rw [show (1 : Nat) ^^^ 1 = 0 by decide] at h2; omega
def flip (n : Int) : Int := if n < 0 then n + 9223372036854775808 else n - 9223372036854775808
theorem flip_bits (n : Int) (h0 : -9223372036854775808 ≤ n) (h1 : n ≤ 9223372036854775807) : bits .xor .i64 n (-9223372036854775808) = flip n := by
 show IntKind.i64.wrap ((BitVec.ofInt 64 n ^^^ BitVec.ofInt 64 (-9223372036854775808)).toNat : Int) = _
 rw [BitVec.toNat_xor, show (BitVec.ofInt 64 (-9223372036854775808)).toNat = 9223372036854775808 by decide]
 have e : (BitVec.ofInt 64 n).toNat = (n % 18446744073709551616).toNat := by simp [BitVec.toNat_ofInt]
 rw [e, xor_half _ (by omega), IntKind.wrap_i64]
 unfold flip
 split <;> omega
theorem hi_flip (n : Int) (h0 : -9223372036854775808 ≤ n) (h1 : n ≤ 9223372036854775807) : hi (flip n) 8 8 = hi (n + 9223372036854775808) 8 8 := by
 unfold hi
 apply List.map_congr_left
 intro i hi
 have hi := List.mem_range.1 hi
 have e : i = 0 ∨ i = 1 ∨ i = 2 ∨ i = 3 ∨ i = 4 ∨ i = 5 ∨ i = 6 ∨ i = 7 := by omega
 unfold flip
 split
 ·rfl
 ·rcases e with rfl | rfl | rfl | rfl | rfl | rfl | rfl | rfl <;> simp <;> omega
def keyV (k n : Int) (s : ByteArray) : List Nat :=
 if k = 1 then 1 :: hi n 1 1 else if k = 2 then 2 :: hi (n + 9223372036854775808) 8 8 else if k = 3 ∨ k = 4 then k.toNat :: (esc (sb s) ++ [0, 1]) else [(k % 256).toNat]
theorem keyV_len (k n : Int) (s : ByteArray) : (keyV k n s).length ≤ 2 * s.size + 9 := by
 unfold keyV
 have := esc_len (sb s)
 rw [sb_length] at this
 repeat' split
 all_goals simp [hi_len] <;> omega
set_option maxHeartbeats 2000000 in
set_option maxRecDepth 100000 in
theorem addKey_any (B : Nat) (v : Value) (l : List Nat) (k n : Int) (s : ByteArray) (w : World) (h : Own B w v l) (hB : B ≤ w.heap.size) (hl : l.length + 2 * s.size ≤ 800000) (h0 : -9223372036854775808 ≤ n) (h1 : n ≤ 9223372036854775807) :
 Calls Tryz.prog 149 #[v, .agg #[.int .i64 k, .int .i64 n, .string s]] w fun e w' => ∃ v', e = .returned v' ∧ Hid (Own B w' v' (l ++ keyV k n s)) ∧ Hid (Below B w w') := by
 have HA := Lib.hid (app_at (w.alloc (.cells #[.int .i64 k, .int .i64 n, .string s] 115)) (w.heap.size + 1) (by simp) B v l [(k % 256).toNat] #[.int .u8 (k % 256)] (by simp [bv]; omega) 1 rfl (World.ownsRow.alloc h _) (by simp; omega) (by omega))
 have HW : Hid (Below B w (w.alloc (.cells #[.int .i64 k, .int .i64 n, .string s] 115))) := (Below.refl _ _).alloc hB _
 have HH : Hid (Has (w.alloc (.cells #[.int .i64 k, .int .i64 n, .string s] 115)) w.heap.size 115 #[.int .i64 k, .int .i64 n, .string s]) := Has.new _ _ _
 have HF := Lib.hid (flip_bits n h0 h1)
 have HF2 := Lib.hid (hi_flip n h0 h1)
 clear h
 obtain ⟨W1, hW1⟩ : ∃ W1, W1 = w.alloc (.cells #[.int .i64 k, .int .i64 n, .string s] 115) := ⟨_, rfl⟩
 have HZ : Hid (W1.heap.size = w.heap.size + 1) := by show _ = _; rw [hW1]; simp
 rw [← hW1] at HA HW HH
 go_enter Tryz.func149, Tryz.ntmps149
 go_wp2_with (at_builtin; rw [← hW1]; refine wpList_app rfl _ _ 70 70 rfl v (.slice (some ⟨w.heap.size + 1, 0, none⟩) 1 1) rfl rfl ?_; obtain ⟨R, W', hrun, hmade⟩ := HA.out; refine ⟨R, W', hrun, ?_⟩; have HM := Lib.hid hmade; have hhas := hmade.2.2 _ _ _ (by decide) HH.out; clear hrun hmade HA; have hc0 := hhas.cell 0; have hc1 := hhas.cell 1; have hc2 := hhas.cell 2; simp at hc0 hc1 hc2; clear hhas)
 all_goals
  have HB1 : Hid (Below B w W') := HW.out.trans HM.out.2.1
  have hB1 : B ≤ W'.heap.size := Nat.le_trans hB HB1.out.size
 ·have e : (k == 1) = true := by assumption
  refine (addNumber_any B R _ n 1 W' HM.out.1 hB1 (by simp; omega) (by omega)).mono ?_
  rintro e2 w2 ⟨v2, rfl, ho, hb⟩
  have HK : Hid (keyV k n s = 1 :: hi n 1 1) := by
   show _ = _
   unfold keyV
   simp at e
   subst e
   simp
  have HO : Hid (Own B w2 v2 (l ++ keyV k n s)) := by
   have h := ho.out
   simp at e
   show Own _ _ _ _
   rw [HK.out]
   subst e
   simpa using h
  go_wp2_with fail
  go_ret
  exact ⟨v2, rfl, HO, HB1.out.trans hb.out⟩
 ·have e : (k == 2) = true := by assumption
  rw [HF.out]
  refine (addNumber_any B R _ (flip n) 8 W' HM.out.1 hB1 (by simp; omega) (by omega)).mono ?_
  rintro e2 w2 ⟨v2, rfl, ho, hb⟩
  have HK : Hid (keyV k n s = 2 :: hi (n + 9223372036854775808) 8 8) := by
   show _ = _
   unfold keyV
   simp at e
   subst e
   simp
  have HO : Hid (Own B w2 v2 (l ++ keyV k n s)) := by
   have h := ho.out
   simp at e
   show Own _ _ _ _
   rw [HK.out]
   rw [HF2.out] at h
   subst e
   simpa using h
  go_wp2_with fail
  go_ret
  exact ⟨v2, rfl, HO, HB1.out.trans hb.out⟩
 ·have e : (k == 3) = true := by assumption
  refine (addText_any B R _ s W' HM.out.1 hB1 (by simp; omega)).mono ?_
  rintro e2 w2 ⟨v2, rfl, ho, hb⟩
  have HK : Hid (keyV k n s = 3 :: (esc (sb s) ++ [0, 1])) := by
   show _ = _
   unfold keyV
   simp at e
   subst e
   simp
  have HO : Hid (Own B w2 v2 (l ++ keyV k n s)) := by
   have h := ho.out
   simp at e
   show Own _ _ _ _
   rw [HK.out]
   subst e
   simpa using h
  go_wp2_with fail
  go_ret
  exact ⟨v2, rfl, HO, HB1.out.trans hb.out⟩
 ·have e : (k == 4) = true := by assumption
  refine (addText_any B R _ s W' HM.out.1 hB1 (by simp; omega)).mono ?_
  rintro e2 w2 ⟨v2, rfl, ho, hb⟩
  have HK : Hid (keyV k n s = 4 :: (esc (sb s) ++ [0, 1])) := by
   show _ = _
   unfold keyV
   simp at e
   subst e
   simp
  have HO : Hid (Own B w2 v2 (l ++ keyV k n s)) := by
   have h := ho.out
   simp at e
   show Own _ _ _ _
   rw [HK.out]
   subst e
   simpa using h
  go_wp2_with fail
  go_ret
  exact ⟨v2, rfl, HO, HB1.out.trans hb.out⟩
 ·have e1 : (k == 1) = false := by assumption
  have e2 : (k == 2) = false := by assumption
  have e3 : (k == 3) = false := by assumption
  have e4 : (k == 4) = false := by assumption
  have HO : Hid (Own B W' R (l ++ keyV k n s)) := by
   have h := HM.out.1
   simp at e1 e2 e3 e4
   show Own _ _ _ _
   unfold keyV
   simpa [e1, e2, e3, e4] using h
  go_ret
  exact ⟨R, rfl, HO, HB1⟩
structure Vl where
 k : Int
 n : Int
 s : ByteArray
def Vl.may (x : Vl) : Bool := mayF x.k x.n x.s
def Vl.key (x : Vl) : List Nat := keyV x.k x.n x.s
def Vl.val (x : Vl) : Value := .agg #[.int .i64 x.k, .int .i64 x.n, .string x.s]
def Vl.cells (x : Vl) : List Value := [.int .i64 x.k, .int .i64 x.n, .string x.s]
def Vl.fit (x : Vl) : Prop := -9223372036854775808 ≤ x.n ∧ x.n ≤ 9223372036854775807 ∧ x.s.size ≤ 140737488355328
def VRow (w : World) (A : Option Addr) (L : List Vl) : Prop :=
 L ≠ [] → ∃ b off, A = some ⟨b, off, none⟩ ∧ ∀ i (h : i < L.length), w.cell? ⟨b, off + i * 3, none⟩ = some (.int .i64 L[i].k) ∧ w.cell? ⟨b, off + i * 3 + 1, none⟩ = some (.int .i64 L[i].n) ∧ w.cell? ⟨b, off + i * 3 + 2, none⟩ = some (.string L[i].s)
theorem VRow.below {w w' : World} {A : Option Addr} {L : List Vl} (h : VRow w A L) (hb : Below w.heap.size w w') : VRow w' A L := fun hl => by
 obtain ⟨b, off, e, hc⟩ := h hl
 refine ⟨b, off, e, fun i hi => ?_⟩
 obtain ⟨h0, h1, h2⟩ := hc i hi
 exact ⟨(hb.cell (World.block_lt_of_cell? w _ h0)).trans h0, (hb.cell (World.block_lt_of_cell? w _ h1)).trans h1, (hb.cell (World.block_lt_of_cell? w _ h2)).trans h2⟩
def keys (L : List Vl) : List Nat := L.flatMap Vl.key
theorem keys_succ (L : List Vl) (k : Nat) (h : k < L.length) : keys (L.take (k + 1)) = keys (L.take k) ++ L[k].key := by
 unfold keys
 rw [List.take_succ_eq_append_getElem h, List.flatMap_append]
 simp
theorem mem_take {α : Type} (L : List α) (k : Nat) (h : k < L.length) : L[k] ∈ L.take (k + 1) := by
 rw [List.take_succ_eq_append_getElem h]
 exact List.mem_append_right _ (List.mem_singleton.2 rfl)
theorem short_size {n : Int} {s : ByteArray} (h : short n s = true) : s.size ≤ 4096 := by
 unfold short at h; simp at h; exact h.2
theorem empty_size {s : ByteArray} (h : s.toList.isEmpty = true) : s.size = 0 := by
 rw [ByteArray.toList_eq] at h
 obtain ⟨⟨l⟩⟩ := s
 simp at h
 subst h; rfl
theorem may_size {k n : Int} {s : ByteArray} (h : mayF k n s = true) : s.size ≤ 4096 := by
 unfold mayF at h
 repeat' split at h
 all_goals first
  | (simp only [Bool.and_eq_true] at h; first | (have := empty_size h.2; omega) | (have := empty_size h.1; omega) | exact short_size h.1)
  | (have := empty_size h; omega)
  | exact short_size h
  | cases h
theorem keys_le (L : List Vl) (k : Nat) (hk : k ≤ L.length) (h : ∀ x ∈ L.take k, x.may = true) : (keys (L.take k)).length ≤ 8201 * k := by
 induction k with
 | zero => simp [keys]
 | succ k ih =>
   rw [keys_succ L k (by omega), List.length_append]
   have h1 := ih (by omega) (fun x hx => h x (by rw [List.take_succ_eq_append_getElem (by omega)]; exact List.mem_append_left _ hx))
   have h2 : L[k].may = true := h _ (mem_take L k (by omega))
   have h3 := keyV_len L[k].k L[k].n L[k].s
   have h4 := may_size h2
   unfold Vl.key
   omega
set_option maxHeartbeats 2000000 in
set_option maxRecDepth 100000 in
theorem key_any (A : Option Addr) (L : List Vl) (n c : Nat) (w : World) (hn : L.length = n) (hl : n ≤ 8) (hA : VRow w A L) (hf : ∀ x ∈ L, x.fit) (hT : Tabs w) (e : Nat) (K : List Nat)
 (hE : (∀ x ∈ L, x.may = true) ∧ e = 0 ∧ K = keys L ∨ (∃ x ∈ L, x.may = false) ∧ e = 1 ∧ K = []) :
 Calls Tryz.prog 135 #[.slice A n c] w fun x w' => x = .returned (.tuple #[.string (bs K), .int .i64 e]) ∧ Hid (Below w.heap.size w w') := by
 have HN := Lib.hid hn
 have HA := Lib.hid hA
 have HT := Lib.hid hT
 have HF := Lib.hid hf
 have HE := Lib.hid hE
 clear hn hA hT hf hE
 go_enter Tryz.func135, Tryz.ntmps135
 go_wp2_with fail
 go_loopw [4, 9] (fun x i wr => ∃ (k : Nat) (u : Value), k ≤ n ∧ i = .int .i64 k ∧ u = x ∧ Hid (∀ x ∈ L.take k, x.may = true) ∧ Hid (Own w.heap.size wr u (keys (L.take k))) ∧ Hid (Below w.heap.size w wr)) (fun _ i _ => n - (intOf i).toNat)
 case atStart => exact ⟨0, _, by omega, rfl, rfl, fun x hx => by simp at hx, own_nil _ _, Below.refl _ _⟩
 case round =>
  obtain ⟨k, u, hk, rfl, rfl, HM, HO, HB⟩ := hrel
  by_cases hlt : k < n
  ·have hkl : k < L.length := by rw [HN.out]; exact hlt
   obtain ⟨b, off, rfl, hc⟩ := (HA.out.below HB.out) (by intro e; rw [e] at hkl; simp at hkl)
   obtain ⟨c0, c1, c2⟩ := hc k hkl
   have hfit := HF.out L[k] (List.getElem_mem hkl)
   have HKS := Lib.hid (keys_succ L k hkl)
   have HLE := Lib.hid (keys_le L k (by omega) HM.out)
   have HX : Hid (L[k] ∈ L) := List.getElem_mem hkl
   have HMS : Hid (L[k].may = true → ∀ x ∈ L.take (k + 1), x.may = true) := fun h x hx => by
    rw [List.take_succ_eq_append_getElem hkl] at hx
    rcases List.mem_append.1 hx with h1 | h1
    ·exact HM.out x h1
    ·rw [List.mem_singleton.1 h1]; exact h
   clear hc
   generalize L[k] = x at *
   obtain ⟨xk, xn, xs⟩ := x
   obtain ⟨f0, f1, f2⟩ := hfit
   simp only at c0 c1 c2 f0 f1 f2
   have HB0 := Lib.hid ((Below.refl wr.heap.size wr).alloc (Nat.le_refl _) (.cells #[.int .i64 xk, .int .i64 xn, .string xs] 115))
   have HH0 : Hid (Has (wr.alloc (.cells #[.int .i64 xk, .int .i64 xn, .string xs] 115)) wr.heap.size 115 #[.int .i64 xk, .int .i64 xn, .string xs]) := Has.new _ _ _
   go_wp2_with fail
   refine (may_any xk xn xs _ (by omega) ((HT.out.below HB.out).below HB0.out)).mono ?_
   rintro e1 w1 ⟨rfl, hb1⟩
   have HB1 := Lib.hid (HB.out.trans ((HB0.out.trans (hb1.out.mono HB0.out.size)).mono HB.out.size))
   have HH1 := Lib.hid (HH0.out.below hb1.out HH0.out.lt)
   have HO1 := Lib.hid (HO.out.below (HB0.out.trans (hb1.out.mono HB0.out.size)))
   have d0 := HH1.out.cell 0
   have d1 := HH1.out.cell 1
   have d2 := HH1.out.cell 2
   simp at d0 d1 d2
   clear HB0 HH0 HH1 hb1 c0 c1 c2
   cases hm : mayF xk xn xs
   ·have HEE : Hid (e = 1 ∧ K = []) := by
     rcases HE.out with h | h
     ·have := h.1 _ HX.out; unfold Vl.may at this; simp only at this; rw [hm] at this; cases this
     ·exact h.2
    obtain ⟨rfl, rfl⟩ := HEE.out
    clear HE
    go_wp2_with fail
    go_ret2
    exact ⟨rfl, HB1.out⟩
   ·have hsz := may_size hm
    go_wp2_with fail
    refine (addKey_any w.heap.size u _ xk xn xs w1 HO1.out HB1.out.size (by have := HLE.out; omega) f0 f1).mono ?_
    rintro e2 w2 ⟨v2, rfl, HO2, HB2⟩
    go_wp2_with fail
    go_roundw
    case rel => exact ⟨k + 1, v2, by omega, by go_num, rfl, HMS.out hm, by rw [HKS.out]; exact HO2, HB1.out.trans HB2.out⟩
    case measure => simp [intOf]; omega
  ·obtain rfl : k = n := by omega
   have HEE : Hid (e = 0 ∧ K = keys (L.take k)) := by
    have ht : L.take k = L := List.take_of_length_le (by rw [HN.out]; exact Nat.le_refl _)
    rw [ht]
    have hm := HM.out
    rw [ht] at hm
    rcases HE.out with h | h
    ·exact h.2
    ·obtain ⟨⟨x, hx, h1⟩, _⟩ := h
     rw [hm x hx] at h1; cases h1
   obtain ⟨rfl, rfl⟩ := HEE.out
   clear HE
   obtain ⟨A1, n1, c1, rfl, HL1, hconv⟩ := own_conv HO.out
   go_wp2_with fail
   go_ret2
   exact ⟨rfl, HB.out⟩
def Vl.fits (x : Vl) : Prop := x.fit ∧ -9223372036854775808 ≤ x.k ∧ x.k ≤ 9223372036854775807
theorem infoV : (Tryz.prog.info? 115).map (fun i => (i.zero, i.size, i.bytes)) = some (some (.agg #[.int .i64 0, .int .i64 0, .string ⟨#[]⟩]), 3, 32) := by kernel_rfl
def OwnV (B : Nat) (w : World) (v : Value) (L : List Vl) : Prop := w.ownsRow B 115 3 v L.length (L.flatMap Vl.cells)
theorem ownV_nil (B : Nat) (w : World) : OwnV B w (.slice none 0 0) [] := World.ownsRow_nil _ _ _ _
theorem OwnV.below {B : Nat} {w w' : World} {v : Value} {L : List Vl} (h : OwnV B w v L) (hb : Below w.heap.size w w') : OwnV B w' v L := by
 rcases h.2 with ⟨hv, hn⟩ | ⟨g, cap, cur, hv, hg, hh, hc, hcm, hsz, ht⟩
 ·exact ⟨h.1, .inl ⟨hv, hn⟩⟩
 ·exact ⟨h.1, .inr ⟨g, cap, cur, hv, hg, Has.below (t := 115) (cs := cur) hh hb (Has.lt (t := 115) (cs := cur) hh), hc, hcm, hsz, ht⟩⟩
theorem flat_get (L : List Vl) (i j : Nat) (h : i < L.length) (hj : j < 3) : (L.flatMap Vl.cells)[i * 3 + j]? = L[i].cells[j]? := by
 induction L generalizing i with
 | nil => simp at h
 | cons x L ih =>
   rw [List.flatMap_cons]
   rcases i with _ | i
   ·rw [List.getElem?_append_left (by simp [Vl.cells]; omega)]
    simp
   ·rw [List.getElem?_append_right (by simp [Vl.cells]; omega)]
    have e : (i + 1) * 3 + j - x.cells.length = i * 3 + j := by simp [Vl.cells]; omega
    rw [e, ih i (by simpa using h)]
    simp
theorem ownV_row {B : Nat} {w : World} {v : Value} {L : List Vl} (h : OwnV B w v L) : ∃ A c, v = .slice A L.length c ∧ L.length ≤ c ∧ c ≤ maxLen ∧ VRow w A L ∧ (A = none → c = 0) := by
 rcases h.2 with ⟨hv, hn⟩ | ⟨g, cap, cur, hv, _, hh, hc, hcm, hsz, ht⟩
 ·obtain rfl := List.eq_nil_of_length_eq_zero hn
  exact ⟨none, 0, hv, Nat.le_refl _, Nat.zero_le _, fun h => absurd rfl h, fun _ => rfl⟩
 ·refine ⟨_, _, hv, hc, hcm, fun _ => ⟨g, 0, rfl, fun i hi => ?_⟩, fun e => by cases e⟩
  have hq : ∀ j, j < 3 → w.cell? ⟨g, 0 + (i * 3 + j), none⟩ = L[i].cells[j]? := fun j hj => by
   rw [Nat.zero_add, Has.cell (t := 115) (cs := cur) hh, ← flat_get L i j hi hj, ← ht, List.getElem?_take, if_pos (by omega)]
   simp
  have q0 := hq 0 (by omega)
  have q1 := hq 1 (by omega)
  have q2 := hq 2 (by omega)
  exact ⟨q0, q1, q2⟩
def decS : Bool → List Nat → Nat → List Nat → Option (List Nat × Nat)
 | _, _, _, [] => none
 | false, acc, i, x :: t => if x = 0 then decS true acc (i + 1) t else decS false (acc ++ [x]) (i + 1) t
 | true, acc, i, x :: t => if x = 255 then decS false (acc ++ [0]) (i + 1) t else if x = 1 then some (acc, i + 1) else none
theorem dec_esc : ∀ (l acc : List Nat) (i : Nat) (r : List Nat), decS false acc i (esc l ++ ([0, 1] ++ r)) = some (acc ++ l, i + (esc l).length + 2)
 | [], acc, i, r => by simp [esc, decS]
 | x :: t, acc, i, r => by
   simp only [esc]
   split
   ·rename_i h
    subst h
    have ih := dec_esc t (acc ++ [0]) (i + 2) r
    simp only [List.cons_append, decS, if_true]
    refine Eq.trans ih ?_
    simp
    omega
   ·rename_i h
    have ih := dec_esc t (acc ++ [x]) (i + 1) r
    simp only [List.cons_append, decS, h, if_false]
    refine Eq.trans ih ?_
    simp
    omega
theorem dec_some : ∀ (m acc : List Nat) (i : Nat) (l : List Nat) (n : Nat),
 (decS false acc i m = some (l, n) → ∃ t r, l = acc ++ t ∧ m = esc t ++ ([0, 1] ++ r) ∧ n = i + (esc t).length + 2) ∧
 (decS true acc i m = some (l, n) → (∃ t r, l = acc ++ [0] ++ t ∧ m = 255 :: (esc t ++ ([0, 1] ++ r)) ∧ n = i + 1 + (esc t).length + 2) ∨ ∃ r, l = acc ∧ m = 1 :: r ∧ n = i + 1)
 | [], acc, i, l, n => ⟨fun h => by simp [decS] at h, fun h => by simp [decS] at h⟩
 | x :: m, acc, i, l, n => by
   constructor
   ·intro h
    simp only [decS] at h
    split at h
    ·rename_i hx
     subst hx
     rcases (dec_some m acc (i + 1) l n).2 h with ⟨t, r, h1, h2, h3⟩ | ⟨r, h1, h2, h3⟩
     ·refine ⟨0 :: t, r, by rw [h1]; simp, by rw [h2]; simp [esc], by rw [h3]; simp [esc]; omega⟩
     ·exact ⟨[], r, by rw [h1]; simp, by rw [h2]; simp [esc], by rw [h3]; simp [esc]⟩
    ·rename_i hx
     obtain ⟨t, r, h1, h2, h3⟩ := (dec_some m (acc ++ [x]) (i + 1) l n).1 h
     exact ⟨x :: t, r, by rw [h1]; simp, by rw [h2]; simp [esc, hx], by rw [h3]; simp [esc, hx]; omega⟩
   ·intro h
    simp only [decS] at h
    split at h
    ·rename_i hx
     subst hx
     obtain ⟨t, r, h1, h2, h3⟩ := (dec_some m (acc ++ [0]) (i + 1) l n).1 h
     exact .inl ⟨t, r, h1, by rw [h2], h3⟩
    ·split at h
     ·rename_i hx
      subst hx
      simp only [Option.some.injEq, Prod.mk.injEq] at h
      exact .inr ⟨m, h.1.symm, rfl, h.2.symm⟩
     ·cases h
theorem esc_mem : ∀ (t : List Nat) (x : Nat), x ∈ t → x ∈ esc t
 | y :: t, x, h => by
   simp only [esc]
   rcases List.mem_cons.1 h with rfl | h
   ·split <;> simp_all
   ·have := esc_mem t x h
    split <;> simp [this]
theorem esc_ge : ∀ t : List Nat, t.length ≤ (esc t).length
 | [] => by simp [esc]
 | x :: t => by
   have := esc_ge t
   simp only [esc]
   split <;> simp <;> omega
def beN (l : List Nat) : Nat := l.foldl (fun a b => a * 256 + b) 0
theorem be_snoc (l : List Nat) (x : Nat) : beN (l ++ [x]) = beN l * 256 + x := by
 unfold beN; rw [List.foldl_append]; rfl
def hb : Nat → Nat → List Nat
 | _, 0 => []
 | m, k + 1 => hb (m / 256) k ++ [m % 256]
theorem hb_range (m k : Nat) : hb m k = (List.range k).map fun i => m / 256 ^ (k - 1 - i) % 256 := by
 induction k generalizing m with
 | zero => rfl
 | succ k ih =>
   rw [hb, ih, List.range_succ, List.map_append]
   congr 1
   ·apply List.map_congr_left
    intro i hi
    have hi := List.mem_range.1 hi
    rw [Nat.div_div_eq_div_mul, ← Nat.pow_succ']
    rw [show (k - 1 - i).succ = k + 1 - 1 - i by omega]
   ·simp
theorem hi_hb (m k : Nat) : hi (m : Int) k k = hb m k := by
 rw [hb_range]
 unfold hi
 apply List.map_congr_left
 intro i _
 rw [show ((m : Int) / 2 ^ (8 * (k - 1 - i)) % 256) = ((m / 2 ^ (8 * (k - 1 - i)) % 256 : Nat) : Int) by rw [Int.natCast_emod, Int.natCast_ediv, Int.natCast_pow]; rfl]
 rw [Int.toNat_natCast, Nat.pow_mul]
theorem be_hb (m k : Nat) : beN (hb m k) = m % 256 ^ k := by
 induction k generalizing m with
 | zero => simp [hb, beN, Nat.mod_one]
 | succ k ih =>
   rw [hb, be_snoc, ih, Nat.pow_succ', Nat.mod_mul]
   omega
theorem be_lt (l : List Nat) (h : ∀ x ∈ l, x < 256) : beN l < 256 ^ l.length := by
 rcases List.eq_nil_or_concat l with rfl | ⟨l', x, rfl⟩
 ·simp [beN]
 ·rw [List.concat_eq_append] at *
  have hx := h x (by simp)
  have ih := be_lt l' (fun y hy => h y (by simp [hy]))
  rw [be_snoc, List.length_append, List.length_singleton, Nat.pow_succ]
  omega
termination_by l.length
theorem hb_be (l : List Nat) (h : ∀ x ∈ l, x < 256) : hb (beN l) l.length = l := by
 rcases List.eq_nil_or_concat l with rfl | ⟨l', x, rfl⟩
 ·rfl
 ·rw [List.concat_eq_append] at *
  have hx := h x (by simp)
  have ih := hb_be l' (fun y hy => h y (by simp [hy]))
  rw [be_snoc, List.length_append, List.length_singleton, hb]
  rw [show (beN l' * 256 + x) / 256 = beN l' by omega, show (beN l' * 256 + x) % 256 = x by omega, ih]
termination_by l.length
theorem be_hi8 (m : Nat) (h1 : m < 18446744073709551616) : beN (hi (m : Int) 8 8) = m := by
 rw [hi_hb, be_hb, show (256 : Nat) ^ 8 = 18446744073709551616 by decide, Nat.mod_eq_of_lt h1]
theorem hi8_be (l : List Nat) (h : l.length = 8) (hb' : ∀ x ∈ l, x < 256) : hi (beN l : Int) 8 8 = l ∧ beN l < 18446744073709551616 := by
 have h1 := hb_be l hb'
 have h2 := be_lt l hb'
 rw [h] at h1 h2
 rw [show (256 : Nat) ^ 8 = 18446744073709551616 by decide] at h2
 exact ⟨by rw [hi_hb, h1], h2⟩
def headR (k : Nat) (rest : List Nat) : Option (Vl × Nat) :=
 if k = 1 then (if rest.length < 1 then none else some (⟨1, beN (rest.take 1), ⟨#[]⟩⟩, 1))
 else if k = 2 then (if rest.length < 8 then none else some (⟨2, (beN (rest.take 8) : Int) - 9223372036854775808, ⟨#[]⟩⟩, 8))
 else if k = 3 ∨ k = 4 then (decS false [] 0 rest).map fun x => (⟨k, 0, bs x.1⟩, x.2)
 else some (⟨k, 0, ⟨#[]⟩⟩, 0)
def headF (l : List Nat) : Option (Vl × Nat) :=
 match l with
 | [] => none
 | k :: rest => match headR k rest with
   | none => none
   | some (v, n) => if v.may then some (v, n + 1) else none
theorem emptyB_eq {s : ByteArray} (h : s.toList.isEmpty = true) : s = ⟨#[]⟩ := by
 rw [ByteArray.toList_eq] at h
 obtain ⟨⟨l⟩⟩ := s
 simp at h
 subst h; rfl
theorem head_key (v : Vl) (r : List Nat) (hm : v.may = true) (hf : v.fit) : headF (v.key ++ r) = some (v, v.key.length) := by
 obtain ⟨k, n, s⟩ := v
 obtain ⟨f0, f1, f2⟩ := hf
 simp only at f0 f1 f2
 have hm' : mayF k n s = true := hm
 unfold Vl.key
 simp only
 unfold mayF at hm'
 repeat' split at hm'
 ·rename_i h; subst h
  simp only [Bool.and_eq_true, beq_iff_eq] at hm'
  obtain ⟨rfl, he⟩ := hm'
  obtain rfl := emptyB_eq he
  have : keyV 0 0 ⟨#[]⟩ = [0] := rfl
  rw [this]
  have hh : headR 0 r = some (⟨0, 0, ⟨#[]⟩⟩, 0) := by simp [headR]
  simp only [List.singleton_append, headF, hh]
  rw [if_pos hm]; rfl
 ·rename_i h; subst h
  simp only [Bool.and_eq_true, Bool.or_eq_true, beq_iff_eq] at hm'
  obtain ⟨he, hn⟩ := hm'
  obtain rfl := emptyB_eq he
  have hk : keyV 1 n ⟨#[]⟩ = [1, n.toNat] := by
   rcases hn with rfl | rfl <;> decide
  rw [hk]
  have hh : headR 1 (n.toNat :: r) = some (⟨1, n, ⟨#[]⟩⟩, 1) := by
   rcases hn with rfl | rfl <;> simp [headR, beN]
  simp only [List.cons_append, List.nil_append, headF, hh]
  rw [if_pos hm]; rfl
 ·rename_i h; subst h
  obtain rfl := emptyB_eq hm'
  have hk : keyV 2 n ⟨#[]⟩ = 2 :: hi (n + 9223372036854775808) 8 8 := rfl
  rw [hk]
  obtain ⟨m, hmm⟩ : ∃ m : Nat, (m : Int) = n + 9223372036854775808 := ⟨(n + 9223372036854775808).toNat, by omega⟩
  rw [← hmm]
  have hh : headR 2 (hi (m : Int) 8 8 ++ r) = some (⟨2, n, ⟨#[]⟩⟩, 8) := by
   unfold headR
   rw [if_neg (by omega), if_pos rfl, if_neg (by rw [List.length_append, hi_len]; omega)]
   rw [List.take_append_of_le_length (by rw [hi_len]; omega), List.take_of_length_le (by rw [hi_len]; omega), be_hi8 m (by omega), hmm]
   simp
  simp only [List.cons_append, headF, hh]
  rw [if_pos hm]; simp [hi_len]
 ·rename_i h; subst h
  simp only [Bool.and_eq_true] at hm'
  obtain rfl : n = 0 := by
   have := hm'.1
   unfold short at this
   simp at this
   exact this.1
  have hk : keyV 3 0 s = 3 :: (esc (sb s) ++ [0, 1]) := rfl
  rw [hk]
  have hh : headR 3 (esc (sb s) ++ [0, 1] ++ r) = some (⟨3, 0, s⟩, (esc (sb s)).length + 2) := by
   unfold headR
   rw [if_neg (by omega), if_neg (by omega), if_pos (.inl rfl), List.append_assoc, dec_esc]
   simp [bs_sb]
  simp only [List.cons_append, headF, hh]
  rw [if_pos hm]; simp
 ·rename_i h; subst h
  obtain rfl : n = 0 := by
   unfold short at hm'
   simp at hm'
   exact hm'.1
  have hk : keyV 4 0 s = 4 :: (esc (sb s) ++ [0, 1]) := rfl
  rw [hk]
  have hh : headR 4 (esc (sb s) ++ [0, 1] ++ r) = some (⟨4, 0, s⟩, (esc (sb s)).length + 2) := by
   unfold headR
   rw [if_neg (by omega), if_neg (by omega), if_pos (.inr rfl), List.append_assoc, dec_esc]
   simp [bs_sb]
  simp only [List.cons_append, headF, hh]
  rw [if_pos hm]; simp
 ·cases hm'
theorem key_unique {v v' : Vl} {r r' : List Nat} (hm : v.may = true) (hf : v.fit) (hm' : v'.may = true) (hf' : v'.fit) (h : v.key ++ r = v'.key ++ r') : v = v' ∧ r = r' := by
 have h1 := head_key v r hm hf
 have h2 := head_key v' r' hm' hf'
 rw [h, h2] at h1
 simp only [Option.some.injEq, Prod.mk.injEq] at h1
 obtain ⟨rfl, _⟩ := h1
 exact ⟨rfl, List.append_cancel_left h⟩
theorem key_ne (v : Vl) : v.key ≠ [] := by
 unfold Vl.key keyV
 repeat' split
 all_goals simp
theorem may_kind' {v : Vl} (h : v.may = true) : v.k = 0 ∨ v.k = 1 ∨ v.k = 2 ∨ v.k = 3 ∨ v.k = 4 := by
 unfold Vl.may mayF at h
 repeat' split at h
 all_goals first | (simp; omega) | omega | cases h
theorem head_some (l : List Nat) (hb' : ∀ x ∈ l, x < 256) (hl : l.length ≤ 100000) (v : Vl) (n : Nat) (h : headF l = some (v, n)) : v.may = true ∧ v.fits ∧ ∃ r, l = v.key ++ r ∧ n = v.key.length := by
 rcases l with _ | ⟨k, rest⟩
 ·simp [headF] at h
 have hk := hb' k (by simp)
 have hrest : ∀ x ∈ rest, x < 256 := fun x hx => hb' x (by simp [hx])
 simp only [headF] at h
 cases hh : headR k rest with
 | none => rw [hh] at h; simp at h
 | some p =>
   obtain ⟨u, m⟩ := p
   rw [hh] at h
   simp only at h
   split at h
   ·rename_i hmay
    simp only [Option.some.injEq, Prod.mk.injEq] at h
    obtain ⟨rfl, rfl⟩ := h
    refine ⟨hmay, ?_⟩
    unfold headR at hh
    split at hh
    ·rename_i e; subst e
     split at hh
     ·cases hh
     ·simp only [Option.some.injEq, Prod.mk.injEq] at hh
      obtain ⟨rfl, rfl⟩ := hh
      rcases rest with _ | ⟨x, r⟩
      ·simp at *
      ·have hx := hrest x (by simp)
       refine ⟨⟨⟨by simp, by simp [beN]; omega, by simp [ByteArray.size]⟩, by simp, by simp⟩, r, ?_, ?_⟩
       ·simp [Vl.key, keyV, hi, beN]; omega
       ·simp [Vl.key, keyV, hi_len]
    ·split at hh
     ·rename_i e; subst e
      split at hh
      ·cases hh
      ·rename_i hlen
       simp only [Option.some.injEq, Prod.mk.injEq] at hh
       obtain ⟨rfl, rfl⟩ := hh
       obtain ⟨h1, h2⟩ := hi8_be (rest.take 8) (by rw [List.length_take]; omega) (fun x hx => hrest x (List.mem_of_mem_take hx))
       refine ⟨⟨⟨by simp only; omega, by simp only; omega, by simp [ByteArray.size]⟩, by simp, by simp⟩, rest.drop 8, ?_, ?_⟩
       ·simp only [Vl.key, keyV]
        simp
        rw [h1, List.take_append_drop]
       ·simp [Vl.key, keyV, hi_len]
     ·split at hh
      ·rename_i e
       cases hd : decS false [] 0 rest with
       | none => rw [hd] at hh; cases hh
       | some q =>
         obtain ⟨t, m'⟩ := q
         rw [hd] at hh
         simp only [Option.map_some, Option.some.injEq, Prod.mk.injEq] at hh
         obtain ⟨rfl, rfl⟩ := hh
         obtain ⟨t', r, h1, h2, h3⟩ := (dec_some rest [] 0 t m').1 hd
         simp only [List.nil_append] at h1
         subst h1
         have hbt : ∀ x ∈ t, x < 256 := fun x hx => hrest x (by rw [h2]; exact List.mem_append_left _ (esc_mem t x hx))
         have hlt : t.length ≤ 100000 := by
          have := esc_ge t
          have h4 := congrArg List.length h2
          rw [List.length_append] at h4
          simp at hl
          omega
         have hs := sb_bs t hbt
         refine ⟨⟨⟨by simp, by simp, by simp only; rw [bs_size]; omega⟩, by simp only; omega, by simp only; omega⟩, r, ?_, ?_⟩
         ·rcases e with rfl | rfl
          ·simp only [Vl.key, keyV]; simp [hs, h2]
          ·simp only [Vl.key, keyV]; simp [hs, h2]
         ·rcases e with rfl | rfl
          ·simp only [Vl.key, keyV]; simp [hs, h3]
          ·simp only [Vl.key, keyV]; simp [hs, h3]
      ·simp only [Option.some.injEq, Prod.mk.injEq] at hh
       obtain ⟨rfl, rfl⟩ := hh
       rename_i n1 n2 n3
       have : k = 0 := by
        have h := may_kind' hmay
        simp only at h
        omega
       subst this
       exact ⟨⟨⟨by simp, by simp, by simp [ByteArray.size]⟩, by simp, by simp⟩, rest, rfl, rfl⟩
   ·cases h
theorem keys_cons (v : Vl) (L : List Vl) : keys (v :: L) = v.key ++ keys L := by unfold keys; rw [List.flatMap_cons]
def Good1 (L : List Vl) : Prop := ∀ x ∈ L, x.may = true ∧ x.fit
def kvF : Nat → List Nat → Bool
 | 0, l => l.isEmpty
 | f + 1, l => l.isEmpty || (match headF l with | some (_, n) => kvF f (l.drop n) | none => false)
theorem kvF_iff : ∀ (f : Nat) (l : List Nat), (∀ x ∈ l, x < 256) → l.length ≤ 100000 → l.length ≤ f → (kvF f l = true ↔ ∃ L, Good1 L ∧ keys L = l)
 | 0, l, _, _, hf => by
   have : l = [] := List.eq_nil_of_length_eq_zero (by omega)
   subst this
   exact ⟨fun _ => ⟨[], fun _ h => (by cases h), rfl⟩, fun _ => rfl⟩
 | f + 1, l, hb, hl, hf => by
   by_cases h0 : l = []
   ·subst h0
    exact ⟨fun _ => ⟨[], fun _ h => (by cases h), rfl⟩, fun _ => rfl⟩
   ·have he : l.isEmpty = false := by
     cases l with
     | nil => exact absurd rfl h0
     | cons => rfl
    unfold kvF
    rw [he, Bool.false_or]
    cases hh : headF l with
    | none =>
      refine ⟨fun h => (by cases h), fun ⟨L, hL, hk⟩ => ?_⟩
      rcases L with _ | ⟨v, L⟩
      ·exact absurd hk.symm h0
      ·have hv := hL v (by simp)
       rw [keys_cons] at hk
       have := head_key v (keys L) hv.1 hv.2
       rw [hk, hh] at this
       cases this
    | some p =>
      obtain ⟨v, n⟩ := p
      obtain ⟨hm, hfi, r, hr, hn⟩ := head_some l hb hl v n hh
      have hp : 0 < v.key.length := List.length_pos_iff.2 (key_ne v)
      have hrl : l.length = v.key.length + r.length := by rw [hr, List.length_append]
      have hd : l.drop n = r := by rw [hn]; conv => lhs; rw [hr]
                                   rw [List.drop_left]
      have ih := kvF_iff f r (fun x hx => hb x (by rw [hr]; exact List.mem_append_right _ hx)) (by omega) (by omega)
      simp only [hd]
      rw [ih]
      constructor
      ·rintro ⟨L, hL, hk⟩
       refine ⟨v :: L, fun x hx => ?_, by rw [keys_cons, hk, ← hr]⟩
       rcases List.mem_cons.1 hx with rfl | hx
       ·exact ⟨hm, hfi.1⟩
       ·exact hL x hx
      ·rintro ⟨L, hL, hk⟩
       rcases L with _ | ⟨u, L⟩
       ·exact absurd hk.symm h0
       ·have hu := hL u (by simp)
        rw [keys_cons, hr] at hk
        obtain ⟨_, e2⟩ := key_unique hu.1 hu.2 hm hfi.1 hk
        exact ⟨L, fun x hx => hL x (by simp [hx]), e2⟩
def isKeyB (s : ByteArray) : Bool := !(s.size == 0) && kvF s.size (sb s)
theorem isKeyB_iff (s : ByteArray) (hs : s.size ≤ 100000) (h0 : ¬ s.size = 0) : isKeyB s = true ↔ ∃ L, Good1 L ∧ keys L = sb s := by
 unfold isKeyB
 rw [← kvF_iff s.size (sb s) (sb_byte s) (by rw [sb_length]; exact hs) (by rw [sb_length]; exact Nat.le_refl _)]
 simp [h0]
theorem isKeyB_int (n : Int) (h0 : -9223372036854775808 ≤ n) (h1 : n ≤ 9223372036854775807) : isKeyB (bs (keys [⟨2, n, ⟨#[]⟩⟩])) = true := by
 have hg : Good1 [(⟨2, n, ⟨#[]⟩⟩ : Vl)] := fun x hx => by
  rw [List.mem_singleton.1 hx]
  exact ⟨by simp [Vl.may, mayF], h0, h1, by simp [ByteArray.size]⟩
 have hl : (keys [(⟨2, n, ⟨#[]⟩⟩ : Vl)]).length = 9 := by simp [keys, Vl.key, keyV, hi_len]
 have hb : ∀ x ∈ keys [(⟨2, n, ⟨#[]⟩⟩ : Vl)], x < 256 := by
  intro x hx
  simp [keys, Vl.key, keyV, hi] at hx
  omega
 rw [isKeyB_iff _ (by rw [bs_size, hl]; omega) (by rw [bs_size, hl]; omega)]
 exact ⟨_, hg, (sb_bs _ hb).symm⟩
def okAt (c i : Nat) : Bool := (decide (97 ≤ c) && decide (c ≤ 122)) || (!(i == 0) && ((decide (48 ≤ c) && decide (c ≤ 57)) || c == 95))
def byteAt (s : ByteArray) (i : Nat) : Nat := if h : i < s.size then (s[i]'h).toNat else 0
theorem byteAt_eq (s : ByteArray) (i : Nat) (h : i < s.size) : byteAt s i = (s[i]'h).toNat := by unfold byteAt; rw [dif_pos h]
def nameTo (s : ByteArray) (k : Nat) : Bool := (List.range k).all fun i => okAt (byteAt s i) i
theorem nameTo_succ (s : ByteArray) (k : Nat) : nameTo s (k + 1) = (nameTo s k && okAt (byteAt s k) k) := by
 unfold nameTo; rw [List.range_succ, List.all_append]; simp
theorem nameTo_false (s : ByteArray) (k n : Nat) (hk : k < n) (h : okAt (byteAt s k) k = false) : nameTo s n = false := by
 unfold nameTo; rw [List.all_eq_false]
 exact ⟨k, List.mem_range.2 hk, by simp [h]⟩
def nameF (s : ByteArray) : Bool := decide (1 ≤ s.size) && decide (s.size ≤ 32) && nameTo s s.size
theorem nameF_at {s : ByteArray} (h0 : 1 ≤ s.size) (h1 : s.size ≤ 32) : nameF s = nameTo s s.size := by
 unfold nameF; simp [h0, h1]
theorem nameF_no {s : ByteArray} (h : ¬ (1 ≤ s.size ∧ s.size ≤ 32)) : nameF s = false := by
 unfold nameF
 have e : (decide (1 ≤ s.size) && decide (s.size ≤ 32)) = false := by simp; omega
 rw [e]; rfl
theorem nameF_size {s : ByteArray} (h : nameF s = true) : 1 ≤ s.size ∧ s.size ≤ 32 := by
 by_cases hh : 1 ≤ s.size ∧ s.size ≤ 32
 ·exact hh
 ·rw [nameF_no hh] at h; cases h
theorem okAt_high {c : Nat} (i : Nat) (h : 128 ≤ c) : okAt c i = false := by
 unfold okAt
 have e1 : decide (c ≤ 122) = false := by simp; omega
 have e2 : decide (c ≤ 57) = false := by simp; omega
 have e3 : (c == 95) = false := by simp; omega
 rw [e1, e2, e3]; simp
set_option maxHeartbeats 2000000 in
set_option maxRecDepth 100000 in
theorem name_any (s : ByteArray) (w : World) (hs : s.size ≤ 140737488355328) :
 Calls Tryz.prog 84 #[.string s] w fun e w' => e = .returned (.bool (nameF s)) ∧ Hid (Below w.heap.size w w') := by
 have HB := fun s pos => Lib.hid ((Below.refl w.heap.size w).alloc (Nat.le_refl _) (.stringIter s pos))
 by_cases hz : 1 ≤ s.size ∧ s.size ≤ 32
 ·obtain ⟨hz0, hz1⟩ := hz
  have HN := Lib.hid (nameF_at hz0 hz1)
  go_enter Tryz.func84, Tryz.ntmps84
  go_wp2_with fail
  go_loopw [3] (fun _ wr => ∃ pos : Nat, pos ≤ s.size ∧ Hid (nameTo s pos = true) ∧ wr = w.iter s pos) (fun _ wr => s.size - wr.iterPos w.heap.size)
  case atStart => exact ⟨0, by omega, rfl, rfl⟩
  case round =>
   obtain ⟨pos, hpos, HT, rfl⟩ := hrel
   by_cases hp : pos < s.size
   ·have HF := Lib.hid (nameTo_false s pos s.size hp)
    by_cases ha : (s[pos]'hp).toNat < 128
    ·have hnx : ∀ ty, (Instr.next (.pointer (some ⟨w.heap.size, 0, none⟩)) true ty).run Tryz.prog (w.iter s pos) = _ := fun ty => run_next_ascii w s pos ty hp ha
     have HE := Lib.hid (byteAt_eq s pos hp)
     have HT2 : Hid (nameTo s (pos + 1) = okAt (byteAt s pos) pos) := by show _ = _; rw [nameTo_succ, HT.out, Bool.true_and]
     generalize (s[pos]'hp).toNat = c at *
     rw [HE.out] at HF HT2
     clear HE
     have hcs : (97 ≤ c ∧ c ≤ 122) ∨ c < 48 ∨ (48 ≤ c ∧ c ≤ 57) ∨ (58 ≤ c ∧ c ≤ 94) ∨ c = 95 ∨ c = 96 ∨ 123 ≤ c := by omega
     rcases hcs with ⟨h1, h2⟩ | h1 | ⟨h1, h2⟩ | ⟨h1, h2⟩ | rfl | rfl | h1
     ·have HO : Hid (okAt c pos = true) := by show _ = _; simp [okAt, h1, h2]
      go_wp2_with fail
      go_roundw
      case rel => exact ⟨pos + 1, by omega, by rw [HT2.out]; exact HO, rfl⟩
      case measure => simp; omega
     ·have HO : Hid (okAt c pos = false) := by show _ = _; simp [okAt]; omega
      have hq : ((c : Int) == 95) = false := by simp; omega
      go_wp2_with fail
      all_goals first | (go_ret; exact ⟨by rw [HN.out, HF.out HO.out]; rfl, HB _ _⟩) | (exfalso; rename_i hh; simp at hh; omega)
     ·by_cases h0 : pos = 0
      ·have HO : Hid (okAt c pos = false) := by show _ = _; simp [okAt, h0]; omega
       subst h0
       go_wp2_with fail
       go_ret
       exact ⟨by rw [HN.out, HF.out HO.out]; rfl, HB _ _⟩
      ·have HO : Hid (okAt c pos = true) := by show _ = _; simp [okAt, h0, h1, h2]
       have hq : ((pos : Int) == 0) = false := by simp; omega
       go_wp2_with fail
       go_roundw
       case rel => exact ⟨pos + 1, by omega, by rw [HT2.out]; exact HO, rfl⟩
       case measure => simp; omega
     ·have HO : Hid (okAt c pos = false) := by show _ = _; simp [okAt]; omega
      have hq : ((c : Int) == 95) = false := by simp; omega
      go_wp2_with fail
      all_goals first | (go_ret; exact ⟨by rw [HN.out, HF.out HO.out]; rfl, HB _ _⟩) | (exfalso; rename_i hh; simp at hh; omega)
     ·by_cases h0 : pos = 0
      ·have HO : Hid (okAt 95 pos = false) := by show _ = _; simp [okAt, h0]
       subst h0
       go_wp2_with fail
       go_ret
       exact ⟨by rw [HN.out, HF.out HO.out]; rfl, HB _ _⟩
      ·have HO : Hid (okAt 95 pos = true) := by show _ = _; simp [okAt, h0]
       have hq : ((pos : Int) == 0) = false := by simp; omega
       go_wp2_with fail
       go_roundw
       case rel => exact ⟨pos + 1, by omega, by rw [HT2.out]; exact HO, rfl⟩
       case measure => simp; omega
     ·have HO : Hid (okAt 96 pos = false) := by show _ = _; simp [okAt]
      go_wp2_with fail
      all_goals first | (go_ret; exact ⟨by rw [HN.out, HF.out HO.out]; rfl, HB _ _⟩) | (exfalso; rename_i hh; simp at hh; omega)
     ·have HO : Hid (okAt c pos = false) := by show _ = _; simp [okAt]; omega
      have hq : ((c : Int) == 95) = false := by simp; omega
      go_wp2_with fail
      all_goals first | (go_ret; exact ⟨by rw [HN.out, HF.out HO.out]; rfl, HB _ _⟩) | (exfalso; rename_i hh; simp at hh; omega)
    ·have hnx : ∀ ty, (Instr.next (.pointer (some ⟨w.heap.size, 0, none⟩)) true ty).run Tryz.prog (w.iter s pos) = _ := fun ty => run_next_any w s pos ty hp
     have hr := (decode_high s pos hp (by omega)).1
     have hr2 := decode_le s pos
     have HO : Hid (okAt (byteAt s pos) pos = false) := by show _ = _; rw [byteAt_eq s pos hp]; exact okAt_high pos (by omega)
     generalize (Utf8.decode s pos).1 = r at *
     generalize (Utf8.decode s pos).2 = d at *
     have hq : ((r : Int) == 95) = false := by simp; omega
     go_wp2_with fail
     all_goals first | (go_ret; exact ⟨by rw [HN.out, HF.out HO.out]; rfl, HB _ _⟩) | (exfalso; rename_i hh; simp at hh; omega)
   ·obtain rfl : pos = s.size := by omega
    have hnx : ∀ ty, (Instr.next (.pointer (some ⟨w.heap.size, 0, none⟩)) true ty).run Tryz.prog (w.iter s s.size) = _ := fun ty => run_next_end w s s.size ty hp
    go_wp2_with fail
    go_ret
    exact ⟨by rw [HN.out, HT.out]; rfl, HB _ _⟩
 ·have HN := Lib.hid (nameF_no hz)
  have HB0 := Lib.hid (Below.refl w.heap.size w)
  by_cases h1 : 1 ≤ s.size
  ·have h2 : 32 < s.size := by omega
   go_enter Tryz.func84, Tryz.ntmps84
   go_wp2_with fail
   go_ret
   exact ⟨by rw [HN.out]; rfl, HB0⟩
  ·have h2 : s.size = 0 := by omega
   go_enter Tryz.func84, Tryz.ntmps84
   go_wp2_with fail
   go_ret
   exact ⟨by rw [HN.out]; rfl, HB0⟩
theorem okAt_zero {c : Nat} (h : okAt c 0 = true) : 97 ≤ c ∧ c ≤ 122 := by simpa [okAt] using h
theorem okAt_bad {c : Nat} (h : ¬ (97 ≤ c ∧ c ≤ 122)) : okAt c 0 = false := by
 cases hh : okAt c 0
 ·rfl
 ·exact absurd (okAt_zero hh) h
set_option maxHeartbeats 2000000 in
set_option maxRecDepth 100000 in
theorem refName_any (s : ByteArray) (w : World) :
 Calls Tryz.prog 12 #[.string s] w fun e w' => e = .returned (.bool (nameF s)) ∧ w' = w := by
 by_cases hz : 1 ≤ s.size ∧ s.size ≤ 32
 ·obtain ⟨hz0, hz1⟩ := hz
  have HN := Lib.hid (nameF_at hz0 hz1)
  have h0z : 0 < s.size := by omega
  have HE0 := Lib.hid (byteAt_eq s 0 h0z)
  by_cases hc : 97 ≤ (s[0]'h0z).toNat ∧ (s[0]'h0z).toNat ≤ 122
  ·obtain ⟨hc0, hc1⟩ := hc
   go_enter Tryz.func12, Tryz.ntmps12
   go_wp2_with fail
   go_loopw [3] (fun i wr => ∃ pos : Nat, pos ≤ s.size ∧ i = .int .i64 pos ∧ Hid (nameTo s pos = true) ∧ wr = w) (fun i _ => s.size - (intOf i).toNat)
   case atStart => exact ⟨0, by omega, rfl, rfl, rfl⟩
   case round =>
    obtain ⟨pos, hpos, rfl, HT, rfl⟩ := hrel
    by_cases hp : pos < s.size
    ·have HF := Lib.hid (nameTo_false s pos s.size hp)
     have HE := Lib.hid (byteAt_eq s pos hp)
     have HT2 : Hid (nameTo s (pos + 1) = okAt (byteAt s pos) pos) := by show _ = _; rw [nameTo_succ, HT.out, Bool.true_and]
     have HZ : Hid (pos = 0 → 97 ≤ (s[pos]'hp).toNat ∧ (s[pos]'hp).toNat ≤ 122) := fun e => by subst e; exact ⟨hc0, hc1⟩
     have hb := (s[pos]'hp).toNat_lt
     rw [HE.out] at HF HT2
     clear HE HE0
     have hcs : (97 ≤ (s[pos]'hp).toNat ∧ (s[pos]'hp).toNat ≤ 122) ∨ (s[pos]'hp).toNat < 48 ∨ (48 ≤ (s[pos]'hp).toNat ∧ (s[pos]'hp).toNat ≤ 57) ∨ (58 ≤ (s[pos]'hp).toNat ∧ (s[pos]'hp).toNat ≤ 94) ∨ (s[pos]'hp).toNat = 95 ∨ (s[pos]'hp).toNat = 96 ∨ 123 ≤ (s[pos]'hp).toNat := by omega
     rcases hcs with ⟨h1, h2⟩ | h1 | ⟨h1, h2⟩ | ⟨h1, h2⟩ | h1 | h1 | h1
     ·have HO : Hid (okAt (s[pos]'hp).toNat pos = true) := by show _ = _; simp [okAt, h1, h2]
      go_wp2_with fail
      go_roundw
      case rel => exact ⟨pos + 1, by omega, by go_num, by rw [HT2.out]; exact HO, by trivial⟩
      case measure => simp [intOf]; omega
     ·have HO : Hid (okAt (s[pos]'hp).toNat pos = false) := by show _ = _; simp [okAt]; omega
      have hq : (((s[pos]'hp).toNat : Int) != 95) = true := by simp; omega
      go_wp2_with fail
      go_ret
      exact ⟨by rw [HN.out, HF.out HO.out]; rfl, by trivial⟩
     ·have h0 : pos ≠ 0 := fun e => by have := HZ.out e; omega
      have HO : Hid (okAt (s[pos]'hp).toNat pos = true) := by show _ = _; simp [okAt, h0, h1, h2]
      go_wp2_with fail
      go_roundw
      case rel => exact ⟨pos + 1, by omega, by go_num, by rw [HT2.out]; exact HO, by trivial⟩
      case measure => simp [intOf]; omega
     ·have HO : Hid (okAt (s[pos]'hp).toNat pos = false) := by show _ = _; simp [okAt]; omega
      have hq : (((s[pos]'hp).toNat : Int) != 95) = true := by simp; omega
      go_wp2_with fail
      go_ret
      exact ⟨by rw [HN.out, HF.out HO.out]; rfl, by trivial⟩
     ·have h0 : pos ≠ 0 := fun e => by have := HZ.out e; omega
      have HO : Hid (okAt (s[pos]'hp).toNat pos = true) := by show _ = _; simp [okAt, h0, h1]
      have hq : (((s[pos]'hp).toNat : Int) != 95) = false := by simp; omega
      go_wp2_with fail
      go_roundw
      case rel => exact ⟨pos + 1, by omega, by go_num, by rw [HT2.out]; exact HO, by trivial⟩
      case measure => simp [intOf]; omega
     ·have HO : Hid (okAt (s[pos]'hp).toNat pos = false) := by show _ = _; simp [okAt]; omega
      have hq : (((s[pos]'hp).toNat : Int) != 95) = true := by simp; omega
      go_wp2_with fail
      go_ret
      exact ⟨by rw [HN.out, HF.out HO.out]; rfl, by trivial⟩
     ·have HO : Hid (okAt (s[pos]'hp).toNat pos = false) := by show _ = _; simp [okAt]; omega
      have hq : (((s[pos]'hp).toNat : Int) != 95) = true := by simp; omega
      go_wp2_with fail
      go_ret
      exact ⟨by rw [HN.out, HF.out HO.out]; rfl, by trivial⟩
    ·obtain rfl : pos = s.size := by omega
     go_wp2_with fail
     go_ret
     exact ⟨by rw [HN.out, HT.out]; rfl, by trivial⟩
  ·have HO : Hid (nameTo s s.size = false) := nameTo_false s 0 s.size h0z (by rw [HE0.out]; exact okAt_bad hc)
   by_cases hc0 : 97 ≤ (s[0]'h0z).toNat
   ·have hc1 : 122 < (s[0]'h0z).toNat := by omega
    go_enter Tryz.func12, Tryz.ntmps12
    go_wp2_with fail
    go_ret
    exact ⟨by rw [HN.out, HO.out]; rfl, by trivial⟩
   ·have hc1 : (s[0]'h0z).toNat < 97 := by omega
    go_enter Tryz.func12, Tryz.ntmps12
    go_wp2_with fail
    go_ret
    exact ⟨by rw [HN.out, HO.out]; rfl, by trivial⟩
 ·have HN := Lib.hid (nameF_no hz)
  by_cases h1 : 1 ≤ s.size
  ·have h2 : 32 < s.size := by omega
   go_enter Tryz.func12, Tryz.ntmps12
   go_wp2_with fail
   go_ret
   exact ⟨by rw [HN.out]; rfl, by trivial⟩
  ·have h2 : s.size = 0 := by omega
   go_enter Tryz.func12, Tryz.ntmps12
   go_wp2_with fail
   go_ret
   exact ⟨by rw [HN.out]; rfl, by trivial⟩
def shl (m k : Nat) : Nat := m * 256 ^ k % 18446744073709551616
theorem shl_byte (m k : Nat) (hm : m < 18446744073709551616) (hk : k < 8) : shl m k / 72057594037927936 = m / 2 ^ (8 * (8 - 1 - k)) % 256 := by
 unfold shl
 have e : k = 0 ∨ k = 1 ∨ k = 2 ∨ k = 3 ∨ k = 4 ∨ k = 5 ∨ k = 6 ∨ k = 7 := by omega
 rcases e with rfl | rfl | rfl | rfl | rfl | rfl | rfl | rfl <;> simp <;> omega
theorem shl_next (m k : Nat) : shl m k * 256 % 18446744073709551616 = shl m (k + 1) := by
 unfold shl
 rw [Nat.mod_mul_mod, Nat.pow_succ, Nat.mul_assoc]
theorem shl_lt (m k : Nat) : shl m k < 18446744073709551616 := Nat.mod_lt _ (by omega)
theorem may_kind {k n : Int} {s : ByteArray} (h : mayF k n s = true) : k = 0 ∨ k = 1 ∨ k = 2 ∨ k = 3 ∨ k = 4 := by
 unfold mayF at h
 repeat' split at h
 all_goals first | (simp; omega) | omega | cases h
theorem keyV_one (n : Int) (s : ByteArray) : keyV 1 n s = [1] ++ [(n % 256).toNat] := by
 simp [keyV, hi]
theorem keyV_two (n : Int) (s : ByteArray) : keyV 2 n s = [2] ++ hi (n + 9223372036854775808) 8 8 := rfl
theorem keyV_text3 (n : Int) (s : ByteArray) : keyV 3 n s = [3] ++ (esc (sb s) ++ [0, 1]) := rfl
theorem keyV_text4 (n : Int) (s : ByteArray) : keyV 4 n s = [4] ++ (esc (sb s) ++ [0, 1]) := rfl
set_option maxHeartbeats 8000000 in
set_option maxRecDepth 100000 in
theorem refKey_any (A : Option Addr) (L : List Vl) (n c : Nat) (w : World) (hn : L.length = n) (hl : n ≤ 64) (hA : VRow w A L) (hf : ∀ x ∈ L, x.fit) (hm : ∀ x ∈ L, x.may = true) :
 Calls Tryz.prog 95 #[.slice A n c] w fun x w' => x = .returned (.string (bs (keys L))) ∧ Hid (Below w.heap.size w w') := by
 have HN := Lib.hid hn
 have HA := Lib.hid hA
 have HF := Lib.hid hf
 have HM := Lib.hid hm
 clear hn hA hf hm
 go_enter Tryz.func95, Tryz.ntmps95
 go_wp2_with fail
 go_loopw [3, 4] (fun x i wr => ∃ (k : Nat) (u : Value), k ≤ n ∧ i = .int .i64 k ∧ u = x ∧ Hid (Own w.heap.size wr u (keys (L.take k))) ∧ Hid (Below w.heap.size w wr)) (fun _ i _ => n - (intOf i).toNat)
 case atStart => exact ⟨0, _, by omega, rfl, rfl, own_nil _ _, Below.refl _ _⟩
 case round =>
  obtain ⟨k, u, hk, rfl, rfl, HO, HB⟩ := hrel
  by_cases hlt : k < n
  ·have hkl : k < L.length := by rw [HN.out]; exact hlt
   obtain ⟨b, off, rfl, hc⟩ := (HA.out.below HB.out) (by intro e; rw [e] at hkl; simp at hkl)
   obtain ⟨c0, c1, c2⟩ := hc k hkl
   have hfit := HF.out L[k] (List.getElem_mem hkl)
   have HKS := Lib.hid (keys_succ L k hkl)
   have HLE := Lib.hid (keys_le L k (by omega) (fun x hx => HM.out x (List.mem_of_mem_take hx)))
   have hmay : mayF L[k].k L[k].n L[k].s = true := HM.out L[k] (List.getElem_mem hkl)
   clear hc
   unfold Vl.key at HKS
   generalize L[k] = x at *
   obtain ⟨xk, xn, xs⟩ := x
   obtain ⟨f0, f1, f2⟩ := hfit
   simp only at c0 c1 c2 f0 f1 f2 hmay
   have hsz := may_size hmay
   have hkk := may_kind hmay
   have HMAY := Lib.hid hmay
   clear hmay
   obtain ⟨l, hl2⟩ : ∃ l, keys (L.take k) = l := ⟨_, rfl⟩
   rw [hl2] at HO HKS HLE
   have hll : l.length ≤ 530000 := by have := HLE.out; omega
   clear HLE hl2
   have HW : Hid (Below w.heap.size w (wr.alloc (.cells #[.int .i64 xk, .int .i64 xn, .string xs] 115))) := HB.out.alloc HB.out.size _
   have HH : Hid (Has (wr.alloc (.cells #[.int .i64 xk, .int .i64 xn, .string xs] 115)) wr.heap.size 115 #[.int .i64 xk, .int .i64 xn, .string xs]) := Has.new _ _ _
   have HO0 : Hid (Own w.heap.size (wr.alloc (.cells #[.int .i64 xk, .int .i64 xn, .string xs] 115)) u l) := HO.out.alloc _
   obtain ⟨W1, hW1⟩ : ∃ W1, W1 = wr.alloc (.cells #[.int .i64 xk, .int .i64 xn, .string xs] 115) := ⟨_, rfl⟩
   have hZ : W1.heap.size = wr.heap.size + 1 := by rw [hW1]; simp
   rw [← hW1] at HW HH HO0
   rcases hkk with rfl | rfl | rfl | rfl | rfl
   ·have HA1 := Lib.hid (app_at W1 (wr.heap.size + 1) hZ.symm w.heap.size u l [0] #[.int .u8 0] rfl 1 rfl HO0.out HW.out.size (by omega))
    go_wp2_with (at_builtin; rw [← hW1]; refine wpList_app rfl _ _ 70 70 rfl u (.slice (some ⟨wr.heap.size + 1, 0, none⟩) 1 1) rfl rfl ?_; obtain ⟨R, W', hrun, hmade⟩ := HA1.out; refine ⟨R, W', hrun, ?_⟩; have HM1 := Lib.hid hmade; have hhas := hmade.2.2 _ _ _ (by decide) HH.out; clear hrun hmade HA1; have hc0 := hhas.cell 0; have hc1 := hhas.cell 1; have hc2 := hhas.cell 2; simp at hc0 hc1 hc2; have HH1 := Lib.hid hhas; clear hhas)
    go_roundw
    case rel => exact ⟨k + 1, R, by omega, by go_num, rfl, by rw [HKS.out]; exact HM1.out.1, HW.out.trans HM1.out.2.1⟩
    case measure => simp [intOf]; omega
   ·have HA1 := Lib.hid (app_at W1 (wr.heap.size + 1) hZ.symm w.heap.size u l [1] #[.int .u8 1] rfl 1 rfl HO0.out HW.out.size (by omega))
    go_wp2_with (first
     | (at_builtin; rw [← hW1]; refine wpList_app rfl _ _ 70 70 rfl u (.slice (some ⟨wr.heap.size + 1, 0, none⟩) 1 1) rfl rfl ?_; obtain ⟨R, W', hrun, hmade⟩ := HA1.out; refine ⟨R, W', hrun, ?_⟩; have HM1 := Lib.hid hmade; have hhas := hmade.2.2 _ _ _ (by decide) HH.out; clear hrun hmade HA1; have hc0 := hhas.cell 0; have hc1 := hhas.cell 1; have hc2 := hhas.cell 2; simp at hc0 hc1 hc2; have HH1 := Lib.hid hhas; clear hhas)
     | (at_builtin; refine wpList_app rfl _ _ 70 70 rfl R (.slice (some ⟨W'.heap.size, 0, none⟩) 1 1) rfl rfl ?_; obtain ⟨R2, W2, hrun, hmade⟩ := app_new W' w.heap.size R _ [(xn % 256).toNat] #[.int .u8 (xn % 256)] (by simp [bv]; omega) 1 rfl HM1.out.1 (Nat.le_trans HW.out.size HM1.out.2.1.size) (by simp; omega); refine ⟨R2, W2, hrun, ?_⟩; have HM2 := Lib.hid hmade; clear hrun hmade))
    go_roundw
    case rel => exact ⟨k + 1, R2, by omega, by go_num, rfl, by rw [HKS.out, keyV_one]; have h := HM2.out.1; rw [List.append_assoc] at h; exact h, HW.out.trans (HM1.out.2.1.trans HM2.out.2)⟩
    case measure => simp [intOf]; omega
   ·have HA1 := Lib.hid (app_at W1 (wr.heap.size + 1) hZ.symm w.heap.size u l [2] #[.int .u8 2] rfl 1 rfl HO0.out HW.out.size (by omega))
    go_wp2_with (at_builtin; rw [← hW1]; refine wpList_app rfl _ _ 70 70 rfl u (.slice (some ⟨wr.heap.size + 1, 0, none⟩) 1 1) rfl rfl ?_; obtain ⟨R, W', hrun, hmade⟩ := HA1.out; refine ⟨R, W', hrun, ?_⟩; have HM1 := Lib.hid hmade; have hhas := hmade.2.2 _ _ _ (by decide) HH.out; clear hrun hmade HA1; have hc0 := hhas.cell 0; have hc1 := hhas.cell 1; have hc2 := hhas.cell 2; simp at hc0 hc1 hc2; have HH1 := Lib.hid hhas; clear hhas)
    obtain ⟨wo, rfl⟩ : ∃ wo : World, wo = wr := ⟨_, rfl⟩
    obtain ⟨m, hm⟩ : ∃ m : Nat, (m : Int) = xn + 9223372036854775808 := ⟨(xn + 9223372036854775808).toNat, by omega⟩
    have hm2 : m < 18446744073709551616 := by omega
    have HW2 : IntKind.u64.wrap (IntKind.u64.wrap xn + 9223372036854775808) = ((shl m 0 : Nat) : Int) := by
     unfold shl
     rw [IntKind.wrap_u64, IntKind.wrap_u64]
     omega
    rw [HW2]
    clear HW2
    have HMM := Lib.hid hm
    clear hm
    go_loopw [3, 6, 7] (fun x nn i wr => ∃ (j : Nat) (u2 : Value), j ≤ 8 ∧ i = .int .i64 j ∧ nn = .int .u64 (shl m j : Nat) ∧ u2 = x ∧ Hid (Own w.heap.size wr u2 (l ++ [2] ++ hi (m : Int) 8 j)) ∧ Hid (Below w.heap.size w wr)) (fun _ _ i _ => 8 - (intOf i).toNat)
    case atStart => exact ⟨0, R, by omega, rfl, rfl, rfl, by show Own _ _ _ _; simpa [hi] using HM1.out.1, HW.out.trans HM1.out.2.1⟩
    case round =>
     obtain ⟨j, u2, hj, rfl, rfl, rfl, HO2, HB2⟩ := hrel
     have hsl := shl_lt m j
     have HSN := Lib.hid (shl_next m j)
     by_cases hj8 : j < 8
     ·have HSB := Lib.hid (shl_byte m j hm2 hj8)
      have HHS := Lib.hid (hi_succ (m : Int) 8 j)
      generalize shl m j = N at *
      have HA2 := Lib.hid (app_new wr w.heap.size u2 (l ++ [2] ++ hi (m : Int) 8 j) [m / 2 ^ (8 * (8 - 1 - j)) % 256] #[.int .u8 ((N : Int) / 72057594037927936)] (by rw [← HSB.out]; simp [bv]) 1 rfl HO2.out HB2.out.size (by simp [hi_len]; omega))
      have HSI : Hid ((((m : Nat) : Int) / 2 ^ (8 * (8 - 1 - j)) % 256).toNat = m / 2 ^ (8 * (8 - 1 - j)) % 256) := by
       show _ = _
       rw [show ((m : Int) / 2 ^ (8 * (8 - 1 - j)) % 256) = ((m / 2 ^ (8 * (8 - 1 - j)) % 256 : Nat) : Int) by rw [Int.natCast_emod, Int.natCast_ediv, Int.natCast_pow]; rfl]
       exact Int.toNat_natCast _
      have HNN : Hid ((N : Int) * 256 % 18446744073709551616 = ((shl m (j + 1) : Nat) : Int)) := by show _ = _; rw [← HSN.out]; omega
      clear HSB HSN
      go_wp2_with (at_builtin; refine wpList_app rfl _ _ 70 70 rfl u2 (.slice (some ⟨wr.heap.size, 0, none⟩) 1 1) rfl rfl ?_; obtain ⟨R2, W2, hrun, hmade⟩ := HA2.out; refine ⟨R2, W2, hrun, ?_⟩; have HM2 := Lib.hid hmade; clear hrun hmade HA2)
      go_roundw
      case rel => exact ⟨j + 1, R2, by omega, by go_num, by first | rw [HNN.out] | (rw [← HNN.out, IntKind.wrap_u64]), rfl, by rw [HHS.out, HSI.out, ← List.append_assoc]; exact HM2.out.1, HB2.out.trans HM2.out.2⟩
      case measure => simp [intOf]; omega
     ·obtain rfl : j = 8 := by omega
      go_wp2_with fail
      go_roundw
      case rel => exact ⟨k + 1, u2, by omega, by go_num, rfl, by rw [HKS.out, keyV_two, ← HMM.out, ← List.append_assoc]; exact HO2, HB2⟩
      case measure => simp [intOf]; omega
   ·have HA1 := Lib.hid (app_at W1 (wr.heap.size + 1) hZ.symm w.heap.size u l [3] #[.int .u8 3] rfl 1 rfl HO0.out HW.out.size (by omega))
    go_wp2_with (at_builtin; rw [← hW1]; refine wpList_app rfl _ _ 70 70 rfl u (.slice (some ⟨wr.heap.size + 1, 0, none⟩) 1 1) rfl rfl ?_; obtain ⟨R, W', hrun, hmade⟩ := HA1.out; refine ⟨R, W', hrun, ?_⟩; have HM1 := Lib.hid hmade; have hhas := hmade.2.2 _ _ _ (by decide) HH.out; clear hrun hmade HA1; have hc0 := hhas.cell 0; have hc1 := hhas.cell 1; have hc2 := hhas.cell 2; simp at hc0 hc1 hc2; have HH1 := Lib.hid hhas; clear hhas)
    obtain ⟨wo, rfl⟩ : ∃ wo : World, wo = wr := ⟨_, rfl⟩
    clear hc0 hc1 hc2 hW1
    go_loopw [3, 8] (fun x i wr => ∃ (j : Nat) (u2 : Value), j ≤ xs.size ∧ i = .int .i64 j ∧ u2 = x ∧ Hid (Own w.heap.size wr u2 (l ++ [3] ++ esc ((sb xs).take j))) ∧ Hid (Below w.heap.size w wr) ∧ Hid (Has wr wo.heap.size 115 #[.int .i64 3, .int .i64 xn, .string xs])) (fun _ i _ => xs.size - (intOf i).toNat)
    case atStart => exact ⟨0, R, by omega, rfl, rfl, by show Own _ _ _ _; simpa [esc] using HM1.out.1, HW.out.trans HM1.out.2.1, HH1⟩
    case round =>
     obtain ⟨j, u2, hj, rfl, rfl, HO2, HB2, HH2⟩ := hrel
     have d2 := HH2.out.cell 2
     simp at d2
     have hel : (esc ((sb xs).take j)).length ≤ 2 * j := by
      have := esc_len ((sb xs).take j)
      rw [List.length_take] at this
      omega
     by_cases hjs : j < xs.size
     ·have HS := Lib.hid (sb_take_succ xs j hjs)
      by_cases hz : xs[j].toNat = 0
      ·have HE : Hid (esc ((sb xs).take (j + 1)) = esc ((sb xs).take j) ++ [0] ++ [255]) := by
        show _ = _
        rw [HS.out, esc_append, hz]; simp [esc]
       have hzz : ((xs[j].toNat : Int) == 0) = true := by rw [hz]; rfl
       have HA2 := Lib.hid (app_at wr wr.heap.size rfl w.heap.size u2 (l ++ [3] ++ esc ((sb xs).take j)) [0] #[.int .u8 0] rfl 1 rfl HO2.out HB2.out.size (by simp; omega))
       go_wp2_with (first
        | (at_builtin; refine wpList_app rfl _ _ 70 70 rfl u2 (.slice (some ⟨wr.heap.size, 0, none⟩) 1 1) rfl rfl ?_; obtain ⟨R2, W2, hrun, hmade⟩ := HA2.out; refine ⟨R2, W2, hrun, ?_⟩; have HM2 := Lib.hid hmade; have HH3 := Lib.hid (hmade.2.2 _ _ _ (by decide) HH2.out); have e2 := HH3.out.cell 2; simp at e2; clear hrun hmade HA2)
        | (at_builtin; refine wpList_app rfl _ _ 70 70 rfl R2 (.slice (some ⟨W2.heap.size, 0, none⟩) 1 1) rfl rfl ?_; obtain ⟨R3, W3, hrun, hmade⟩ := app_at W2 W2.heap.size rfl w.heap.size R2 _ [255] #[.int .u8 255] rfl 1 rfl HM2.out.1 (Nat.le_trans HB2.out.size HM2.out.2.1.size) (by simp; omega); refine ⟨R3, W3, hrun, ?_⟩; have HM3 := Lib.hid hmade; clear hrun hmade))
       go_roundw
       case rel => exact ⟨j + 1, R3, by omega, by go_num, rfl, by rw [HE.out, ← List.append_assoc, ← List.append_assoc]; exact HM3.out.1, HB2.out.trans (HM2.out.2.1.trans HM3.out.2.1), HM3.out.2.2 _ _ _ (by decide) HH3.out⟩
       case measure => simp [intOf]; omega
      ·have HE : Hid (esc ((sb xs).take (j + 1)) = esc ((sb xs).take j) ++ [xs[j].toNat]) := by
        show _ = _
        rw [HS.out, esc_append]; simp [esc, hz]
       have hzz : ((xs[j].toNat : Int) == 0) = false := by simp; omega
       have HA2 := Lib.hid (app_at wr wr.heap.size rfl w.heap.size u2 (l ++ [3] ++ esc ((sb xs).take j)) [xs[j].toNat] #[.int .u8 xs[j].toNat] (by simp [bv]) 1 rfl HO2.out HB2.out.size (by simp; omega))
       go_wp2_with (at_builtin; refine wpList_app rfl _ _ 70 70 rfl u2 (.slice (some ⟨wr.heap.size, 0, none⟩) 1 1) rfl rfl ?_; obtain ⟨R2, W2, hrun, hmade⟩ := HA2.out; refine ⟨R2, W2, hrun, ?_⟩; have HM2 := Lib.hid hmade; have HH3 := Lib.hid (hmade.2.2 _ _ _ (by decide) HH2.out); have e2 := HH3.out.cell 2; simp at e2; clear hrun hmade HA2)
       go_roundw
       case rel => exact ⟨j + 1, R2, by omega, by go_num, rfl, by rw [HE.out, ← List.append_assoc]; exact HM2.out.1, HB2.out.trans HM2.out.2.1, HH3⟩
       case measure => simp [intOf]; omega
     ·obtain rfl : j = xs.size := by omega
      have HT : Hid ((sb xs).take xs.size = sb xs) := List.take_of_length_le (by rw [sb_length]; exact Nat.le_refl _)
      have HA2 := Lib.hid (app_at wr wr.heap.size rfl w.heap.size u2 (l ++ [3] ++ esc ((sb xs).take xs.size)) [0, 1] #[.int .u8 0, .int .u8 1] rfl 2 rfl HO2.out HB2.out.size (by simp; omega))
      go_wp2_with (at_builtin; refine wpList_app rfl _ _ 70 70 rfl u2 (.slice (some ⟨wr.heap.size, 0, none⟩) 2 2) rfl rfl ?_; obtain ⟨R2, W2, hrun, hmade⟩ := HA2.out; refine ⟨R2, W2, hrun, ?_⟩; have HM2 := Lib.hid hmade; clear hrun hmade HA2)
      go_roundw
      case rel => exact ⟨k + 1, R2, by omega, by go_num, rfl, by rw [HKS.out, keyV_text3]; have h := HM2.out.1; rw [HT.out, List.append_assoc, List.append_assoc] at h; exact h, HB2.out.trans HM2.out.2.1⟩
      case measure => simp [intOf]; omega
   ·have HA1 := Lib.hid (app_at W1 (wr.heap.size + 1) hZ.symm w.heap.size u l [4] #[.int .u8 4] rfl 1 rfl HO0.out HW.out.size (by omega))
    go_wp2_with (at_builtin; rw [← hW1]; refine wpList_app rfl _ _ 70 70 rfl u (.slice (some ⟨wr.heap.size + 1, 0, none⟩) 1 1) rfl rfl ?_; obtain ⟨R, W', hrun, hmade⟩ := HA1.out; refine ⟨R, W', hrun, ?_⟩; have HM1 := Lib.hid hmade; have hhas := hmade.2.2 _ _ _ (by decide) HH.out; clear hrun hmade HA1; have hc0 := hhas.cell 0; have hc1 := hhas.cell 1; have hc2 := hhas.cell 2; simp at hc0 hc1 hc2; have HH1 := Lib.hid hhas; clear hhas)
    obtain ⟨wo, rfl⟩ : ∃ wo : World, wo = wr := ⟨_, rfl⟩
    clear hc0 hc1 hc2 hW1
    go_loopw [3, 8] (fun x i wr => ∃ (j : Nat) (u2 : Value), j ≤ xs.size ∧ i = .int .i64 j ∧ u2 = x ∧ Hid (Own w.heap.size wr u2 (l ++ [4] ++ esc ((sb xs).take j))) ∧ Hid (Below w.heap.size w wr) ∧ Hid (Has wr wo.heap.size 115 #[.int .i64 4, .int .i64 xn, .string xs])) (fun _ i _ => xs.size - (intOf i).toNat)
    case atStart => exact ⟨0, R, by omega, rfl, rfl, by show Own _ _ _ _; simpa [esc] using HM1.out.1, HW.out.trans HM1.out.2.1, HH1⟩
    case round =>
     obtain ⟨j, u2, hj, rfl, rfl, HO2, HB2, HH2⟩ := hrel
     have d2 := HH2.out.cell 2
     simp at d2
     have hel : (esc ((sb xs).take j)).length ≤ 2 * j := by
      have := esc_len ((sb xs).take j)
      rw [List.length_take] at this
      omega
     by_cases hjs : j < xs.size
     ·have HS := Lib.hid (sb_take_succ xs j hjs)
      by_cases hz : xs[j].toNat = 0
      ·have HE : Hid (esc ((sb xs).take (j + 1)) = esc ((sb xs).take j) ++ [0] ++ [255]) := by
        show _ = _
        rw [HS.out, esc_append, hz]; simp [esc]
       have hzz : ((xs[j].toNat : Int) == 0) = true := by rw [hz]; rfl
       have HA2 := Lib.hid (app_at wr wr.heap.size rfl w.heap.size u2 (l ++ [4] ++ esc ((sb xs).take j)) [0] #[.int .u8 0] rfl 1 rfl HO2.out HB2.out.size (by simp; omega))
       go_wp2_with (first
        | (at_builtin; refine wpList_app rfl _ _ 70 70 rfl u2 (.slice (some ⟨wr.heap.size, 0, none⟩) 1 1) rfl rfl ?_; obtain ⟨R2, W2, hrun, hmade⟩ := HA2.out; refine ⟨R2, W2, hrun, ?_⟩; have HM2 := Lib.hid hmade; have HH3 := Lib.hid (hmade.2.2 _ _ _ (by decide) HH2.out); have e2 := HH3.out.cell 2; simp at e2; clear hrun hmade HA2)
        | (at_builtin; refine wpList_app rfl _ _ 70 70 rfl R2 (.slice (some ⟨W2.heap.size, 0, none⟩) 1 1) rfl rfl ?_; obtain ⟨R3, W3, hrun, hmade⟩ := app_at W2 W2.heap.size rfl w.heap.size R2 _ [255] #[.int .u8 255] rfl 1 rfl HM2.out.1 (Nat.le_trans HB2.out.size HM2.out.2.1.size) (by simp; omega); refine ⟨R3, W3, hrun, ?_⟩; have HM3 := Lib.hid hmade; clear hrun hmade))
       go_roundw
       case rel => exact ⟨j + 1, R3, by omega, by go_num, rfl, by rw [HE.out, ← List.append_assoc, ← List.append_assoc]; exact HM3.out.1, HB2.out.trans (HM2.out.2.1.trans HM3.out.2.1), HM3.out.2.2 _ _ _ (by decide) HH3.out⟩
       case measure => simp [intOf]; omega
      ·have HE : Hid (esc ((sb xs).take (j + 1)) = esc ((sb xs).take j) ++ [xs[j].toNat]) := by
        show _ = _
        rw [HS.out, esc_append]; simp [esc, hz]
       have hzz : ((xs[j].toNat : Int) == 0) = false := by simp; omega
       have HA2 := Lib.hid (app_at wr wr.heap.size rfl w.heap.size u2 (l ++ [4] ++ esc ((sb xs).take j)) [xs[j].toNat] #[.int .u8 xs[j].toNat] (by simp [bv]) 1 rfl HO2.out HB2.out.size (by simp; omega))
       go_wp2_with (at_builtin; refine wpList_app rfl _ _ 70 70 rfl u2 (.slice (some ⟨wr.heap.size, 0, none⟩) 1 1) rfl rfl ?_; obtain ⟨R2, W2, hrun, hmade⟩ := HA2.out; refine ⟨R2, W2, hrun, ?_⟩; have HM2 := Lib.hid hmade; have HH3 := Lib.hid (hmade.2.2 _ _ _ (by decide) HH2.out); have e2 := HH3.out.cell 2; simp at e2; clear hrun hmade HA2)
       go_roundw
       case rel => exact ⟨j + 1, R2, by omega, by go_num, rfl, by rw [HE.out, ← List.append_assoc]; exact HM2.out.1, HB2.out.trans HM2.out.2.1, HH3⟩
       case measure => simp [intOf]; omega
     ·obtain rfl : j = xs.size := by omega
      have HT : Hid ((sb xs).take xs.size = sb xs) := List.take_of_length_le (by rw [sb_length]; exact Nat.le_refl _)
      have HA2 := Lib.hid (app_at wr wr.heap.size rfl w.heap.size u2 (l ++ [4] ++ esc ((sb xs).take xs.size)) [0, 1] #[.int .u8 0, .int .u8 1] rfl 2 rfl HO2.out HB2.out.size (by simp; omega))
      go_wp2_with (at_builtin; refine wpList_app rfl _ _ 70 70 rfl u2 (.slice (some ⟨wr.heap.size, 0, none⟩) 2 2) rfl rfl ?_; obtain ⟨R2, W2, hrun, hmade⟩ := HA2.out; refine ⟨R2, W2, hrun, ?_⟩; have HM2 := Lib.hid hmade; clear hrun hmade HA2)
      go_roundw
      case rel => exact ⟨k + 1, R2, by omega, by go_num, rfl, by rw [HKS.out, keyV_text4]; have h := HM2.out.1; rw [HT.out, List.append_assoc, List.append_assoc] at h; exact h, HB2.out.trans HM2.out.2.1⟩
      case measure => simp [intOf]; omega
  ·obtain rfl : k = n := by omega
   have HT : Hid (L.take k = L) := List.take_of_length_le (by rw [HN.out]; exact Nat.le_refl _)
   obtain ⟨A1, n1, c1, rfl, HL1, hconv⟩ := own_conv HO.out
   rw [HT.out] at hconv
   go_wp2_with fail
   go_ret
   exact ⟨rfl, HB⟩
def kI (n : Int) : ByteArray := bs (keys [⟨2, n, ⟨#[]⟩⟩])
theorem slice_inj {A A' : Option Addr} {n n' c c' : Nat} (h : Value.slice A n c = .slice A' n' c') : A = A' ∧ n = n' ∧ c = c' := by
 injection h with h1 h2 h3
 exact ⟨h1, h2, h3⟩
def mayW (x : Wk) : Bool := nameF x.t && (x.k.size == 0 || (!x.d && isKeyB x.k))
def wokAt (T : List Wk) (i : Nat) : Bool := match T[i]? with
 | none => true
 | some x => mayW x && (decide (i = 0) || match T[i - 1]? with | none => true | some y => Op.bytesLess y.t.toList x.t.toList)
def wrightTo (T : List Wk) (k : Nat) : Bool := (List.range k).all (wokAt T)
def wrightF (T : List Wk) : Bool := wrightTo T T.length
theorem wpartS (xs : Array Value) (i : Nat) (v : Value) (h : xs[i]? = some v) (w : World) : (part 9 xs i).run Tryz.prog w = .ok v w := by
 unfold part
 simp [Sem.run_bind, Tryz.isAgg9, h]
theorem wpartB (xs : Array Value) (i : Nat) (v : Value) (h : xs[i]? = some v) (w : World) : (part 4 xs i).run Tryz.prog w = .ok v w := by
 unfold part
 simp [Sem.run_bind, Tryz.isAgg4, h]
theorem eqW (t t' k k' : ByteArray) (d d' : Bool) (w : World) : (Op.equalIn 10000 120 (.agg #[.string t, .bool d, .string k]) (.agg #[.string t', .bool d', .string k'])).run Tryz.prog w = .ok (t.toList == t'.toList && d == d' && k.toList == k'.toList) w := by
 have es := fun (a b : ByteArray) (w : World) => run_equalIn_string (P := Tryz.prog) w 9998 9 a b Tryz.underlying9
 have eb := fun (a b : Bool) (w : World) => run_equalIn_bool (P := Tryz.prog) w 9998 4 a b Tryz.underlying4
 have p0 := fun (x0 x1 x2 : Value) => wpartS #[x0, x1, x2] 0 x0 rfl
 have p1 := fun (x0 x1 x2 : Value) => wpartB #[x0, x1, x2] 1 x1 rfl
 have p2 := fun (x0 x1 x2 : Value) => wpartS #[x0, x1, x2] 2 x2 rfl
 rw [show (10000 : Nat) = 9999 + 1 by rfl, run_equalIn_agg w 9999 120 _ _ (by kernel_rfl) (by kernel_rfl)]
 unfold Program.fieldsOf
 rw [Tryz.underlying120]
 by_cases h0 : t.toList = t'.toList <;> by_cases h1 : d = d' <;> by_cases h2 : k.toList = k'.toList <;>
 simp [Op.eqFields, Sem.run_bind, Result.andThen, p0, p1, p2, es, eb, h0, h1, h2]
set_option maxHeartbeats 2000000 in
theorem pwright_any {B : Nat} {v : Value} {T : List Wk} (w : World) (h : OwnW B w v T) (hl : T.length ≤ 800) (hf : ∀ x ∈ T, x.t.size ≤ 140737488355328 ∧ x.k.size ≤ 900) (hT : Tabs w) (hT0 : T = []) :
 Calls Tryz.prog 98 #[v] w fun e w' => e = .returned (.bool (wrightF T)) ∧ Hid (Below w.heap.size w w') := by
 obtain ⟨A, n, c, rfl, HN, hc, hm, HA, hz⟩ := ownW_open h
 clear h hl hf hT HA hz hc hm
 subst hT0
 have hn0 : n = 0 := HN.out.symm
 clear HN
 subst hn0
 rw [show wrightF [] = true from rfl]
 go_enter Tryz.func98, Tryz.ntmps98
 go_wp2_with fail
 go_loopw [7] (fun i wr => i = .int .i64 0 ∧ w = wr) (fun _ _ => 0)
 case atStart => exact ⟨rfl, rfl⟩
 case round =>
  obtain ⟨rfl, rfl⟩ := hrel
  go_wp2_with fail
  go_ret
  exact ⟨rfl, Below.refl _ _⟩
def nm40 (s : ByteArray) : ByteArray := if 40 < s.size then s.extract 0 40 else s
def Wk.few (x : Wk) : Wk := ⟨nm40 x.t, x.d, nm40 x.k⟩
def Short (L : List Wk) : Prop := ∀ x ∈ L, x.t.size ≤ 40 ∧ x.k.size ≤ 40
def Wk.eqb (x y : Wk) : Bool := x.t.toList == y.t.toList && x.d == y.d && x.k.toList == y.k.toList
theorem ytoList_inj {s t : ByteArray} (h : s.toList = t.toList) : s = t := by
 rw [ByteArray.toList_eq, ByteArray.toList_eq] at h
 obtain ⟨⟨a⟩⟩ := s
 obtain ⟨⟨b⟩⟩ := t
 simp at h
 rw [h]
theorem Wk.eqb_self (x : Wk) : x.eqb x = true := by simp [Wk.eqb]
theorem Wk.eqb_iff (x y : Wk) : x.eqb y = true ↔ x = y := by
 constructor
 ·intro h
  simp only [Wk.eqb, Bool.and_eq_true, beq_iff_eq] at h
  obtain ⟨⟨h1, h2⟩, h3⟩ := h
  obtain ⟨xt, xd, xk⟩ := x
  obtain ⟨yt, yd, yk⟩ := y
  simp only at h1 h2 h3
  rw [ytoList_inj h1, h2, ytoList_inj h3]
 ·rintro rfl; exact Wk.eqb_self x
def sameTo (L M : List Wk) (k : Nat) : Bool := (List.range k).all fun i => match L[i]?, M[i]? with | some x, some y => x.eqb y | _, _ => true
def sameW (L M : List Wk) : Bool := decide (L.length = M.length) && sameTo L M L.length
theorem sameTo_succ {L M : List Wk} {k : Nat} (h : k < L.length) (h2 : k < M.length) : sameTo L M (k + 1) = (sameTo L M k && L[k].eqb M[k]) := by
 unfold sameTo; rw [List.range_succ, List.all_append]
 simp [List.getElem?_eq_getElem h, List.getElem?_eq_getElem h2]
theorem sameTo_false {L M : List Wk} {k : Nat} (h : k < L.length) (h2 : k < M.length) (he : L[k].eqb M[k] = false) : sameTo L M L.length = false := by
 unfold sameTo; rw [List.all_eq_false]
 exact ⟨k, List.mem_range.2 h, by simp [List.getElem?_eq_getElem h, List.getElem?_eq_getElem h2, he]⟩
theorem sameW_self (L : List Wk) : sameW L L = true := by
 unfold sameW sameTo
 simp only [decide_true, Bool.true_and]
 rw [List.all_eq_true]
 intro i hi
 rw [List.getElem?_eq_getElem (List.mem_range.1 hi)]
 exact Wk.eqb_self _
set_option maxHeartbeats 4000000 in
theorem sameW_any {B B' : Nat} {v v' : Value} {L M : List Wk} (w : World) (h : OwnW B w v L) (h' : OwnW B' w v' M) (hl : L.length ≤ 1000) :
 Calls Tryz.prog 51 #[v, v'] w fun e w' => e = .returned (.bool (sameW L M)) ∧ Hid (Below w.heap.size w w') := by
 have eq := eqW
 obtain ⟨A, n, c, rfl, HN, hc, hm, HA, _⟩ := ownW_open h
 obtain ⟨A', n', c', rfl, HN', hc', hm', HA', _⟩ := ownW_open h'
 have hs : sameW L M = (decide (n = n') && sameTo L M n) := by unfold sameW; rw [HN.out, HN'.out]
 have HS := Lib.hid hs
 obtain ⟨q, hq⟩ : ∃ q, sameW L M = q := ⟨_, rfl⟩
 rw [hq] at HS ⊢
 clear h h' hs hq
 unfold maxLen at hm hm'
 by_cases he : n = n'
 ·subst he
  rw [decide_eq_true rfl, Bool.true_and] at HS
  go_enter Tryz.func51, Tryz.ntmps51
  go_wp2_with fail
  go_loopw [5] (fun i wr => ∃ k : Nat, k ≤ n ∧ i = .int .i64 k ∧ Hid (sameTo L M k = true) ∧ Hid (Below w.heap.size w wr)) (fun i _ => n - (intOf i).toNat)
  case atStart => exact ⟨0, by omega, rfl, rfl, Below.refl _ _⟩
  case round =>
   obtain ⟨k, hk, rfl, HT, HB⟩ := hrel
   by_cases hlt : k < n
   ·have hkl : k < L.length := by rw [HN.out]; exact hlt
    have hkm : k < M.length := by rw [HN'.out]; exact hlt
    obtain ⟨b, off, rfl, hc0⟩ := (HA.out.below HB.out) (by intro e; rw [e] at hkl; simp at hkl)
    obtain ⟨b', off', rfl, hc0'⟩ := (HA'.out.below HB.out) (by intro e; rw [e] at hkm; simp at hkm)
    obtain ⟨x0, x1, x2⟩ := hc0 k hkl
    obtain ⟨y0, y1, y2⟩ := hc0' k hkm
    have HOK := Lib.hid (sameTo_succ hkl hkm)
    have HNO : Hid (L[k].eqb M[k] = false → sameTo L M n = false) := fun h => by rw [← HN.out]; exact sameTo_false hkl hkm h
    have hkz : (k : Int) < (n : Int) := by omega
    clear hc0 hc0'
    generalize L[k] = x at *
    generalize M[k] = y at *
    obtain ⟨xt, xd, xk⟩ := x
    obtain ⟨yt, yd, yk⟩ := y
    simp only at x0 x1 x2 y0 y1 y2
    have HEQ : Hid ((⟨xt, xd, xk⟩ : Wk).eqb ⟨yt, yd, yk⟩ = (xt.toList == yt.toList && xd == yd && xk.toList == yk.toList)) := rfl
    obtain ⟨qq, hqq⟩ : ∃ q, (xt.toList == yt.toList && xd == yd && xk.toList == yk.toList) = q := ⟨_, rfl⟩
    have eq2 := fun w => eqW xt yt xk yk xd yd w
    simp only [hqq] at eq2
    rw [hqq] at HEQ
    rw [HEQ.out] at HOK HNO
    clear eq hqq HEQ
    cases qq
    ·go_wp2_with fail
     have hS0 : (fun X : World => (X.cell? ⟨b, off + k * 3, none⟩ = some (.string xt) ∧ X.cell? ⟨b, off + k * 3 + 1, none⟩ = some (.bool xd) ∧ X.cell? ⟨b, off + k * 3 + 2, none⟩ = some (.string xk)) ∧ X.cell? ⟨b', off' + k * 3, none⟩ = some (.string yt) ∧ X.cell? ⟨b', off' + k * 3 + 1, none⟩ = some (.bool yd) ∧ X.cell? ⟨b', off' + k * 3 + 2, none⟩ = some (.string yk)) wr.drew := ⟨⟨x0, x1, x2⟩, y0, y1, y2⟩
     refine wp_region_held_drew (S := (fun X : World => (X.cell? ⟨b, off + k * 3, none⟩ = some (.string xt) ∧ X.cell? ⟨b, off + k * 3 + 1, none⟩ = some (.bool xd) ∧ X.cell? ⟨b, off + k * 3 + 2, none⟩ = some (.string xk)) ∧ X.cell? ⟨b', off' + k * 3, none⟩ = some (.string yt) ∧ X.cell? ⟨b', off' + k * 3 + 1, none⟩ = some (.bool yd) ∧ X.cell? ⟨b', off' + k * 3 + 2, none⟩ = some (.string yk))) (by kernel_rfl) hS0 (fun _ => ?_)
     (refine wpAnyH_take (i := 0) (v := ?_) rfl (by kernel_rfl) (by kernel_rfl) (by kernel_rfl) (fun _ _ _ h => h) (Or.inl ⟨by rfl, ?_⟩) (by assumption) ?_; rotate_left; (intro w hSw; (try dsimp only at hSw); go_simp; try with_reducible rfl); ((try simp only [zA, zB, zC, Act.put, zD, zE, zF])))
     (refine wpAnyH_take (i := 1) (v := ?_) rfl (by kernel_rfl) (by kernel_rfl) (by kernel_rfl) (fun _ _ _ h => h) (Or.inl ⟨by rfl, ?_⟩) (by assumption) ?_; rotate_left; (intro w hSw; (try dsimp only at hSw); go_simp; try with_reducible rfl); ((try simp only [zA, zB, zC, Act.put, zD, zE, zF])))
     (refine wpAnyH_take (i := 2) (v := ?_) rfl (by kernel_rfl) (by kernel_rfl) (by kernel_rfl) (fun _ _ _ h => h) (Or.inl ⟨by rfl, ?_⟩) (by assumption) ?_; rotate_left; (intro w hSw; (try dsimp only at hSw); go_simp; try with_reducible rfl); ((try simp only [zA, zB, zC, Act.put, zD, zE, zF])))
     (refine wpAnyH_take (i := 3) (v := ?_) rfl (by kernel_rfl) (by kernel_rfl) (by kernel_rfl) (fun _ _ _ h => h) (Or.inl ⟨by rfl, ?_⟩) (by assumption) ?_; rotate_left; (intro w hSw; (try dsimp only at hSw); go_simp; try with_reducible rfl); ((try simp only [zA, zB, zC, Act.put, zD, zE, zF])))
     (refine wpAnyH_take (i := 4) (v := ?_) rfl (by kernel_rfl) (by kernel_rfl) (by kernel_rfl) (fun _ _ _ h => h) (Or.inl ⟨by rfl, ?_⟩) (by assumption) ?_; rotate_left; (intro w hSw; (try dsimp only at hSw); go_simp; try with_reducible rfl); ((try simp only [zA, zB, zC, Act.put, zD, zE, zF])))
     (refine wpAnyH_take (i := 5) (v := ?_) rfl (by kernel_rfl) (by kernel_rfl) (by kernel_rfl) (fun _ _ _ h => h) (Or.inl ⟨by rfl, ?_⟩) (by assumption) ?_; rotate_left; (intro w hSw; (try dsimp only at hSw); go_simp; try with_reducible rfl); ((try simp only [zA, zB, zC, Act.put, zD, zE, zF])))
     (refine wpAnyH_take (i := 6) (v := ?_) rfl (by kernel_rfl) (by kernel_rfl) (by kernel_rfl) (fun _ _ _ h => h) (Or.inl ⟨by rfl, ?_⟩) (by assumption) ?_; rotate_left; (intro w hSw; (try dsimp only at hSw); go_simp; try with_reducible rfl); ((try simp only [zA, zB, zC, Act.put, zD, zE, zF])))
     (refine wpAnyH_take (i := 7) (v := ?_) rfl (by kernel_rfl) (by kernel_rfl) (by kernel_rfl) (fun _ _ _ h => h) (Or.inl ⟨by rfl, ?_⟩) (by assumption) ?_; rotate_left; (intro w hSw; (try dsimp only at hSw); go_simp; try with_reducible rfl); ((try simp only [zA, zB, zC, Act.put, zD, zE, zF])))
     (refine wpAnyH_take (i := 8) (v := ?_) rfl (by kernel_rfl) (by kernel_rfl) (by kernel_rfl) (fun _ _ _ h => h) (Or.inl ⟨by rfl, ?_⟩) (by assumption) ?_; rotate_left; (intro w hSw; (try dsimp only at hSw); go_simp; try with_reducible rfl); ((try simp only [zA, zB, zC, Act.put, zD, zE, zF])))
     refine wpAnyH_done (by kernel_rfl) ?_ _
     go_wp2_with fail
     go_ret
     exact ⟨by rw [HS.out, HNO.out (by first | rfl | exact True.intro)]; rfl, HB.out.drew⟩
    ·go_wp2_with fail
     have hS0 : (fun X : World => (X.cell? ⟨b, off + k * 3, none⟩ = some (.string xt) ∧ X.cell? ⟨b, off + k * 3 + 1, none⟩ = some (.bool xd) ∧ X.cell? ⟨b, off + k * 3 + 2, none⟩ = some (.string xk)) ∧ X.cell? ⟨b', off' + k * 3, none⟩ = some (.string yt) ∧ X.cell? ⟨b', off' + k * 3 + 1, none⟩ = some (.bool yd) ∧ X.cell? ⟨b', off' + k * 3 + 2, none⟩ = some (.string yk)) wr.drew := ⟨⟨x0, x1, x2⟩, y0, y1, y2⟩
     refine wp_region_held_drew (S := (fun X : World => (X.cell? ⟨b, off + k * 3, none⟩ = some (.string xt) ∧ X.cell? ⟨b, off + k * 3 + 1, none⟩ = some (.bool xd) ∧ X.cell? ⟨b, off + k * 3 + 2, none⟩ = some (.string xk)) ∧ X.cell? ⟨b', off' + k * 3, none⟩ = some (.string yt) ∧ X.cell? ⟨b', off' + k * 3 + 1, none⟩ = some (.bool yd) ∧ X.cell? ⟨b', off' + k * 3 + 2, none⟩ = some (.string yk))) (by kernel_rfl) hS0 (fun _ => ?_)
     (refine wpAnyH_take (i := 0) (v := ?_) rfl (by kernel_rfl) (by kernel_rfl) (by kernel_rfl) (fun _ _ _ h => h) (Or.inl ⟨by rfl, ?_⟩) (by assumption) ?_; rotate_left; (intro w hSw; (try dsimp only at hSw); go_simp; try with_reducible rfl); ((try simp only [zA, zB, zC, Act.put, zD, zE, zF])))
     (refine wpAnyH_take (i := 1) (v := ?_) rfl (by kernel_rfl) (by kernel_rfl) (by kernel_rfl) (fun _ _ _ h => h) (Or.inl ⟨by rfl, ?_⟩) (by assumption) ?_; rotate_left; (intro w hSw; (try dsimp only at hSw); go_simp; try with_reducible rfl); ((try simp only [zA, zB, zC, Act.put, zD, zE, zF])))
     (refine wpAnyH_take (i := 2) (v := ?_) rfl (by kernel_rfl) (by kernel_rfl) (by kernel_rfl) (fun _ _ _ h => h) (Or.inl ⟨by rfl, ?_⟩) (by assumption) ?_; rotate_left; (intro w hSw; (try dsimp only at hSw); go_simp; try with_reducible rfl); ((try simp only [zA, zB, zC, Act.put, zD, zE, zF])))
     (refine wpAnyH_take (i := 3) (v := ?_) rfl (by kernel_rfl) (by kernel_rfl) (by kernel_rfl) (fun _ _ _ h => h) (Or.inl ⟨by rfl, ?_⟩) (by assumption) ?_; rotate_left; (intro w hSw; (try dsimp only at hSw); go_simp; try with_reducible rfl); ((try simp only [zA, zB, zC, Act.put, zD, zE, zF])))
     (refine wpAnyH_take (i := 4) (v := ?_) rfl (by kernel_rfl) (by kernel_rfl) (by kernel_rfl) (fun _ _ _ h => h) (Or.inl ⟨by rfl, ?_⟩) (by assumption) ?_; rotate_left; (intro w hSw; (try dsimp only at hSw); go_simp; try with_reducible rfl); ((try simp only [zA, zB, zC, Act.put, zD, zE, zF])))
     (refine wpAnyH_take (i := 5) (v := ?_) rfl (by kernel_rfl) (by kernel_rfl) (by kernel_rfl) (fun _ _ _ h => h) (Or.inl ⟨by rfl, ?_⟩) (by assumption) ?_; rotate_left; (intro w hSw; (try dsimp only at hSw); go_simp; try with_reducible rfl); ((try simp only [zA, zB, zC, Act.put, zD, zE, zF])))
     (refine wpAnyH_take (i := 6) (v := ?_) rfl (by kernel_rfl) (by kernel_rfl) (by kernel_rfl) (fun _ _ _ h => h) (Or.inl ⟨by rfl, ?_⟩) (by assumption) ?_; rotate_left; (intro w hSw; (try dsimp only at hSw); go_simp; try with_reducible rfl); ((try simp only [zA, zB, zC, Act.put, zD, zE, zF])))
     (refine wpAnyH_take (i := 7) (v := ?_) rfl (by kernel_rfl) (by kernel_rfl) (by kernel_rfl) (fun _ _ _ h => h) (Or.inl ⟨by rfl, ?_⟩) (by assumption) ?_; rotate_left; (intro w hSw; (try dsimp only at hSw); go_simp; try with_reducible rfl); ((try simp only [zA, zB, zC, Act.put, zD, zE, zF])))
     (refine wpAnyH_take (i := 8) (v := ?_) rfl (by kernel_rfl) (by kernel_rfl) (by kernel_rfl) (fun _ _ _ h => h) (Or.inl ⟨by rfl, ?_⟩) (by assumption) ?_; rotate_left; (intro w hSw; (try dsimp only at hSw); go_simp; try with_reducible rfl); ((try simp only [zA, zB, zC, Act.put, zD, zE, zF])))
     refine wpAnyH_done (by kernel_rfl) ?_ _
     go_wp2_with fail
     go_roundw
     case rel => exact ⟨k + 1, by omega, by go_num, by show _ = _; rw [HOK.out, HT.out]; rfl, HB.out.drew⟩
     case measure => simp [intOf]; omega
   ·obtain rfl : k = n := by omega
    go_wp2_with fail
    go_ret
    exact ⟨by rw [HS.out, HT.out]; rfl, HB⟩
 ·rw [decide_eq_false he, Bool.false_and] at HS
  have hz : ¬ ((n : Int) = (n' : Int)) := by omega
  go_enter Tryz.func51, Tryz.ntmps51
  go_wp2_with fail
  go_ret
  exact ⟨by rw [HS.out]; rfl, Below.refl _ _⟩
def GoodK (x : Wk) : Prop := nameF x.t = true ∧ (x.k = ⟨#[]⟩ ∨ x.d = false ∧ ∃ m : Nat, m < 9 ∧ x.k = kI (m : Nat))
theorem GoodK.may {x : Wk} (h : GoodK x) : mayW x = true := by
 unfold mayW
 rw [h.1]
 rcases h.2 with h | ⟨hd, m, hm, h⟩
 ·rw [h]; simp [ByteArray.size]
 ·rw [hd, h, show isKeyB (kI (m : Nat)) = true from isKeyB_int _ (by omega) (by omega)]; simp
end Go.Proofs.YtlnbhlgkehenpaaGreatDoor
namespace Go.Proofs.YtlnbhlgkehenpaaGreatDoor.Uf
open Go.Lib
def bt (L : List UInt8) (k : Nat) : Nat := (L.getD k 0).toNat
theorem bt_lt (L : List UInt8) (k : Nat) : bt L k < 256 := (L.getD k 0).toNat_lt
theorem ne_of_lead (L : List UInt8) (h : 128 ≤ bt L 0) : L ≠ [] := by rintro rfl; simp [bt] at h
theorem valid_one (L : List UInt8) (h0 : L ≠ []) (h : bt L 0 < 128) : validD L = validD (L.drop 1) := by
 rcases L with _ | ⟨b, t⟩
 ·exact absurd rfl h0
 ·exact validD_cons b t h
theorem valid_bad (L : List UInt8) (h : 128 ≤ bt L 0) (h2 : bt L 0 < 192 ∨ 248 ≤ bt L 0) : validD L = false := by
 have hb := bt_lt L 0
 rw [validD_lead L (ne_of_lead L h) h]
 unfold bt at h h2 hb
 generalize (L.getD 0 0).toNat = c at *
 have e : firstT c % 8 ≠ 2 ∧ firstT c % 8 ≠ 3 ∧ firstT c % 8 ≠ 4 := by
  unfold firstT
  repeat' split
  all_goals omega
 have : checkN L.length (L.getD 1 0).toNat (L.getD 2 0).toNat (L.getD 3 0).toNat (firstT c % 8) (accLo (firstT c / 16)) (accHi (firstT c / 16)) = none := by
  unfold checkN
  rw [if_neg e.1, if_neg e.2.1, if_neg e.2.2]
 rw [this]
def Co (x : Nat) : Prop := 128 ≤ x ∧ x < 192
theorem valid_two (L : List UInt8) (h : 192 ≤ bt L 0) (h2 : bt L 0 < 224) :
 (2 ≤ L.length ∧ Co (bt L 1) ∧ 128 ≤ 64 * (bt L 0 - 192) + bt L 1 - 128 ∧ validD L = validD (L.drop 2)) ∨ (¬ (2 ≤ L.length ∧ Co (bt L 1) ∧ 128 ≤ 64 * (bt L 0 - 192) + bt L 1 - 128) ∧ validD L = false) := by
 have hl := validD_lead L (ne_of_lead L (by omega)) (show 128 ≤ bt L 0 by omega)
 have h1 := bt_lt L 1
 rw [hl]
 unfold Co
 unfold bt at *
 generalize (L.getD 0 0).toNat = c at *
 generalize (L.getD 1 0).toNat = x at *
 by_cases hc : c < 194
 ·have e : firstT c % 8 ≠ 2 ∧ firstT c % 8 ≠ 3 ∧ firstT c % 8 ≠ 4 := by
   unfold firstT
   repeat' split
   all_goals omega
  right
  refine ⟨by omega, ?_⟩
  unfold checkN
  rw [if_neg e.1, if_neg e.2.1, if_neg e.2.2]
 ·have e1 : firstT c = 2 := by
   unfold firstT
   repeat' split
   all_goals omega
  rw [e1]
  by_cases g : 2 ≤ L.length ∧ 128 ≤ x ∧ x < 192
  ·left
   refine ⟨g.1, ⟨g.2.1, g.2.2⟩, by omega, ?_⟩
   simp [checkN, accLo, accHi]
   rw [if_neg (by omega)]
  ·right
   refine ⟨by omega, ?_⟩
   simp [checkN, accLo, accHi]
   rw [if_pos (by omega)]
theorem valid_three (L : List UInt8) (h : 224 ≤ bt L 0) (h2 : bt L 0 < 240) (V : Nat) (hV : V = 64 * (64 * (bt L 0 - 224) + bt L 1 - 128) + bt L 2 - 128) :
 (3 ≤ L.length ∧ Co (bt L 1) ∧ Co (bt L 2) ∧ 2048 ≤ V ∧ ¬ (55296 ≤ V ∧ V ≤ 57343) ∧ validD L = validD (L.drop 3)) ∨ (¬ (3 ≤ L.length ∧ Co (bt L 1) ∧ Co (bt L 2) ∧ 2048 ≤ V ∧ ¬ (55296 ≤ V ∧ V ≤ 57343)) ∧ validD L = false) := by
 have hl := validD_lead L (ne_of_lead L (by omega)) (show 128 ≤ bt L 0 by omega)
 rw [hl]
 unfold Co
 unfold bt at *
 generalize (L.getD 0 0).toNat = c at *
 generalize (L.getD 1 0).toNat = x at *
 generalize (L.getD 2 0).toNat = y at *
 have hc : c = 224 ∨ c = 237 ∨ (c ≠ 224 ∧ c ≠ 237) := by omega
 rcases hc with hc | hc | hc
 ·have e1 : firstT c = 19 := by
   unfold firstT
   repeat' split
   all_goals omega
  rw [e1]
  by_cases g : 3 ≤ L.length ∧ 160 ≤ x ∧ x ≤ 191 ∧ 128 ≤ y ∧ y < 192
  ·left
   refine ⟨g.1, ⟨by omega, by omega⟩, ⟨by omega, by omega⟩, by omega, by omega, ?_⟩
   simp [checkN, accLo, accHi]
   rw [if_neg (by omega)]
  ·right
   refine ⟨by omega, ?_⟩
   simp [checkN, accLo, accHi]
   rw [if_pos (by omega)]
 ·have e1 : firstT c = 35 := by
   unfold firstT
   repeat' split
   all_goals omega
  rw [e1]
  by_cases g : 3 ≤ L.length ∧ 128 ≤ x ∧ x ≤ 159 ∧ 128 ≤ y ∧ y < 192
  ·left
   refine ⟨g.1, ⟨by omega, by omega⟩, ⟨by omega, by omega⟩, by omega, by omega, ?_⟩
   simp [checkN, accLo, accHi]
   rw [if_neg (by omega)]
  ·right
   refine ⟨by omega, ?_⟩
   simp [checkN, accLo, accHi]
   rw [if_pos (by omega)]
 ·have e1 : firstT c = 3 := by
   unfold firstT
   repeat' split
   all_goals omega
  rw [e1]
  by_cases g : 3 ≤ L.length ∧ 128 ≤ x ∧ x ≤ 191 ∧ 128 ≤ y ∧ y < 192
  ·left
   refine ⟨g.1, ⟨by omega, by omega⟩, ⟨by omega, by omega⟩, by omega, by omega, ?_⟩
   simp [checkN, accLo, accHi]
   rw [if_neg (by omega)]
  ·right
   refine ⟨by omega, ?_⟩
   simp [checkN, accLo, accHi]
   rw [if_pos (by omega)]
set_option maxHeartbeats 1000000 in
theorem valid_four (L : List UInt8) (h : 240 ≤ bt L 0) (h2 : bt L 0 < 248) (V : Nat) (hV : V = 64 * (64 * (64 * (bt L 0 - 240) + bt L 1 - 128) + bt L 2 - 128) + bt L 3 - 128) :
 (4 ≤ L.length ∧ Co (bt L 1) ∧ Co (bt L 2) ∧ Co (bt L 3) ∧ 65536 ≤ V ∧ V ≤ 1114111 ∧ validD L = validD (L.drop 4)) ∨ (¬ (4 ≤ L.length ∧ Co (bt L 1) ∧ Co (bt L 2) ∧ Co (bt L 3) ∧ 65536 ≤ V ∧ V ≤ 1114111) ∧ validD L = false) := by
 have hl := validD_lead L (ne_of_lead L (by omega)) (show 128 ≤ bt L 0 by omega)
 rw [hl]
 unfold Co
 unfold bt at *
 generalize (L.getD 0 0).toNat = c at *
 generalize (L.getD 1 0).toNat = x at *
 generalize (L.getD 2 0).toNat = y at *
 generalize (L.getD 3 0).toNat = z at *
 have hc : c = 240 ∨ c = 244 ∨ (240 < c ∧ c < 244) ∨ 244 < c := by omega
 rcases hc with hc | hc | hc | hc
 ·have e1 : firstT c = 52 := by
   unfold firstT
   repeat' split
   all_goals omega
  rw [e1]
  by_cases g : 4 ≤ L.length ∧ 144 ≤ x ∧ x ≤ 191 ∧ 128 ≤ y ∧ y < 192 ∧ 128 ≤ z ∧ z < 192
  ·left
   refine ⟨g.1, ⟨by omega, by omega⟩, ⟨by omega, by omega⟩, ⟨by omega, by omega⟩, by omega, by omega, ?_⟩
   simp [checkN, accLo, accHi]
   rw [if_neg (by omega)]
  ·right
   refine ⟨by omega, ?_⟩
   simp [checkN, accLo, accHi]
   rw [if_pos (by omega)]
 ·have e1 : firstT c = 68 := by
   unfold firstT
   repeat' split
   all_goals omega
  rw [e1]
  by_cases g : 4 ≤ L.length ∧ 128 ≤ x ∧ x ≤ 143 ∧ 128 ≤ y ∧ y < 192 ∧ 128 ≤ z ∧ z < 192
  ·left
   refine ⟨g.1, ⟨by omega, by omega⟩, ⟨by omega, by omega⟩, ⟨by omega, by omega⟩, by omega, by omega, ?_⟩
   simp [checkN, accLo, accHi]
   rw [if_neg (by omega)]
  ·right
   refine ⟨by omega, ?_⟩
   simp [checkN, accLo, accHi]
   rw [if_pos (by omega)]
 ·have e1 : firstT c = 4 := by
   unfold firstT
   repeat' split
   all_goals omega
  rw [e1]
  by_cases g : 4 ≤ L.length ∧ 128 ≤ x ∧ x ≤ 191 ∧ 128 ≤ y ∧ y < 192 ∧ 128 ≤ z ∧ z < 192
  ·left
   refine ⟨g.1, ⟨by omega, by omega⟩, ⟨by omega, by omega⟩, ⟨by omega, by omega⟩, by omega, by omega, ?_⟩
   simp [checkN, accLo, accHi]
   rw [if_neg (by omega)]
  ·right
   refine ⟨by omega, ?_⟩
   simp [checkN, accLo, accHi]
   rw [if_pos (by omega)]
 ·have e : firstT c % 8 ≠ 2 ∧ firstT c % 8 ≠ 3 ∧ firstT c % 8 ≠ 4 := by
   unfold firstT
   repeat' split
   all_goals omega
  right
  refine ⟨by omega, ?_⟩
  unfold checkN
  rw [if_neg e.1, if_neg e.2.1, if_neg e.2.2]
def vw (c0 : Nat) (L : List UInt8) : Nat → Nat
 | 0 => 0
 | j + 1 => if j = 0 then bt L 0 - c0 else 64 * vw c0 L j + bt L j - 128
theorem vw_next (c0 : Nat) (L : List UInt8) (j : Nat) (h : 1 ≤ j) : vw c0 L (j + 1) = 64 * vw c0 L j + bt L j - 128 := by
 show (if j = 0 then _ else _) = _
 rw [if_neg (by omega)]
theorem vw_two (c0 : Nat) (L : List UInt8) : vw c0 L 2 = 64 * (bt L 0 - c0) + bt L 1 - 128 := rfl
theorem vw_three (c0 : Nat) (L : List UInt8) : vw c0 L 3 = 64 * (64 * (bt L 0 - c0) + bt L 1 - 128) + bt L 2 - 128 := rfl
theorem vw_four (c0 : Nat) (L : List UInt8) : vw c0 L 4 = 64 * (64 * (64 * (bt L 0 - c0) + bt L 1 - 128) + bt L 2 - 128) + bt L 3 - 128 := rfl
end Go.Proofs.YtlnbhlgkehenpaaGreatDoor.Uf
namespace Go.Proofs.YtlnbhlgkehenpaaGreatDoor
open Go.RowKit Dg Uf
theorem bt_at (s : ByteArray) (k j : Nat) (h : k + j < s.size) : bt (s.data.toList.drop k) j = (s[k + j]'h).toNat := by
 unfold bt
 rw [List.getD_eq_getElem?_getD, List.getElem?_drop]
 have : s.data.toList[k + j]? = some (s[k + j]'h) := by
  rw [Array.getElem?_toList]
  exact Array.getElem?_eq_getElem (by simpa using h)
 rw [this]; rfl
theorem drop_len (s : ByteArray) (k : Nat) : (s.data.toList.drop k).length = s.size - k := by
 rw [List.length_drop]; rfl
set_option maxHeartbeats 4000000 in
set_option maxRecDepth 100000 in
theorem refUtf8_any (s : ByteArray) (w : World) (hs : s.size ≤ 140737488355328) :
 Calls Tryz.prog 97 #[.string s] w fun e w' => e = .returned (.bool (Lib.validD s.data.toList)) ∧ w = w' := by
 obtain ⟨ANS, hA⟩ : ∃ ANS, Lib.validD s.data.toList = ANS := ⟨_, rfl⟩
 rw [hA]
 go_enter Tryz.func97, Tryz.ntmps97
 go_wp2_with fail
 go_loop [3] (fun i => ∃ k : Nat, k ≤ s.size ∧ i = .int .i64 k ∧ Hid (Lib.validD (s.data.toList.drop k) = ANS)) (fun i => s.size - (intOf i).toNat)
 case atStart => exact ⟨0, by omega, rfl, hA⟩
 case round =>
  obtain ⟨k, hk, rfl, HE⟩ := hrel
  clear hA
  by_cases hlt : k < s.size
  ·have hb := s[k].toNat_lt
   have HB0 : Hid (bt (s.data.toList.drop k) 0 = s[k].toNat) := bt_at s k 0 hlt
   have HL : Hid ((s.data.toList.drop k).length = s.size - k) := drop_len s k
   by_cases h128 : s[k].toNat < 128
   ·have HN : Hid (Lib.validD (s.data.toList.drop (k + 1)) = ANS) := by
     show _ = _
     rw [← HE.out, valid_one (s.data.toList.drop k) (by intro h; have := HL.out; rw [h] at this; simp at this; omega) (by rw [HB0.out]; exact h128), List.drop_drop]
    clear HE HB0 HL
    go_wp2_with fail
    go_round
    case rel => exact ⟨k + 1, by omega, by go_num, HN⟩
    case measure => simp [intOf]; omega
   by_cases hbad : s[k].toNat < 192
   ·have HN : Hid (ANS = false) := by
     show _ = _
     rw [← HE.out, valid_bad (s.data.toList.drop k) (by rw [HB0.out]; omega) (by rw [HB0.out]; omega)]
    clear HE HB0 HL
    go_wp2_with fail
    go_ret
    exact ⟨by rw [HN.out]; rfl, rfl⟩
   by_cases hbad : 248 ≤ s[k].toNat
   ·have HN : Hid (ANS = false) := by
     show _ = _
     rw [← HE.out, valid_bad (s.data.toList.drop k) (by rw [HB0.out]; omega) (by rw [HB0.out]; omega)]
    clear HE HB0 HL
    go_wp2_with fail
    go_ret
    exact ⟨by rw [HN.out]; rfl, rfl⟩
   by_cases h2 : s[k].toNat < 224
   ·by_cases hl2 : k + 2 ≤ s.size
    ·have hk1 : k < 140737488355328 := by omega
     go_wp2_with fail
     go_loop [7, 8] (fun v i => ∃ j V : Nat, 1 ≤ j ∧ j ≤ 2 ∧ i = .int .i64 j ∧ v = .int .i64 V ∧ V < 64 ^ j ∧ Hid (V = vw 192 (s.data.toList.drop k) j) ∧ Hid (∀ t, 1 ≤ t → t < j → Co (bt (s.data.toList.drop k) t))) (fun _ i => 2 - (intOf i).toNat)
     case atStart =>
      refine ⟨1, s[k].toNat - 192, by omega, by omega, rfl, ?_, by omega, ?_, fun t h1 h2 => by omega⟩
      ·congr 1; omega
      ·show _ = bt (s.data.toList.drop k) 0 - 192
       rw [HB0.out]
     case round =>
      obtain ⟨j, V, hj1, hj, rfl, rfl, hV, HV, HC⟩ := hrel
      have hp : 64 ^ j ≤ 16777216 := by
       have : j = 1 ∨ j = 2 ∨ j = 3 ∨ j = 4 := by omega
       rcases this with rfl | rfl | rfl | rfl <;> omega
      by_cases hjn : j < 2
      ·have hkj : k + j < s.size := by omega
       have hbj := s[k + j].toNat_lt
       have HBJ : Hid (bt (s.data.toList.drop k) j = s[k + j].toNat) := bt_at s k j hkj
       by_cases hlo : s[k + j].toNat < 128
       ·have HN : Hid (ANS = false) := by
         show _ = _
         rcases valid_two (s.data.toList.drop k) (by rw [HB0.out]; omega) (by rw [HB0.out]; omega) with h | h
         ·exfalso
          have hco : ∀ t, 1 ≤ t → t < 2 → Co (bt (s.data.toList.drop k) t) := (fun t h1 h2 => by have ht : t = 1 := (by omega); subst ht; exact h.2.1)
          have := (hco j hj1 hjn).1; rw [HBJ.out] at this; omega
         ·rw [← HE.out]; exact h.2
        clear HE HB0 HL HV HC HBJ hp hV
        go_wp2_with fail
        go_ret
        exact ⟨by rw [HN.out]; rfl, rfl⟩
       by_cases hhi : 192 ≤ s[k + j].toNat
       ·have HN : Hid (ANS = false) := by
         show _ = _
         rcases valid_two (s.data.toList.drop k) (by rw [HB0.out]; omega) (by rw [HB0.out]; omega) with h | h
         ·exfalso
          have hco : ∀ t, 1 ≤ t → t < 2 → Co (bt (s.data.toList.drop k) t) := (fun t h1 h2 => by have ht : t = 1 := (by omega); subst ht; exact h.2.1)
          have := (hco j hj1 hjn).2; rw [HBJ.out] at this; omega
         ·rw [← HE.out]; exact h.2
        clear HE HB0 HL HV HC HBJ hp hV
        go_wp2_with fail
        go_ret
        exact ⟨by rw [HN.out]; rfl, rfl⟩
       ·have hVV : V ≤ 16777216 := by omega
        have HV2 : Hid (64 * V + s[k + j].toNat - 128 = vw 192 (s.data.toList.drop k) (j + 1)) := by
         show _ = _; rw [vw_next _ _ _ hj1, ← HV.out, HBJ.out]
        have HC2 : Hid (∀ t, 1 ≤ t → t < j + 1 → Co (bt (s.data.toList.drop k) t)) := fun t h1 h2 => by
         by_cases e : t = j
         ·subst e; rw [HBJ.out]; exact ⟨by omega, by omega⟩
         ·exact HC.out t h1 (by omega)
        have hV64 : 64 * V + s[k + j].toNat - 128 < 64 ^ (j + 1) := by rw [Nat.pow_succ]; omega
        clear hp
        go_wp2_with fail
        go_round
        case rel => exact ⟨j + 1, 64 * V + s[k + j].toNat - 128, by omega, by omega, by go_num, by congr 1; omega, hV64, HV2, HC2⟩
        case measure => simp [intOf]; omega
      ·obtain rfl : j = 2 := by omega
       have hVV : V ≤ 16777216 := by omega
       have hV0 : V ≤ 1114111 := by omega
       by_cases b1 : V < 128
       ·have HN : Hid (ANS = false) := by
         show _ = _
         rcases valid_two (s.data.toList.drop k) (by rw [HB0.out]; omega) (by rw [HB0.out]; omega) with h | h
         ·exfalso; have := h.2.2.1; rw [← vw_two, ← HV.out] at this; omega
         ·rw [← HE.out]; exact h.2
        clear HE HB0 HL HV HC hp hV
        go_wp2_with fail
        go_ret
        exact ⟨by rw [HN.out]; rfl, rfl⟩
       ·have HN : Hid (Lib.validD (s.data.toList.drop (k + 2)) = ANS) := by
         show _ = _
         rcases valid_two (s.data.toList.drop k) (by rw [HB0.out]; omega) (by rw [HB0.out]; omega) with h | h
         ·rw [← HE.out, h.2.2.2, List.drop_drop]
         ·exfalso; apply h.1; refine ⟨by rw [HL.out]; omega, HC.out 1 (by omega) (by omega), ?_⟩; rw [← vw_two, ← HV.out]; omega
        have hV3 : V < 55296 := by omega
        clear HE HB0 HL HV HC hp hV
        go_wp2_with fail
        go_round
        case rel => exact ⟨k + 2, by omega, by go_num, HN⟩
        case measure => simp [intOf]; omega
    ·have HN : Hid (ANS = false) := by
      show _ = _
      rcases valid_two (s.data.toList.drop k) (by rw [HB0.out]; omega) (by rw [HB0.out]; omega) with h | h
      ·have := h.1; rw [HL.out] at this; omega
      ·rw [← HE.out]; exact h.2
     clear HE HB0 HL
     go_wp2_with fail
     go_ret
     exact ⟨by rw [HN.out]; rfl, rfl⟩
   by_cases h3 : s[k].toNat < 240
   ·by_cases hl2 : k + 3 ≤ s.size
    ·have hk1 : k < 140737488355328 := by omega
     go_wp2_with fail
     go_loop [7, 8] (fun v i => ∃ j V : Nat, 1 ≤ j ∧ j ≤ 3 ∧ i = .int .i64 j ∧ v = .int .i64 V ∧ V < 64 ^ j ∧ Hid (V = vw 224 (s.data.toList.drop k) j) ∧ Hid (∀ t, 1 ≤ t → t < j → Co (bt (s.data.toList.drop k) t))) (fun _ i => 3 - (intOf i).toNat)
     case atStart =>
      refine ⟨1, s[k].toNat - 224, by omega, by omega, rfl, ?_, by omega, ?_, fun t h1 h2 => by omega⟩
      ·congr 1; omega
      ·show _ = bt (s.data.toList.drop k) 0 - 224
       rw [HB0.out]
     case round =>
      obtain ⟨j, V, hj1, hj, rfl, rfl, hV, HV, HC⟩ := hrel
      have hp : 64 ^ j ≤ 16777216 := by
       have : j = 1 ∨ j = 2 ∨ j = 3 ∨ j = 4 := by omega
       rcases this with rfl | rfl | rfl | rfl <;> omega
      by_cases hjn : j < 3
      ·have hkj : k + j < s.size := by omega
       have hbj := s[k + j].toNat_lt
       have HBJ : Hid (bt (s.data.toList.drop k) j = s[k + j].toNat) := bt_at s k j hkj
       by_cases hlo : s[k + j].toNat < 128
       ·have HN : Hid (ANS = false) := by
         show _ = _
         rcases valid_three (s.data.toList.drop k) (by rw [HB0.out]; omega) (by rw [HB0.out]; omega) _ rfl with h | h
         ·exfalso
          have hco : ∀ t, 1 ≤ t → t < 3 → Co (bt (s.data.toList.drop k) t) := (fun t h1 h2 => by have ht : t = 1 ∨ t = 2 := (by omega); rcases ht with rfl | rfl <;> first | exact h.2.1 | exact h.2.2.1)
          have := (hco j hj1 hjn).1; rw [HBJ.out] at this; omega
         ·rw [← HE.out]; exact h.2
        clear HE HB0 HL HV HC HBJ hp hV
        go_wp2_with fail
        go_ret
        exact ⟨by rw [HN.out]; rfl, rfl⟩
       by_cases hhi : 192 ≤ s[k + j].toNat
       ·have HN : Hid (ANS = false) := by
         show _ = _
         rcases valid_three (s.data.toList.drop k) (by rw [HB0.out]; omega) (by rw [HB0.out]; omega) _ rfl with h | h
         ·exfalso
          have hco : ∀ t, 1 ≤ t → t < 3 → Co (bt (s.data.toList.drop k) t) := (fun t h1 h2 => by have ht : t = 1 ∨ t = 2 := (by omega); rcases ht with rfl | rfl <;> first | exact h.2.1 | exact h.2.2.1)
          have := (hco j hj1 hjn).2; rw [HBJ.out] at this; omega
         ·rw [← HE.out]; exact h.2
        clear HE HB0 HL HV HC HBJ hp hV
        go_wp2_with fail
        go_ret
        exact ⟨by rw [HN.out]; rfl, rfl⟩
       ·have hVV : V ≤ 16777216 := by omega
        have HV2 : Hid (64 * V + s[k + j].toNat - 128 = vw 224 (s.data.toList.drop k) (j + 1)) := by
         show _ = _; rw [vw_next _ _ _ hj1, ← HV.out, HBJ.out]
        have HC2 : Hid (∀ t, 1 ≤ t → t < j + 1 → Co (bt (s.data.toList.drop k) t)) := fun t h1 h2 => by
         by_cases e : t = j
         ·subst e; rw [HBJ.out]; exact ⟨by omega, by omega⟩
         ·exact HC.out t h1 (by omega)
        have hV64 : 64 * V + s[k + j].toNat - 128 < 64 ^ (j + 1) := by rw [Nat.pow_succ]; omega
        clear hp
        go_wp2_with fail
        go_round
        case rel => exact ⟨j + 1, 64 * V + s[k + j].toNat - 128, by omega, by omega, by go_num, by congr 1; omega, hV64, HV2, HC2⟩
        case measure => simp [intOf]; omega
      ·obtain rfl : j = 3 := by omega
       have hVV : V ≤ 16777216 := by omega
       have hV0 : V ≤ 1114111 := by omega
       by_cases b1 : V < 2048
       ·have HN : Hid (ANS = false) := by
         show _ = _
         rcases valid_three (s.data.toList.drop k) (by rw [HB0.out]; omega) (by rw [HB0.out]; omega) _ rfl with h | h
         ·exfalso; have := h.2.2.2.1; rw [← vw_three, ← HV.out] at this; omega
         ·rw [← HE.out]; exact h.2
        clear HE HB0 HL HV HC hp hV
        go_wp2_with fail
        go_ret
        exact ⟨by rw [HN.out]; rfl, rfl⟩
       by_cases b2 : V < 55296
       ·have HN : Hid (Lib.validD (s.data.toList.drop (k + 3)) = ANS) := by
         show _ = _
         rcases valid_three (s.data.toList.drop k) (by rw [HB0.out]; omega) (by rw [HB0.out]; omega) _ rfl with h | h
         ·rw [← HE.out, h.2.2.2.2.2, List.drop_drop]
         ·exfalso; apply h.1; refine ⟨by rw [HL.out]; omega, HC.out 1 (by omega) (by omega), HC.out 2 (by omega) (by omega), ?_, ?_⟩ <;> rw [← vw_three, ← HV.out] <;> omega
        clear HE HB0 HL HV HC hp hV
        go_wp2_with fail
        go_round
        case rel => exact ⟨k + 3, by omega, by go_num, HN⟩
        case measure => simp [intOf]; omega
       by_cases b3 : V ≤ 57343
       ·have HN : Hid (ANS = false) := by
         show _ = _
         rcases valid_three (s.data.toList.drop k) (by rw [HB0.out]; omega) (by rw [HB0.out]; omega) _ rfl with h | h
         ·exfalso; have := h.2.2.2.2.1; rw [← vw_three, ← HV.out] at this; omega
         ·rw [← HE.out]; exact h.2
        clear HE HB0 HL HV HC hp hV
        go_wp2_with fail
        go_ret
        exact ⟨by rw [HN.out]; rfl, rfl⟩
       ·have HN : Hid (Lib.validD (s.data.toList.drop (k + 3)) = ANS) := by
         show _ = _
         rcases valid_three (s.data.toList.drop k) (by rw [HB0.out]; omega) (by rw [HB0.out]; omega) _ rfl with h | h
         ·rw [← HE.out, h.2.2.2.2.2, List.drop_drop]
         ·exfalso; apply h.1; refine ⟨by rw [HL.out]; omega, HC.out 1 (by omega) (by omega), HC.out 2 (by omega) (by omega), ?_, ?_⟩ <;> rw [← vw_three, ← HV.out] <;> omega
        clear HE HB0 HL HV HC hp hV
        go_wp2_with fail
        go_round
        case rel => exact ⟨k + 3, by omega, by go_num, HN⟩
        case measure => simp [intOf]; omega
    ·have HN : Hid (ANS = false) := by
      show _ = _
      rcases valid_three (s.data.toList.drop k) (by rw [HB0.out]; omega) (by rw [HB0.out]; omega) _ rfl with h | h
      ·have := h.1; rw [HL.out] at this; omega
      ·rw [← HE.out]; exact h.2
     clear HE HB0 HL
     go_wp2_with fail
     go_ret
     exact ⟨by rw [HN.out]; rfl, rfl⟩
   ·by_cases hl2 : k + 4 ≤ s.size
    ·have hk1 : k < 140737488355328 := by omega
     go_wp2_with fail
     go_loop [7, 8] (fun v i => ∃ j V : Nat, 1 ≤ j ∧ j ≤ 4 ∧ i = .int .i64 j ∧ v = .int .i64 V ∧ V < 64 ^ j ∧ Hid (V = vw 240 (s.data.toList.drop k) j) ∧ Hid (∀ t, 1 ≤ t → t < j → Co (bt (s.data.toList.drop k) t))) (fun _ i => 4 - (intOf i).toNat)
     case atStart =>
      refine ⟨1, s[k].toNat - 240, by omega, by omega, rfl, ?_, by omega, ?_, fun t h1 h2 => by omega⟩
      ·congr 1; omega
      ·show _ = bt (s.data.toList.drop k) 0 - 240
       rw [HB0.out]
     case round =>
      obtain ⟨j, V, hj1, hj, rfl, rfl, hV, HV, HC⟩ := hrel
      have hp : 64 ^ j ≤ 16777216 := by
       have : j = 1 ∨ j = 2 ∨ j = 3 ∨ j = 4 := by omega
       rcases this with rfl | rfl | rfl | rfl <;> omega
      by_cases hjn : j < 4
      ·have hkj : k + j < s.size := by omega
       have hbj := s[k + j].toNat_lt
       have HBJ : Hid (bt (s.data.toList.drop k) j = s[k + j].toNat) := bt_at s k j hkj
       by_cases hlo : s[k + j].toNat < 128
       ·have HN : Hid (ANS = false) := by
         show _ = _
         rcases valid_four (s.data.toList.drop k) (by rw [HB0.out]; omega) (by rw [HB0.out]; omega) _ rfl with h | h
         ·exfalso
          have hco : ∀ t, 1 ≤ t → t < 4 → Co (bt (s.data.toList.drop k) t) := (fun t h1 h2 => by have ht : t = 1 ∨ t = 2 ∨ t = 3 := (by omega); rcases ht with rfl | rfl | rfl <;> first | exact h.2.1 | exact h.2.2.1 | exact h.2.2.2.1)
          have := (hco j hj1 hjn).1; rw [HBJ.out] at this; omega
         ·rw [← HE.out]; exact h.2
        clear HE HB0 HL HV HC HBJ hp hV
        go_wp2_with fail
        go_ret
        exact ⟨by rw [HN.out]; rfl, rfl⟩
       by_cases hhi : 192 ≤ s[k + j].toNat
       ·have HN : Hid (ANS = false) := by
         show _ = _
         rcases valid_four (s.data.toList.drop k) (by rw [HB0.out]; omega) (by rw [HB0.out]; omega) _ rfl with h | h
         ·exfalso
          have hco : ∀ t, 1 ≤ t → t < 4 → Co (bt (s.data.toList.drop k) t) := (fun t h1 h2 => by have ht : t = 1 ∨ t = 2 ∨ t = 3 := (by omega); rcases ht with rfl | rfl | rfl <;> first | exact h.2.1 | exact h.2.2.1 | exact h.2.2.2.1)
          have := (hco j hj1 hjn).2; rw [HBJ.out] at this; omega
         ·rw [← HE.out]; exact h.2
        clear HE HB0 HL HV HC HBJ hp hV
        go_wp2_with fail
        go_ret
        exact ⟨by rw [HN.out]; rfl, rfl⟩
       ·have hVV : V ≤ 16777216 := by omega
        have HV2 : Hid (64 * V + s[k + j].toNat - 128 = vw 240 (s.data.toList.drop k) (j + 1)) := by
         show _ = _; rw [vw_next _ _ _ hj1, ← HV.out, HBJ.out]
        have HC2 : Hid (∀ t, 1 ≤ t → t < j + 1 → Co (bt (s.data.toList.drop k) t)) := fun t h1 h2 => by
         by_cases e : t = j
         ·subst e; rw [HBJ.out]; exact ⟨by omega, by omega⟩
         ·exact HC.out t h1 (by omega)
        have hV64 : 64 * V + s[k + j].toNat - 128 < 64 ^ (j + 1) := by rw [Nat.pow_succ]; omega
        clear hp
        go_wp2_with fail
        go_round
        case rel => exact ⟨j + 1, 64 * V + s[k + j].toNat - 128, by omega, by omega, by go_num, by congr 1; omega, hV64, HV2, HC2⟩
        case measure => simp [intOf]; omega
      ·obtain rfl : j = 4 := by omega
       have hVV : V ≤ 16777216 := by omega
       by_cases b1 : V < 65536
       ·have HN : Hid (ANS = false) := by
         show _ = _
         rcases valid_four (s.data.toList.drop k) (by rw [HB0.out]; omega) (by rw [HB0.out]; omega) _ rfl with h | h
         ·exfalso; have := h.2.2.2.2.1; rw [← vw_four, ← HV.out] at this; omega
         ·rw [← HE.out]; exact h.2
        clear HE HB0 HL HV HC hp hV
        go_wp2_with fail
        go_ret
        exact ⟨by rw [HN.out]; rfl, rfl⟩
       by_cases b2 : 1114111 < V
       ·have HN : Hid (ANS = false) := by
         show _ = _
         rcases valid_four (s.data.toList.drop k) (by rw [HB0.out]; omega) (by rw [HB0.out]; omega) _ rfl with h | h
         ·exfalso; have := h.2.2.2.2.2.1; rw [← vw_four, ← HV.out] at this; omega
         ·rw [← HE.out]; exact h.2
        clear HE HB0 HL HV HC hp hV
        go_wp2_with fail
        go_ret
        exact ⟨by rw [HN.out]; rfl, rfl⟩
       ·have HN : Hid (Lib.validD (s.data.toList.drop (k + 4)) = ANS) := by
         show _ = _
         rcases valid_four (s.data.toList.drop k) (by rw [HB0.out]; omega) (by rw [HB0.out]; omega) _ rfl with h | h
         ·rw [← HE.out, h.2.2.2.2.2.2, List.drop_drop]
         ·exfalso; apply h.1; refine ⟨by rw [HL.out]; omega, HC.out 1 (by omega) (by omega), HC.out 2 (by omega) (by omega), HC.out 3 (by omega) (by omega), ?_, ?_⟩ <;> rw [← vw_four, ← HV.out] <;> omega
        have b3 : ¬ V ≤ 57343 := by omega
        clear HE HB0 HL HV HC hp hV
        go_wp2_with fail
        go_round
        case rel => exact ⟨k + 4, by omega, by go_num, HN⟩
        case measure => simp [intOf]; omega
    ·have HN : Hid (ANS = false) := by
      show _ = _
      rcases valid_four (s.data.toList.drop k) (by rw [HB0.out]; omega) (by rw [HB0.out]; omega) _ rfl with h | h
      ·have := h.1; rw [HL.out] at this; omega
      ·rw [← HE.out]; exact h.2
     clear HE HB0 HL
     go_wp2_with fail
     go_ret
     exact ⟨by rw [HN.out]; rfl, rfl⟩
  ·obtain rfl : k = s.size := by omega
   have HN : Hid (ANS = true) := by
    show _ = _
    rw [← HE.out, show s.data.toList.drop s.size = [] from List.drop_eq_nil_of_le (Nat.le_refl _)]; rfl
   go_wp2_with fail
   go_ret
   exact ⟨by rw [HN.out]; rfl, rfl⟩
end Go.Proofs.YtlnbhlgkehenpaaGreatDoor
namespace Go.Proofs.YtlnbhlgkehenpaaGreatDoor
open Go.RowKit Dg
set_option maxHeartbeats 1000000 in
theorem refMay_any (k n : Int) (s : ByteArray) (w : World) (hs : s.size ≤ 140737488355328) :
 Calls Tryz.prog 122 #[.agg #[.int .i64 k, .int .i64 n, .string s]] w fun e w' => e = .returned (.bool (mayF k n s)) ∧ Hid (Below w.heap.size w w') := by
 have HB := fun k n s => Lib.hid ((Below.refl w.heap.size w).alloc (Nat.le_refl _) (.cells #[.int .i64 k, .int .i64 n, .string s] 115))
 by_cases h0 : k = 0
 ·subst h0
  by_cases hn : n = 0
  ·subst hn
   go_enter Tryz.func122, Tryz.ntmps122
   go_wp2_with fail
   go_ret
   exact ⟨by simp [mayF], HB _ _ _⟩
  ·have hq : (n == 0) = false := by simp [hn]
   go_enter Tryz.func122, Tryz.ntmps122
   go_wp2_with fail
   go_ret
   exact ⟨by simp [mayF, hn], HB _ _ _⟩
 by_cases h1 : k = 1
 ·subst h1
  cases he : s.toList.isEmpty
  ·go_enter Tryz.func122, Tryz.ntmps122
   go_wp2_with fail
   go_ret
   exact ⟨by simp [mayF, he], HB _ _ _⟩
  ·by_cases hn : n = 0
   ·subst hn
    go_enter Tryz.func122, Tryz.ntmps122
    go_wp2_with fail
    go_ret
    exact ⟨by simp [mayF, he], HB _ _ _⟩
   ·have hq : (n == 0) = false := by simp [hn]
    go_enter Tryz.func122, Tryz.ntmps122
    go_wp2_with fail
    go_ret
    exact ⟨by simp [mayF, he, hn], HB _ _ _⟩
 by_cases h2 : k = 2
 ·subst h2
  go_enter Tryz.func122, Tryz.ntmps122
  go_wp2_with fail
  go_ret
  exact ⟨by simp [mayF], HB _ _ _⟩
 by_cases h3 : k = 3
 ·subst h3
  have HC := Lib.hid (fun w => refUtf8_any s w hs)
  go_enter Tryz.func122, Tryz.ntmps122
  go_wp2_with fail
  refine (HC.out _).mono ?_
  rintro e w1 ⟨rfl, rfl⟩
  generalize hV : Lib.validD s.data.toList = V
  have hm : mayF 3 n s = (short n s && V) := by simp [mayF, hV]
  have HM := Lib.hid hm
  clear hm hV
  cases V
  ·go_wp2_with fail
   go_ret
   exact ⟨by simp [HM.out], HB _ _ _⟩
  ·by_cases hn : n = 0
   ·subst hn
    go_wp2_with fail
    go_ret
    exact ⟨by simp [HM.out, short]; omega, HB _ _ _⟩
   ·have hq : (n == 0) = false := by simp [hn]
    go_wp2_with fail
    go_ret
    exact ⟨by simp [HM.out, short, hn], HB _ _ _⟩
 by_cases h4 : k = 4
 ·subst h4
  by_cases hn : n = 0
  ·subst hn
   go_enter Tryz.func122, Tryz.ntmps122
   go_wp2_with fail
   go_ret
   exact ⟨by simp [mayF, short]; omega, HB _ _ _⟩
  ·have hq : (n == 0) = false := by simp [hn]
   go_enter Tryz.func122, Tryz.ntmps122
   go_wp2_with fail
   go_ret
   exact ⟨by simp [mayF, short, hn], HB _ _ _⟩
 ·go_enter Tryz.func122, Tryz.ntmps122
  go_wp2_with fail
  go_ret
  exact ⟨by simp [mayF, h0, h1, h2, h3, h4], HB _ _ _⟩
set_option maxRecDepth 100000
structure VSt (w wr W : World) (u : Value) (acc : List Vl) (k n : Int) (t : ByteArray) : Prop where
 own : OwnV w.heap.size W u acc
 bel : Below w.heap.size w W
 box : Has W wr.heap.size 115 #[.int .i64 k, .int .i64 n, .string t]
 low : ∀ g cap m, u = .slice (some ⟨g, 0, none⟩) m cap → g < wr.heap.size
 big : wr.heap.size + 1 ≤ W.heap.size
 base : w.heap.size ≤ wr.heap.size
section
variable {w wr W W' : World} {u : Value} {acc : List Vl} {k n : Int} {t : ByteArray}
theorem VSt.start (ho : OwnV w.heap.size wr u acc) (hb : Below w.heap.size w wr) : VSt w wr (wr.alloc (.cells #[.int .i64 k, .int .i64 n, .string t] 115)) u acc k n t :=
 ⟨World.ownsRow.alloc ho _, hb.alloc hb.size _, Has.new wr 115 _, fun g cap m e => (World.ownsRow.lt ho g (by rw [e]; rfl)).2, by simp, hb.size⟩
theorem VSt.below (h : VSt w wr W u acc k n t) (hb : Below (wr.heap.size + 1) W W') : VSt w wr W' u acc k n t := by
 refine ⟨?_, h.bel.trans (hb.mono (by have := h.base; omega)), h.box.below hb (by omega), h.low, Nat.le_trans h.big hb.size, h.base⟩
 rcases h.own.2 with ⟨hv, hn⟩ | ⟨g, cap, cur, hv, hg, hh, hc, hcm, hsz, ht⟩
 ·exact ⟨h.own.1, .inl ⟨hv, hn⟩⟩
 ·exact ⟨h.own.1, .inr ⟨g, cap, cur, hv, hg, Has.below (t := 115) (cs := cur) hh hb (by have := h.low g cap _ hv; omega), hc, hcm, hsz, ht⟩⟩
theorem VSt.down (h : VSt w wr W u acc k n t) (hb : Below W.heap.size W W') : VSt w wr W' u acc k n t := h.below (hb.mono h.big)
theorem VSt.c0 (h : VSt w wr W u acc k n t) : W.cell? ⟨wr.heap.size, 0, none⟩ = some (.int .i64 k) := h.box.cell 0
theorem VSt.c1 (h : VSt w wr W u acc k n t) : W.cell? ⟨wr.heap.size, 1, none⟩ = some (.int .i64 n) := h.box.cell 1
theorem VSt.c2 (h : VSt w wr W u acc k n t) : W.cell? ⟨wr.heap.size, 2, none⟩ = some (.string t) := h.box.cell 2
end
end Go.Proofs.YtlnbhlgkehenpaaGreatDoor
namespace Go.Proofs.YtlnbhlgkehenpaaGreatDoor
open Go.RowKit Dg
set_option maxRecDepth 100000
structure GSw (w wr : World) (u : Value) (T : List Wk) : Prop where
 own : OwnW (w.heap.size + 1) wr u T
 bel : Below w.heap.size w wr
 pool : Has wr w.heap.size 9 #[.string ⟨#[116]⟩, .string ⟨#[117]⟩, .string ⟨#[118]⟩, .string ⟨#[119]⟩]
 big : w.heap.size + 1 ≤ wr.heap.size
theorem GSw.grown {w wr w' : World} {u u' : Value} {T T' : List Wk} (h : GSw w wr u T) (ho : OwnW wr.heap.size w' u' T') (hb : Below wr.heap.size wr w') : GSw w w' u' T' :=
 ⟨ownW_down ho h.big, h.bel.trans (hb.mono h.bel.size), h.pool.below hb h.pool.lt, Nat.le_trans h.big hb.size⟩
theorem GSw.below {w wr w' : World} {u : Value} {T : List Wk} (h : GSw w wr u T) (hb : Below wr.heap.size wr w') : GSw w w' u T :=
 ⟨h.own.below hb, h.bel.trans (hb.mono h.bel.size), h.pool.below hb h.pool.lt, Nat.le_trans h.big hb.size⟩
theorem GSw.put {w wr : World} {g n c : Nat} {T : List Wk} (h : GSw w wr (.slice (some ⟨g, 0, none⟩) n c) T) (i : Nat) (hi : i < T.length) (j : Nat) (hj : j < 3) (v : Value) (x : Wk) (hx : x.row = T[i].row.set j v) :
 wr.frozen? ⟨g, i * 3 + j, none⟩ = false ∧ GSw w (wr.setCell ⟨g, i * 3 + j, none⟩ v) (.slice (some ⟨g, 0, none⟩) n c) (T.set i x) := by
 obtain ⟨h1, h2, h3⟩ := ownW_put2 h.own i hi j hj v x hx
 refine ⟨h2, h3, h.bel.setCell (by show w.heap.size ≤ g; omega) _, h.pool.far (by show w.heap.size ≠ g; omega) _, by rw [size_set]; exact h.big⟩
theorem wEnd2 {fn : Func} {p u : Tmp} (h : fn.results = #[.cell p 120, .tmp u]) (w' : World) (g : Nat) (c0 c1 c2 : Value) (tmps : Array Value) (hp : tmps.getD p undef = .pointer (some ⟨g, 0, none⟩)) (hh : Has w' g 120 #[c0, c1, c2]) :
 (results fn tmps).run Tryz.prog w' = .ok (.tuple #[.agg #[c0, c1, c2], tmps.getD u undef]) w' := by
 rw [results_cell_tmp h, hp]
 simp only [asAddr, Sem.run_pure, Result.andThen_ok]
 rw [run_loadVar_row w' g 120 120 #[c0, c1, c2] (0, 0) _ hh Tryz.underlying120 rfl (by kernel_rfl)]
 rfl
theorem hput3 {W : World} {g : Nat} {t : TypeId} {a0 a1 a2 : Value} (h : Has W g t #[a0, a1, a2]) (u0 u1 u2 : Value) : Has (((W.setCell ⟨g, 0, none⟩ u0).setCell ⟨g, 1, none⟩ u1).setCell ⟨g, 2, none⟩ u2) g t #[u0, u1, u2] := ((h.put 0 u0).put 1 u1).put 2 u2
def ptOk (x y z : Int) (T : List Wk) : Bool := decide (0 ≤ x) && decide (0 ≤ y) && decide (0 ≤ z) && wrightF T
set_option maxHeartbeats 8000000 in
theorem pptmay_any {B : Nat} {A : Option Addr} {n c : Nat} {T : List Wk} (x y z : Int) (w : World) (h : OwnW B w (.slice A n c) T) (hl : T.length ≤ 800) (hf : ∀ x ∈ T, x.t.size ≤ 140737488355328 ∧ x.k.size ≤ 900) (hT : Tabs w) (hT0 : T = []) :
 Calls Tryz.prog 65 #[.agg #[.int .i64 x, .int .i64 y, .int .i64 z, .slice A n c]] w fun e w' => e = .returned (.bool (ptOk x y z T)) ∧ Hid (Below w.heap.size w w') := by
 have HT0 := Lib.hid hT0
 clear hT0
 have hb0 : Below w.heap.size w (w.alloc (.cells #[.int .i64 x, .int .i64 y, .int .i64 z, .slice A n c] 75)) := (Below.refl _ w).alloc (Nat.le_refl _) _
 have HR := Lib.hid (pwright_any _ (h.below hb0) hl hf (hT.below hb0) HT0.out)
 have HB := Lib.hid hb0
 have HO : Hid (ptOk x y z T = (decide (0 ≤ x) && decide (0 ≤ y) && decide (0 ≤ z) && wrightF T)) := rfl
 clear h hf hT hb0
 generalize wrightF T = r at *
 generalize ptOk x y z T = q at *
 by_cases h0 : 0 ≤ x
 ·by_cases h1 : 0 ≤ y
  ·by_cases h2 : 0 ≤ z
   ·have HO2 : Hid (q = r) := by show _ = _; rw [HO.out]; simp [h0, h1, h2]
    clear HO
    go_enter Tryz.func65, Tryz.ntmps65
    go_wp2_with fail
    refine HR.out.mono ?_
    rintro e w1 ⟨rfl, hb1⟩
    have HB1 := Lib.hid (HB.out.trans (hb1.out.mono HB.out.size))
    clear hb1
    go_wp2_with fail
    go_ret
    exact ⟨by rw [HO2.out]; rfl, HB1⟩
   ·have HO2 : Hid (q = false) := by show _ = _; rw [HO.out]; simp [h2]
    clear HO HR
    go_enter Tryz.func65, Tryz.ntmps65
    go_wp2_with fail
    go_ret
    exact ⟨by rw [HO2.out]; rfl, HB⟩
  ·have HO2 : Hid (q = false) := by show _ = _; rw [HO.out]; simp [h1]
   clear HO HR
   go_enter Tryz.func65, Tryz.ntmps65
   go_wp2_with fail
   go_ret
   exact ⟨by rw [HO2.out]; rfl, HB⟩
 ·have HO2 : Hid (q = false) := by show _ = _; rw [HO.out]; simp [h0]
  clear HO HR
  go_enter Tryz.func65, Tryz.ntmps65
  go_wp2_with fail
  go_ret
  exact ⟨by rw [HO2.out]; rfl, HB⟩
theorem ownW_apart {B : Nat} {w : World} {v : Value} {L : List Wk} {q : Nat} {t : TypeId} {cs : Array Value} (h : OwnW B w v L) (hh : Has w q t cs) (ht : t ≠ 120) (p : Addr) (hp : p.block = q) (u : Value) : OwnW B (w.setCell p u) v L := by
 rcases h.2 with ⟨hv, hn⟩ | ⟨g, cap, cur, hv, hg, hg2, hc, hcm, hsz, ht2⟩
 ·exact ⟨h.1, .inl ⟨hv, hn⟩⟩
 ·refine ⟨h.1, .inr ⟨g, cap, cur, hv, hg, Has.far (t := 120) (cs := cur) hg2 (fun e => ?_) u, hc, hcm, hsz, ht2⟩⟩
  rw [hp] at e
  subst e
  unfold Has at hh
  rw [hh] at hg2
  simp at hg2
  exact ht hg2.2
structure PtS (w W : World) (q : Nat) (x y z : Int) (v : Value) (G : List Wk) : Prop where
 own : OwnW w.heap.size W v G
 bel : Below w.heap.size w W
 box : Has W q 75 #[.int .i64 x, .int .i64 y, .int .i64 z, v]
 res : Has W (w.heap.size + 1) 75 #[.int .i64 0, .int .i64 0, .int .i64 0, .slice none 0 0]
 ne : q ≠ w.heap.size + 1
 ge : w.heap.size ≤ q
section
variable {w W : World} {q : Nat} {x y z : Int} {v : Value} {G : List Wk}
theorem PtS.fin (h : PtS w W q x y z v G) : Has ((((W.setCell ⟨w.heap.size + 1, 0, none⟩ (.int .i64 x)).setCell ⟨w.heap.size + 1, 1, none⟩ (.int .i64 y)).setCell ⟨w.heap.size + 1, 2, none⟩ (.int .i64 z)).setCell ⟨w.heap.size + 1, 3, none⟩ v) (w.heap.size + 1) 75 #[.int .i64 x, .int .i64 y, .int .i64 z, v] ∧
 OwnW w.heap.size ((((W.setCell ⟨w.heap.size + 1, 0, none⟩ (.int .i64 x)).setCell ⟨w.heap.size + 1, 1, none⟩ (.int .i64 y)).setCell ⟨w.heap.size + 1, 2, none⟩ (.int .i64 z)).setCell ⟨w.heap.size + 1, 3, none⟩ v) v G ∧
 Below w.heap.size w ((((W.setCell ⟨w.heap.size + 1, 0, none⟩ (.int .i64 x)).setCell ⟨w.heap.size + 1, 1, none⟩ (.int .i64 y)).setCell ⟨w.heap.size + 1, 2, none⟩ (.int .i64 z)).setCell ⟨w.heap.size + 1, 3, none⟩ v) := by
 have h0 := h.res.put 0 (.int .i64 x)
 have h1 := h0.put 1 (.int .i64 y)
 have h2 := h1.put 2 (.int .i64 z)
 have o0 := ownW_apart h.own h.res (by decide) ⟨w.heap.size + 1, 0, none⟩ rfl (.int .i64 x)
 have o1 := ownW_apart o0 h0 (by decide) ⟨w.heap.size + 1, 1, none⟩ rfl (.int .i64 y)
 have o2 := ownW_apart o1 h1 (by decide) ⟨w.heap.size + 1, 2, none⟩ rfl (.int .i64 z)
 have b0 := h.bel.setCell (p := ⟨w.heap.size + 1, 0, none⟩) (by show w.heap.size ≤ w.heap.size + 1; omega) (.int .i64 x)
 have b1 := b0.setCell (p := ⟨w.heap.size + 1, 1, none⟩) (by show w.heap.size ≤ w.heap.size + 1; omega) (.int .i64 y)
 have b2 := b1.setCell (p := ⟨w.heap.size + 1, 2, none⟩) (by show w.heap.size ≤ w.heap.size + 1; omega) (.int .i64 z)
 exact ⟨h2.put 3 v, ownW_apart o2 h2 (by decide) ⟨w.heap.size + 1, 3, none⟩ rfl v, b2.setCell (p := ⟨w.heap.size + 1, 3, none⟩) (by show w.heap.size ≤ w.heap.size + 1; omega) v⟩
end
end Go.Proofs.YtlnbhlgkehenpaaGreatDoor
namespace Go.Proofs.YtlnbhlgkehenpaaGreatDoor.Dg

def join (i n d : Nat) : Nat := n + d * 128 ^ i % 18446744073709551616

def yheadF (most : Nat) : Nat → Nat → Nat → List Nat → Nat × Nat × Nat
 | 0, _, _, _ => (0, 0, 2)
 | _ + 1, _, _, [] => (0, 0, 4)
 | f + 1, i, n, b :: l =>
   if 128 ≤ b then yheadF most f (i + 1) (join i n (b % 128)) l
   else if (0 < i ∧ b % 128 = 0) ∨ join i n (b % 128) / 128 ^ i ≠ b % 128 ∨ most < join i n (b % 128) then (0, 0, 2)
   else (join i n (b % 128), i + 1, 0)

section
variable {most f i n b : Nat} {l : List Nat} {R : Nat × Nat × Nat}
theorem head_over (h : yheadF most 0 i n l = R) : R = (0, 0, 2) := by rw [← h]; simp [yheadF]
theorem head_end (h : yheadF most (f + 1) i n [] = R) : R = (0, 0, 4) := by rw [← h]; simp [yheadF]
theorem head_more (h : yheadF most (f + 1) i n (b :: l) = R) (hb : 128 ≤ b) : yheadF most f (i + 1) (join i n (b % 128)) l = R := by
 rw [← h, yheadF, if_pos hb]
theorem head_form (h : yheadF most (f + 1) i n (b :: l) = R) (hb : b < 128) (hc : (0 < i ∧ b % 128 = 0) ∨ join i n (b % 128) / 128 ^ i ≠ b % 128 ∨ most < join i n (b % 128)) : R = (0, 0, 2) := by
 rw [← h, yheadF, if_neg (by omega), if_pos hc]
theorem head_good (h : yheadF most (f + 1) i n (b :: l) = R) (hb : b < 128) (hc : ¬ ((0 < i ∧ b % 128 = 0) ∨ join i n (b % 128) / 128 ^ i ≠ b % 128 ∨ most < join i n (b % 128))) : R = (join i n (b % 128), i + 1, 0) := by
 rw [← h, yheadF, if_neg (by omega), if_neg hc]
end

theorem pow_le_nine : ∀ i, i ≤ 9 → 128 ^ i ≤ 9223372036854775808 := by
 intro i hi
 have := Nat.pow_le_pow_right (n := 128) (by omega) hi
 have e : (128 : Nat) ^ 9 = 9223372036854775808 := by decide
 omega
theorem join_lt {i n d : Nat} (hi : i < 9) (hn : n < 128 ^ i) (hd : d < 128) : join i n d < 128 ^ (i + 1) := by
 have hp := pow_le_nine (i + 1) (by omega)
 have he : (128 : Nat) ^ (i + 1) = 128 ^ i * 128 := Nat.pow_succ ..
 have h1 : d * 128 ^ i ≤ 127 * 128 ^ i := Nat.mul_le_mul_right _ (by omega)
 unfold join
 rw [Nat.mod_eq_of_lt (by omega)]
 omega
theorem join_big {n d : Nat} (i : Nat) (hi : i ≤ 9) (hn : n < 128 ^ i) : join i n d < 18446744073709551616 := by
 have hp := pow_le_nine i hi
 unfold join
 rcases Nat.lt_or_ge i 9 with h | h
 ·have h2 : d * 128 ^ i % 18446744073709551616 = 128 ^ i * (d % (18446744073709551616 / 128 ^ i)) := by
   have e : (18446744073709551616 : Nat) = 128 ^ i * (18446744073709551616 / 128 ^ i) := by
    have : i = 0 ∨ i = 1 ∨ i = 2 ∨ i = 3 ∨ i = 4 ∨ i = 5 ∨ i = 6 ∨ i = 7 ∨ i = 8 := by omega
    rcases this with rfl | rfl | rfl | rfl | rfl | rfl | rfl | rfl | rfl <;> decide
   conv => lhs; rw [e]
   rw [Nat.mul_comm d, Nat.mul_mod_mul_left]
  have e : (18446744073709551616 : Nat) = 128 ^ i * (18446744073709551616 / 128 ^ i) := by
   have : i = 0 ∨ i = 1 ∨ i = 2 ∨ i = 3 ∨ i = 4 ∨ i = 5 ∨ i = 6 ∨ i = 7 ∨ i = 8 := by omega
   rcases this with rfl | rfl | rfl | rfl | rfl | rfl | rfl | rfl | rfl <;> decide
  have hq : 0 < 18446744073709551616 / 128 ^ i := Nat.div_pos (by omega) (Nat.pow_pos (by omega))
  have hm := Nat.mod_lt d hq
  rw [h2]
  have h3 : 128 ^ i * (d % (18446744073709551616 / 128 ^ i) + 1) ≤ 128 ^ i * (18446744073709551616 / 128 ^ i) := Nat.mul_le_mul_left _ (by omega)
  rw [Nat.mul_add] at h3
  omega
 ·obtain rfl : i = 9 := by omega
  have e9 : (128 : Nat) ^ 9 = 9223372036854775808 := by decide
  rw [e9] at hn ⊢
  omega

theorem head_digs (most : Nat) (rest : List Nat) : ∀ (m f i n : Nat), n < 128 ^ i → (0 < i → 0 < m) → n + m * 128 ^ i < 18446744073709551616 → (digs m).length ≤ f →
 yheadF most f i n (digs m ++ rest) = if most < n + m * 128 ^ i then (0, 0, 2) else (n + m * 128 ^ i, i + (digs m).length, 0) := by
 intro m
 induction m using Nat.strongRecOn with
 | ind m ih =>
   intro f i n hn hm hlt hf
   obtain ⟨f, rfl⟩ : ∃ g, f = g + 1 := ⟨f - 1, by have := digs_pos m; omega⟩
   rcases Nat.lt_or_ge m 128 with h | h
   ·have hj : join i n (m % 128) = n + m * 128 ^ i := by
     unfold join
     rw [Nat.mod_eq_of_lt h, Nat.mod_eq_of_lt (by omega)]
    have hd : (n + m * 128 ^ i) / 128 ^ i = m := by
     rw [Nat.add_mul_div_right _ _ (Nat.pow_pos (by omega)), Nat.div_eq_of_lt hn, Nat.zero_add]
    rw [digs_lt h, List.singleton_append, yheadF, if_neg (by omega), hj, hd, Nat.mod_eq_of_lt h]
    by_cases hmost : most < n + m * 128 ^ i
    ·rw [if_pos (Or.inr (Or.inr hmost)), if_pos hmost]
    ·rw [if_neg (by omega), if_neg hmost]; simp
   ·have hj : join i n ((m % 128 + 128) % 128) = n + m % 128 * 128 ^ i := by
     unfold join
     rw [show (m % 128 + 128) % 128 = m % 128 by omega]
     rw [Nat.mod_eq_of_lt]
     have : m % 128 * 128 ^ i ≤ m * 128 ^ i := Nat.mul_le_mul_right _ (by omega)
     omega
    have he : n + m % 128 * 128 ^ i + m / 128 * 128 ^ (i + 1) = n + m * 128 ^ i := by
     rw [Nat.pow_succ, ← Nat.mul_assoc, Nat.mul_right_comm, Nat.add_assoc, ← Nat.add_mul]
     congr 2
     omega
    have hn' : n + m % 128 * 128 ^ i < 128 ^ (i + 1) := by
     have h1 : m % 128 * 128 ^ i ≤ 127 * 128 ^ i := Nat.mul_le_mul_right _ (by omega)
     rw [Nat.pow_succ]
     omega
    rw [digs_ge h, List.cons_append, yheadF, if_pos (by omega), hj, ih (m / 128) (by omega) f (i + 1) _ hn' (fun _ => by omega) (by rw [he]; exact hlt) (by rw [digs_ge h, List.length_cons] at hf; omega), he]
    rw [List.length_cons, show i + 1 + (digs (m / 128)).length = i + ((digs (m / 128)).length + 1) by omega]

theorem head_len (most : Nat) : ∀ (f i n : Nat) (l : List Nat), (yheadF most f i n l).2.1 ≤ i + l.length := by
 intro f
 induction f with
 | zero => intro i n l; simp [yheadF]
 | succ f ih =>
   intro i n l
   rcases l with _ | ⟨b, l⟩
   ·simp [yheadF]
   ·rw [yheadF, List.length_cons]
    by_cases hb : 128 ≤ b
    ·rw [if_pos hb]
     have := ih (i + 1) (join i n (b % 128)) l
     omega
    ·rw [if_neg hb]
     split
     ·simp
     ·simp only; omega
theorem head_big (most : Nat) : ∀ (f i n : Nat) (l : List Nat), (yheadF most f i n l).1 ≤ most := by
 intro f
 induction f with
 | zero => intro i n l; simp [yheadF]
 | succ f ih =>
   intro i n l
   rcases l with _ | ⟨b, l⟩
   ·simp [yheadF]
   ·rw [yheadF]
    by_cases hb : 128 ≤ b
    ·rw [if_pos hb]; exact ih _ _ _
    ·rw [if_neg hb]
     split
     ·simp
     ·simp only; omega
def numF (most : Nat) (l : List Nat) (e : Nat) : Nat × List Nat × Nat :=
 if e ≠ 0 then (0, l, e) else if (yheadF most 10 0 0 l).2.2 ≠ 0 then (0, l, (yheadF most 10 0 0 l).2.2) else ((yheadF most 10 0 0 l).1, l.drop (yheadF most 10 0 0 l).2.1, 0)
theorem numF_le (most : Nat) (l : List Nat) (e : Nat) : (numF most l e).1 ≤ most := by
 unfold numF
 split
 ·simp
 ·split
  ·simp
  ·exact head_big ..
end Go.Proofs.YtlnbhlgkehenpaaGreatDoor.Dg
namespace Go.Proofs.YtlnbhlgkehenpaaGreatDoor
open Go.RowKit Dg
set_option maxRecDepth 100000
def ybig : Nat := 18446744073709551616
theorem ylen64_any (x : Nat) (w : World) (h : x < ybig) :
 Calls Tryz.prog 99 #[.int .u64 x] w fun e w' => e = .returned (.int .i64 (Lib.bitLen x)) ∧ w = w' :=
 (Tryz.bits_Len64 x w (by omega) (by unfold ybig at h; omega)).mono fun e w' ⟨he, hw⟩ => ⟨by rw [he, Int.toNat_natCast], hw.symm⟩

def yDigs (n : Nat) (w : World) (e : Ending) (w' : World) : Prop :=
 e = .returned (.slice (some ⟨w.heap.size, 0, none⟩) (digs n).length (digs n).length) ∧ Has w' w.heap.size 5 ((digs n).map bv).toArray ∧ w'.heap.size = w.heap.size + 1 ∧ Below w.heap.size w w'

set_option maxHeartbeats 400000 in
theorem ydigits_any (n : Nat) (w : World) (h1 : n < ybig) : Calls Tryz.prog 68 #[.int .u64 n] w (yDigs n w) := by
 have hor : bits .or .u64 (n : Int) 1 = ((n ||| 1 : Nat) : Int) := u64_or_nat n 1 (by unfold ybig at h1; exact h1) (by omega)
 have hsz : size n = (digs n).length := size_eq n h1
 have hp := digs_pos n
 have ht := digs_le_ten n h1
 obtain ⟨i0, hi, hz0, hz1, hz2⟩ := info_parts info5
 have hor2 : (n ||| 1) < ybig := by rw [or_one]; unfold ybig at h1 ⊢; split <;> omega
 have hb : ((Lib.bitLen (n ||| 1) : Nat) : Int) ≤ 70 := by unfold size at hsz; omega
 have HQ : Hid ((((Lib.bitLen (n ||| 1) : Nat) : Int) + 6) / 7 = ((digs n).length : Int)) := by show _ = _; unfold size at hsz; omega
 have HO := Lib.hid hor
 have hmk := fun (k : Nat) (hk : k ≤ 10) (W : World) => run_make (P := Tryz.prog) W 70 5 i0 (.int .u8 0) Tryz.underlying70 hi hz0 .i64 .i64 k k (by omega) (by omega) (by rw [hz2]; omega) (by omega)
 have HM := Lib.hid hmk
 have Hz1 := Lib.hid hz1
 clear hsz hor hmk hz1
 go_enter Tryz.func68, Tryz.ntmps68
 go_wp2_with fail
 rw [HO.out]
 refine (ylen64_any _ _ hor2).mono ?_
 rintro e w' ⟨rfl, rfl⟩
 go_wp2_with fail
 rw [HQ.out, HM.out _ ht]
 simp only [Int.toNat_natCast, Hz1.out]
 rw [arr_zero n]
 clear HM HQ HO Hz1
 generalize hL : (digs n).length = L at *
 have HL := Lib.hid hL
 clear hL
 go_wp2_with fail
 go_loopw [14] (fun i wr => ∃ k : Nat, k ≤ L ∧ i = .int .i64 k ∧ Has wr w.heap.size 5 (arr n L k) ∧ wr.heap.size = w.heap.size + 1 ∧ Below w.heap.size w wr) (fun i _ => L - (intOf i).toNat)
 case atStart => exact ⟨0, by omega, rfl, Has.new _ _ _, by simp, (Below.refl _ _).alloc (Nat.le_refl _) _⟩
 case round =>
  obtain ⟨k, hk, rfl, hblk, hsz, hbel⟩ := hrel
  have HB := Lib.hid hblk
  have HS := Lib.hid hsz
  clear hblk hsz
  by_cases hlt : k < L
  ·have hc : wr.cell? ⟨w.heap.size, k, none⟩ = some (if k < k then Value.int .u8 ((n / 128 ^ k % 128 + 128 : Nat) : Int) else .int .u8 0) := by
    rw [HB.out.cell, arr_get n L k k hlt]
   have hf := HB.out.free k
   go_wp2_with fail
   go_roundw
   case rel =>
    refine ⟨k + 1, by omega, by go_num, ?_, ?_, ?_⟩
    ·rw [bits_or128, ← arr_put]; exact HB.out.put k _
    ·rw [size_set]; exact HS.out
    ·exact hbel.setCell (Nat.le_refl _) _
   case measure => simp [intOf]; omega
  ·obtain rfl : k = L := by omega
   have hc : wr.cell? ⟨w.heap.size, k - 1, none⟩ = some (Value.int .u8 ((n / 128 ^ (k - 1) % 128 + 128 : Nat) : Int)) := by
    rw [HB.out.cell, arr_get n k k (k - 1) (by omega), if_pos (by omega)]
   have hf := HB.out.free (k - 1)
   go_wp2_with fail
   have e : bits .and .u8 ((n : Int) / 128 ^ (k - 1) % 128 + 128) 127 = ((n / 128 ^ (k - 1) % 128 : Nat) : Int) := by
    rw [← bits_and127]; simp
   rw [e]
   go_ret
   refine ⟨by rw [HL.out]; rfl, ?_, ?_, ?_⟩
   ·rw [← arr_end n k HL.out hp]; exact HB.out.put (k - 1) _
   ·rw [size_set]; exact HS.out
   ·exact hbel.setCell (Nat.le_refl _) _

theorem yDigs.made {n : Nat} {w : World} {e : Ending} {w' : World} (h : yDigs n w e w') : ∃ v, e = .returned v ∧ Made w (digs n) v w' := by
 obtain ⟨he, hh, _, hb⟩ := h
 refine ⟨_, he, _, _, rfl, Nat.le_refl _, Rd.of_has hh fun i hi => ?_, hb⟩
 simp [hi]

def yOut (w : World) (l : List Nat) (e : Ending) (w' : World) : Prop := ∃ v, e = .returned v ∧ Made w l v w'

set_option maxHeartbeats 400000 in
theorem ybehind_any (A : Option Addr) (l : List Nat) (c : Nat) (A' : Option Addr) (m : List Nat) (d : Nat) (w : World) (hn : l.length ≤ c) (hA : Rd w A l) (hA' : Rd w A' m) (hm : 0 < m.length) (hb : l.length + m.length ≤ 1000000) :
 Calls Tryz.prog 67 #[.slice A l.length c, .slice A' m.length d] w (yOut w (l ++ m)) := by
 obtain ⟨i0, hi, hz0, hz1, hz2⟩ := info_parts info5
 have hr := run_app_grow (P := Tryz.prog) w (t := 70) (tx := 70) 70 Tryz.underlying70 hi hz0 hz1 hz2 A l l.length hA _ m (src_rd w Tryz.underlying70 A' m d hA') (by omega) hb
 have HR := Lib.hid hr
 clear hr
 go_enter Tryz.func67, Tryz.ntmps67
 go_wp2_with (at_builtin; refine wpList_app rfl _ _ 70 70 rfl (.slice A l.length l.length) (.slice A' m.length d) rfl rfl ?_; obtain ⟨R, W', hrun, hmade⟩ := HR.out; refine ⟨R, W', hrun, ?_⟩; have HM := Lib.hid hmade; clear hrun hmade)
 go_ret
 exact ⟨R, rfl, HM.out⟩

theorem Made.yafter {w w1 w2 : World} {l : List Nat} {v : Value} (hb : Below w.heap.size w w1) (h : Made w1 l v w2) : Made w l v w2 := by
 obtain ⟨A, c, e, hc, hr, hb2⟩ := h
 exact ⟨A, c, e, hc, hr, hb.trans (hb2.mono hb.size)⟩
theorem yDigs.out {n : Nat} {w : World} {e : Ending} {w' : World} (h : yDigs n w e w') : ∃ A c, e = .returned (.slice A (digs n).length c) ∧ Rd w' A (digs n) ∧ Below w.heap.size w w' := by
 obtain ⟨v, he, A, c, rfl, _, hr, hb⟩ := h.made
 exact ⟨A, c, he, hr, hb⟩
theorem ybyteCells_sb (s : ByteArray) : byteCells s = (sb s).map bv := by
 simp [byteCells, sb, bv, List.map_map, Function.comp]
theorem ysrc_string (w : World) (s : ByteArray) : Src Tryz.prog 1 9 (.string s) (sb s).length ((sb s).map bv) w := by
 rw [← ybyteCells_sb, sb_length]
 exact Src.ofString w Tryz.underlying9 s
theorem ytext_run (w : World) (b off : Nat) (l : List Nat) (s : ByteArray) (hl : Rd w (some ⟨b, off, none⟩) l) (hb : l.length + s.size ≤ 1000000) :
 ∃ R W', (Builtin.append_ #[70, 9] 70 #[.slice (some ⟨b, off, none⟩) l.length l.length, .string s]).run Tryz.prog w = .ok R W' ∧ Made w (l ++ sb s) R W' := by
 obtain ⟨i0, hi, hz0, hz1, hz2⟩ := info_parts info5
 have hs := ysrc_string w s
 rcases Nat.eq_zero_or_pos s.size with h0 | h0
 ·have e : sb s = [] := List.eq_nil_of_length_eq_zero (by rw [sb_length, h0])
  rw [e] at hs ⊢
  refine ⟨_, _, run_app_none w 70 Tryz.underlying70 hi hz1 b off l.length l.length (.string s) hs (Nat.le_refl _), ?_⟩
  rw [List.append_nil]
  exact ⟨_, _, rfl, Nat.le_refl _, hl, Below.refl _ _⟩
 ·exact run_app_grow w 70 Tryz.underlying70 hi hz0 hz1 hz2 _ l l.length hl (.string s) (sb s) hs (by rw [sb_length]; omega) (by rw [sb_length]; omega)
set_option maxHeartbeats 400000 in
theorem yText_any (A : Option Addr) (l : List Nat) (c : Nat) (s : ByteArray) (w : World) (hn : l.length ≤ c) (hA : Rd w A l) (hb : l.length ≤ 900000) (h0 : s.size ≤ 1000) :
 Calls Tryz.prog 43 #[.slice A l.length c, .string s] w (yOut w (l ++ (digs s.size ++ sb s))) := by
 have hbig : s.size < ybig := by unfold ybig; omega
 have ht := digs_le_ten s.size hbig
 have hp := digs_pos s.size
 go_enter Tryz.func43, Tryz.ntmps43
 go_wp2_with fail
 refine (ydigits_any s.size _ hbig).mono ?_
 intro e w1 hd
 obtain ⟨rfl, hh, _, hb1⟩ := hd
 have hr : Rd w1 (some ⟨w.heap.size, 0, none⟩) (digs s.size) := Rd.of_has hh fun i hi => by simp [hi]
 have HR := Lib.hid (ytext_run w1 w.heap.size 0 (digs s.size) s hr (by omega))
 clear hh hr
 go_wp2_with (at_builtin; refine wpList_app rfl _ _ 70 9 rfl (.slice (some ⟨w.heap.size, 0, none⟩) (digs s.size).length (digs s.size).length) (.string s) rfl rfl ?_; obtain ⟨R, W', hrun, hmade⟩ := HR.out; refine ⟨R, W', hrun, ?_⟩; have HM := Lib.hid hmade; clear hrun hmade)
 obtain ⟨A', d, rfl, hd, hr2, hb2⟩ := HM.out
 have HR2 := Lib.hid hr2
 clear hr2
 go_wp2_with fail
 refine (ybehind_any A l c A' (digs s.size ++ sb s) d _ hn ((hA.below hb1).below (hb2.mono (Nat.le_refl _))) HR2.out (by rw [List.length_append]; omega) (by rw [List.length_append, sb_length]; omega)).mono ?_
 intro e w2 ho
 have HO := Lib.hid ho
 clear ho
 obtain ⟨v, rfl, hv⟩ := HO.out
 have HV := Lib.hid hv
 clear hv
 go_wp2_with fail
 go_ret
 exact ⟨v, rfl, HV.out.yafter (hb1.trans (hb2.mono hb1.size))⟩


theorem and127_any (x : Nat) (h : x < 256) : bits .and .u8 (x : Int) 127 = ((x % 128 : Nat) : Int) := by
 have hh := u8_and_nat x 127 h (by omega)
 have o := and127 ⟨x, h⟩
 simp only at o
 rw [o] at hh
 exact hh
theorem pow_split : ∀ k, k ≤ 9 → (18446744073709551616 : Nat) = 128 ^ k * (18446744073709551616 / 128 ^ k) := by
 intro i hi
 have : i = 0 ∨ i = 1 ∨ i = 2 ∨ i = 3 ∨ i = 4 ∨ i = 5 ∨ i = 6 ∨ i = 7 ∨ i = 8 ∨ i = 9 := by omega
 rcases this with rfl | rfl | rfl | rfl | rfl | rfl | rfl | rfl | rfl | rfl <;> decide
theorem bits_join (k N d : Nat) (hk : k ≤ 9) (hN : N < 128 ^ k) :
 bits .or .u64 (N : Int) (IntKind.u64.wrap ((d : Int) * 2 ^ (7 * k))) = ((join k N d : Nat) : Int) := by
 have e : IntKind.u64.wrap ((d : Int) * 2 ^ (7 * k)) = ((d * 128 ^ k % 18446744073709551616 : Nat) : Int) := by
  rw [IntKind.wrap_u64, ← pow7, Int.natCast_emod, Int.natCast_mul, Int.natCast_pow]; rfl
 have hp := pow_le_nine k hk
 have hs : d * 128 ^ k % 18446744073709551616 = 2 ^ (7 * k) * (d % (18446744073709551616 / 128 ^ k)) := by
  rw [pow7]
  conv => lhs; rw [pow_split k hk]
  rw [Nat.mul_comm d, Nat.mul_mod_mul_left]
 rw [e, u64_or_nat _ _ (by omega) (Nat.mod_lt _ (by omega))]
 have ho := Nat.two_pow_add_eq_or_of_lt (i := 7 * k) (b := N) (by rw [pow7]; exact hN) (d % (18446744073709551616 / 128 ^ k))
 unfold join
 rw [hs, Nat.or_comm, ← ho, Nat.add_comm]

def HeadOut (R : Nat × Nat × Nat) (w : World) (e : Ending) (w' : World) : Prop :=
 e = .returned (.tuple #[.int .u64 (R.1 : Int), .int .i64 (R.2.1 : Int), .int .i64 (R.2.2 : Int)]) ∧ w = w'

set_option maxHeartbeats 1000000 in
theorem yhead_some (b off : Nat) (l : List Nat) (c most : Nat) (w : World) (hn : l.length ≤ 1000000) (hl : ∀ x ∈ l, x < 256) (hc : ∀ i (h : i < l.length), w.cell? ⟨b, off + i, none⟩ = some (bv l[i])) :
 Calls Tryz.prog 105 #[.slice (some ⟨b, off, none⟩) l.length c, .int .u64 most] w (HeadOut (yheadF most 10 0 0 l) w) := by
 have HC := Lib.hid hc
 clear hc
 generalize hR : yheadF most 10 0 0 l = R
 have HR0 := Lib.hid hR
 clear hR
 go_enter Tryz.func105, Tryz.ntmps105
 go_wp2_with fail
 go_loop [7, 10] (fun n i => ∃ k N : Nat, k ≤ 10 ∧ i = .int .i64 k ∧ n = .int .u64 N ∧ Hid (k ≤ 9 → N < 128 ^ k) ∧ k ≤ l.length ∧ Hid (yheadF most (10 - k) k N (l.drop k) = R)) (fun _ i => 10 - (intOf i).toNat)
 case atStart => exact ⟨0, 0, by omega, rfl, rfl, fun _ => by simp, by omega, HR0.out⟩
 case round =>
  clear HR0
  obtain ⟨k, N, hk, rfl, rfl, hN, hkl, HR⟩ := hrel
  by_cases h10 : k < 10
  ·obtain ⟨f, hf⟩ : ∃ f, f + 1 = 10 - k := ⟨9 - k, by omega⟩
   have HF := Lib.hid hf
   clear hf
   by_cases hlen : k < l.length
   ·have hcell := HC.out k hlen
    have hb := hl l[k] (List.getElem_mem hlen)
    have HD := Lib.hid (List.drop_eq_getElem_cons hlen)
    generalize l[k] = x at *
    unfold bv at hcell
    have hj := bits_join k N (x % 128) (by omega) (hN.out (by omega))
    have hq := int_div_pow (join k N (x % 128)) k
    have HJ9 : Hid (k + 1 ≤ 9 → join k N (x % 128) < 128 ^ (k + 1)) := fun h => join_lt (by omega) (hN.out (by omega)) (by omega)
    have HR1 : Hid (yheadF most (f + 1) k N (x :: l.drop (k + 1)) = R) := by show _ = _; rw [HF.out, ← HD.out]; exact HR.out
    obtain ⟨d, hd⟩ : ∃ d, d = x % 128 := ⟨_, rfl⟩
    have ha := and127_any x hb
    rw [← hd] at hj hq ha
    have HX := Lib.hid hd
    clear hd
    obtain ⟨M, hM⟩ : ∃ M, M = join k N d := ⟨_, rfl⟩
    rw [← hM] at hj hq
    have HM := Lib.hid hM
    clear hM
    obtain ⟨q, hq'⟩ : ∃ q, q = M / 128 ^ k := ⟨_, rfl⟩
    rw [← hq'] at hq
    have HQ := Lib.hid hq'
    clear hq' HR HD
    have hdb : d < 128 := by rw [HX.out]; omega
    have hMb : M < 18446744073709551616 := by rw [HM.out]; exact join_big k (by omega) (hN.out (by omega))
    by_cases h128 : x < 128
    ·have g : decide (128 ≤ (x : Int)) = false := by simp; omega
     have bad : ((0 < k ∧ d = 0) ∨ q ≠ d ∨ most < M) → R = (0, 0, 2) := fun hh => head_form HR1.out h128 (by rw [← HX.out, ← HM.out, ← HQ.out]; exact hh)
     have good : ¬ ((0 < k ∧ d = 0) ∨ q ≠ d ∨ most < M) → R = (M, k + 1, 0) := fun hh => by
      have := head_good HR1.out h128 (by rw [← HX.out, ← HM.out, ← HQ.out]; exact hh)
      rw [← HX.out, ← HM.out] at this
      exact this
     have BAD := Lib.hid bad
     have GOOD := Lib.hid good
     clear bad good
     by_cases c1 : 0 < k <;> by_cases c2 : d = 0
     all_goals
      have C2 := Lib.hid c2
      first | (have td : ((d : Int) == 0) = true := by simp; omega) | (have td : ((d : Int) == 0) = false := by simp; omega)
      clear c2
      by_cases c3 : q = d
      all_goals
       have C3 := Lib.hid c3
       first | (have tq : ((q : Int) != (d : Int)) = true := by simp; omega) | (have tq : ((q : Int) != (d : Int)) = false := by simp; omega)
       clear c3
       by_cases c4 : most < M
       all_goals
        go_wp2_with fail
        go_ret3
        first
         | (have e := BAD.out (by have := C2.out; have := C3.out; omega); exact ⟨by rw [e]; rfl, rfl⟩)
         | (have e := GOOD.out (by have := C2.out; have := C3.out; omega); exact ⟨by rw [e]; simp, rfl⟩)
    ·have g : decide (128 ≤ (x : Int)) = true := by simp; omega
     go_wp2_with fail
     go_round
     case rel => exact ⟨k + 1, M, by omega, by go_num, rfl, (by rw [HM.out, HX.out]; exact HJ9), by omega, by show _ = _; rw [show 10 - (k + 1) = f by have := HF.out; omega, HM.out, HX.out]; exact head_more HR1.out (by omega)⟩
     case measure => simp [intOf]; omega
   ·obtain rfl : k = l.length := by omega
    have e : R = (0, 0, 4) := head_end (most := most) (f := f) (i := l.length) (n := N) (by rw [HF.out, ← HR.out, List.drop_length])
    have H := Lib.hid e
    clear e
    go_wp2_with fail
    go_ret3
    exact ⟨by rw [H.out]; rfl, rfl⟩
  ·obtain rfl : k = 10 := by omega
   have e : R = (0, 0, 2) := head_over HR.out
   have H := Lib.hid e
   clear e
   go_wp2_with fail
   go_ret3
   exact ⟨by rw [H.out]; rfl, rfl⟩

set_option maxHeartbeats 400000 in
theorem head_none (A : Option Addr) (c most : Nat) (w : World) :
 Calls Tryz.prog 105 #[.slice A 0 c, .int .u64 most] w (HeadOut (0, 0, 4) w) := by
 go_enter Tryz.func105, Tryz.ntmps105
 go_wp2_with fail
 go_loop [7, 10] (fun n i => i = .int .i64 0 ∧ n = .int .u64 0) (fun _ _ => 0)
 case atStart => exact ⟨rfl, rfl⟩
 case round =>
  obtain ⟨rfl, rfl⟩ := hrel
  go_wp2_with fail
  go_ret3
  exact ⟨rfl, rfl⟩
theorem yhead_any (A : Option Addr) (l : List Nat) (c most : Nat) (w : World) (hn : l.length ≤ 1000000) (hl : ∀ x ∈ l, x < 256) (h : Rd w A l) :
 Calls Tryz.prog 105 #[.slice A l.length c, .int .u64 most] w (HeadOut (yheadF most 10 0 0 l) w) := by
 rcases l with _ | ⟨x, l⟩
 ·exact head_none A c most w
 ·obtain ⟨b, off, rfl, hc⟩ := h (by simp)
  exact yhead_some b off _ c most w hn hl hc
def Rdr (w : World) (g : Nat) (l : List Nat) (e : Nat) : Prop :=
 ∃ A c, Has w g 129 #[.slice A l.length c, .int .i64 (e : Int)] ∧ l.length ≤ c ∧ Rd w A l
theorem rdr_cells (A : Option Addr) (n c : Nat) (e : Int) : ∀ (i x : Nat), (#[Value.slice A n c, .int .i64 e] : Array Value)[i]? ≠ some (bv x) := by
 intro i x h
 rcases i with _ | _ | i
 ·simp [bv] at h
 ·simp [bv] at h
 ·simp at h
theorem Rd.turn {w w' : World} {A : Option Addr} {l : List Nat} {g : Nat} {t : TypeId} {cs : Array Value} (h : Rd w A l) (hg : w.grownBy w' (some g)) (hh : Has w g t cs) (hcs : ∀ (i x : Nat), cs[i]? ≠ some (bv x)) : Rd w' A l := fun hl => by
 obtain ⟨b, off, e, hc⟩ := h hl
 refine ⟨b, off, e, fun i hi => ?_⟩
 refine hg.cell (hc i hi) fun hb => ?_
 injection hb with hb
 have hx := hc i hi
 rw [show b = g from hb, hh.cell] at hx
 exact hcs _ _ hx
theorem grown_set (w : World) (g i : Nat) (u : Value) : w.grownBy (w.setCell ⟨g, i, none⟩ u) (some g) :=
 ⟨rfl, rfl, rfl, by rw [size_set]; exact Nat.le_refl _, fun k _ hne => Below.heap_setCell w _ u k (fun e => hne (by rw [e]))⟩
theorem grown_trans {a b c : World} {g : Nat} (h : a.grownBy b (some g)) (k : b.grownBy c (some g)) : a.grownBy c (some g) :=
 ⟨k.os.trans h.os, k.tape.trans h.tape, k.output.trans h.output, Nat.le_trans h.size k.size, fun i hi hne => (k.block i (Nat.lt_of_lt_of_le hi h.size) hne).trans (h.block i hi hne)⟩
theorem grown_refl (a : World) (g : Nat) : a.grownBy a (some g) := ⟨rfl, rfl, rfl, Nat.le_refl _, fun _ _ _ => rfl⟩

section
variable (g : Nat) (l : List Nat) (e : Nat) (w : World)
set_option maxHeartbeats 400000 in
theorem pass_err (k : Int) (r : Int) (h : Rdr w g l e) (he : e ≠ 0) :
 Calls Tryz.prog 106 #[.pointer (some ⟨g, 0, none⟩), .int .i64 k, .int .i64 r] w fun x w' => x = .returned (.bool false) ∧ w = w' := by
 obtain ⟨A, c, hh, hn, hr⟩ := h
 have c1 : w.cell? ⟨g, 1, none⟩ = some (.int .i64 e) := hh.cell 1
 have g1 : ((e : Int) == 0) = false := by simp; omega
 have g2 : ((e : Int) != 0) = true := by simp; omega
 have HE := Lib.hid he
 clear hh hr he
 go_enter Tryz.func106, Tryz.ntmps106
 go_wp2_with fail
 go_ret
 exact ⟨rfl, rfl⟩
set_option maxHeartbeats 400000 in
theorem Errno_get (h : Rdr w g l e) :
 Calls Tryz.prog 50 #[.pointer (some ⟨g, 0, none⟩)] w fun x w' => x = .returned (.int .i64 (e : Int)) ∧ w = w' := by
 obtain ⟨A, c, hh, hn, hr⟩ := h
 have c1 : w.cell? ⟨g, 1, none⟩ = some (.int .i64 e) := hh.cell 1
 clear hh hr
 go_enter Tryz.func50, Tryz.ntmps50
 go_wp2_with fail
 go_ret
 exact ⟨rfl, rfl⟩
def endF (l : List Nat) (e : Nat) : Nat := if e = 0 ∧ 0 < l.length then 2 else e
set_option maxHeartbeats 400000 in
theorem End_get (h : Rdr w g l e) (hb : l.length ≤ 1000000) :
 Calls Tryz.prog 80 #[.pointer (some ⟨g, 0, none⟩)] w fun x w' => x = .returned (.int .i64 (endF l e : Int)) ∧ w = w' := by
 obtain ⟨A, c, hh, hn, hr⟩ := h
 have c0 : w.cell? ⟨g, 0, none⟩ = some (.slice A l.length c) := hh.cell 0
 have c1 : w.cell? ⟨g, 1, none⟩ = some (.int .i64 e) := hh.cell 1
 clear hh hr
 obtain ⟨E, hE⟩ : ∃ E, E = endF l e := ⟨_, rfl⟩
 rw [← hE]
 have HE := Lib.hid hE
 clear hE
 by_cases he : e = 0
 ·have h0 : ((e : Int) == 0) = true := by simp; omega
  by_cases hp : 0 < l.length
  ·have H : Hid (E = 2) := by show _ = _; rw [HE.out]; unfold endF; rw [if_pos ⟨he, hp⟩]
   clear he
   go_enter Tryz.func80, Tryz.ntmps80
   go_wp2_with fail
   go_ret
   exact ⟨by rw [H.out]; rfl, rfl⟩
  ·have H : Hid (E = e) := by show _ = _; rw [HE.out]; unfold endF; rw [if_neg (by omega)]
   clear he
   go_enter Tryz.func80, Tryz.ntmps80
   go_wp2_with fail
   go_ret
   exact ⟨by rw [H.out]; rfl, rfl⟩
 ·have h0 : ((e : Int) == 0) = false := by simp; omega
  have H : Hid (E = e) := by show _ = _; rw [HE.out]; unfold endF; rw [if_neg (by omega)]
  clear he
  go_enter Tryz.func80, Tryz.ntmps80
  go_wp2_with fail
  go_ret
  exact ⟨by rw [H.out]; rfl, rfl⟩
def byteF (l : List Nat) (e : Nat) : Nat × List Nat × Nat := if e ≠ 0 then (0, l, e) else match l with | [] => (0, [], 4) | x :: t => (x, t, 0)
theorem byteF_err {e : Nat} (l : List Nat) (h : e ≠ 0) : byteF l e = (0, l, e) := by unfold byteF; rw [if_pos h]
end
end Go.Proofs.YtlnbhlgkehenpaaGreatDoor
namespace Go.Proofs.YtlnbhlgkehenpaaGreatDoor
open Go.RowKit Dg
set_option maxRecDepth 100000
theorem yrd_none {w : World} {l : List Nat} (h : Rd w none l) : l = [] := by
 rcases l with _ | ⟨x, l⟩
 ·rfl
 ·obtain ⟨b, off, e, _⟩ := h (by simp)
  cases e
theorem yrd_owned {w : World} {base c : Nat} {l : List Nat} {A : Option Addr} (h : w.ownsRow base 5 1 (.slice A l.length c) l.length (l.map bv)) : l.length ≤ c ∧ Rd w A l := by
 rcases h.2 with ⟨e, hn⟩ | ⟨g, cap, cur, e, _, hh, hc, _, _, ht⟩
 ·injection e with e1 e2 e3
  refine ⟨by omega, ?_⟩
  rw [List.eq_nil_of_length_eq_zero hn]
  exact Rd.nil _ _
 ·injection e with e1 e2 e3
  subst e1; subst e3
  refine ⟨hc, Rd.of_has (t := 5) (cs := cur) hh fun i hi => ?_⟩
  have h1 : (l.map bv)[i]? = some (bv l[i]) := by simp [hi]
  rw [← ht, List.getElem?_take, if_pos (by omega)] at h1
  simpa using h1
theorem clone_any (A : Option Addr) (l : List Nat) (c : Nat) (w : World) (h : Rd w A l) (hb : l.length ≤ 1000000) :
 Calls Tryz.prog 73 #[.slice A l.length c] w (yOut w l) := by
 rcases A with _ | a
 ·obtain rfl := yrd_none h
  exact (Any.bytes_Clone_nil Tryz.laysSlK4 0 c w).mono fun e w' ⟨he, hw⟩ => ⟨_, he, none, 0, rfl, Nat.le_refl _, Rd.nil _ _, by rw [hw]; exact Below.refl _ _⟩
 ·refine (Tryz.bytes_Clone_at a l.length c (l.map Int.ofNat) w (by simp) (by omega) ?_).mono ?_
  ·intro i hi
   obtain ⟨b, off, e, hc⟩ := h (by rintro rfl; simp at hi)
   injection e with e
   subst e
   rw [Addr.add_lit, hc i hi]
   simp [bv, hi]
  ·rintro e w' ⟨v', rfl, hown, hne, hb'⟩
   have hm : (l.map Int.ofNat).map (Value.int .u8) = l.map bv := by rw [List.map_map]; rfl
   rw [hm] at hown
   rcases hown.2 with ⟨e, hn⟩ | ⟨g, cap, cur, e, _, _⟩
   ·exact absurd e hne
   ·subst e
    obtain ⟨h1, h2⟩ := yrd_owned hown
    exact ⟨_, rfl, _, _, rfl, h1, h2, hb'⟩

set_option maxHeartbeats 400000 in
theorem Read_any (A : Option Addr) (l : List Nat) (c : Nat) (w : World) (h : Rd w A l) (hb : l.length ≤ 1000000) :
 Calls Tryz.prog 44 #[.slice A l.length c] w fun e w' => ∃ g, e = .returned (.pointer (some ⟨g, 0, none⟩)) ∧ w.heap.size ≤ g ∧ Rdr w' g l 0 ∧ Below w.heap.size w w' := by
 have HC := Lib.hid (clone_any A l c w h hb)
 go_enter Tryz.func44, Tryz.ntmps44
 go_wp2_with fail
 refine HC.out.mono ?_
 rintro e w1 ⟨v, rfl, A', c', rfl, hc', hr, hbl⟩
 have HR := Lib.hid hr
 have HB := Lib.hid hbl
 clear hr hbl
 go_wp2_with fail
 go_ret
 exact ⟨_, rfl, HB.out.size, ⟨A', c', Has.new w1 129 _, hc', HR.out.below ((Below.refl _ _).alloc (Nat.le_refl _) _)⟩, HB.out.alloc HB.out.size _⟩

def textF (most : Int) (l : List Nat) (e : Nat) : List Nat × List Nat × Nat :=
 if e ≠ 0 then ([], l, e) else
 let R := yheadF 9223372036854775807 10 0 0 l
 if R.2.2 ≠ 0 then ([], l, R.2.2) else if most < R.1 then ([], l, 2) else if (l.length : Int) - R.2.1 < R.1 then ([], l, 4) else ((l.drop R.2.1).take R.1, l.drop (R.2.1 + R.1), 0)
theorem Rd.cut {w : World} {A : Option Addr} {l : List Nat} (h : Rd w A l) (k m : Nat) : Rd w (A.map (fun x => x.add k)) ((l.drop k).take m) := fun hl => by
 have hne : l ≠ [] := by rintro rfl; simp at hl
 obtain ⟨b, off, rfl, hc⟩ := h hne
 rw [Option.map_some, Addr.add_lit]
 exact ((Rd.drop h k).take m) hl
section
variable (g : Nat) (l : List Nat) (e : Nat) (w : World)
end
end Go.Proofs.YtlnbhlgkehenpaaGreatDoor
namespace Go.Proofs.YtlnbhlgkehenpaaGreatDoor
open Go.RowKit Dg
set_option maxRecDepth 100000
theorem Rdr.far {w w' : World} {g g' : Nat} {l l' : List Nat} {e e' : Nat} (h : Rdr w g l e) (hg : w.grownBy w' (some g')) (hh : Rdr w g' l' e') (hne : g ≠ g') : Rdr w' g l e := by
 obtain ⟨A, c, h1, h2, h3⟩ := h
 obtain ⟨A', c', h1', _, _⟩ := hh
 exact ⟨A, c, (hg.block g h1.lt (fun e => hne (by injection e))).trans h1, h2, h3.turn hg h1' (rdr_cells _ _ _ _)⟩
theorem Rdr.lt {w : World} {g : Nat} {l : List Nat} {e : Nat} (h : Rdr w g l e) : g < w.heap.size := by
 obtain ⟨A, c, h1, _, _⟩ := h
 exact h1.lt
theorem Rdr.below {w w' : World} {g : Nat} {l : List Nat} {e : Nat} (h : Rdr w g l e) (hb : Below w.heap.size w w') : Rdr w' g l e := by
 obtain ⟨A, c, h1, h2, h3⟩ := h
 exact ⟨A, c, h1.below hb h1.lt, h2, h3.below hb⟩
theorem Below.turn {w w1 w2 : World} {g : Nat} (h : Below w.heap.size w w1) (hg : w1.grownBy w2 (some g)) (hl : w.heap.size ≤ g) : Below w.heap.size w w2 :=
 h.grown hg h.size (fun k hk => by injection hk with hk; omega)

theorem Rdr.drew {w : World} {g : Nat} {l : List Nat} {e : Nat} (h : Rdr w g l e) : Rdr w.drew g l e := h
theorem head_whole (most n : Nat) (rest : List Nat) (hn : n < 18446744073709551616) (hm : n ≤ most) : yheadF most 10 0 0 (digs n ++ rest) = (n, (digs n).length, 0) := by
 have h := head_digs most rest n 10 0 0 (by omega) (fun h => absurd h (by omega)) (by omega) (digs_le_ten n hn)
 rw [h, if_neg (by simp; omega)]
 simp
theorem numF_whole (most n : Nat) (rest : List Nat) (hn : n < 18446744073709551616) (hm : n ≤ most) : numF most (digs n ++ rest) 0 = (n, rest, 0) := by
 unfold numF
 rw [head_whole most n rest hn hm]
 simp
def ytxt (s : ByteArray) : List Nat := digs s.size ++ sb s
theorem ytxt_pos (s : ByteArray) : 0 < (ytxt s).length := by
 unfold ytxt; rw [List.length_append]; have := digs_pos s.size; omega
theorem ytxt_byte (s : ByteArray) : ∀ x ∈ ytxt s, x < 256 := by
 intro x hx
 rcases List.mem_append.1 hx with h | h
 ·exact digs_byte _ x h
 ·exact sb_byte s x h
theorem yOut.open_ {w w' : World} {l : List Nat} {e : Ending} (h : yOut w l e w') : ∃ A n c, e = .returned (.slice A n c) ∧ Hid (l.length = n) ∧ n ≤ c ∧ Hid (Rd w' A l) ∧ Hid (Below w.heap.size w w') := by
 obtain ⟨v, he, A, c, rfl, hc, hr, hb⟩ := h
 exact ⟨A, l.length, c, he, rfl, hc, hr, hb⟩
theorem Read_len (A : Option Addr) (l : List Nat) (n c : Nat) (w : World) (hn : l.length = n) (h : Rd w A l) (hb : n ≤ 1000000) :
 Calls Tryz.prog 44 #[.slice A n c] w fun e w' => ∃ g, e = .returned (.pointer (some ⟨g, 0, none⟩)) ∧ w.heap.size ≤ g ∧ Hid (Rdr w' g l 0) ∧ Hid (Below w.heap.size w w') := by
 rw [← hn] at hb ⊢
 exact Read_any A l c w h hb
theorem OutO.out {w w' : World} {l : List Nat} {e : Ending} (h : OutO w l e w') : yOut w l e w' := by
 obtain ⟨v, he, ho, hb⟩ := h
 rcases ho.2 with ⟨hv, hn⟩ | ⟨g, cap, cur, hv, _⟩
 ·obtain rfl := List.eq_nil_of_length_eq_zero hn
  exact ⟨v, he, none, 0, hv, Nat.le_refl _, Rd.nil _ _, hb⟩
 ·subst hv
  obtain ⟨h1, h2⟩ := yrd_owned ho
  exact ⟨_, he, _, _, rfl, h1, h2, hb⟩
def RdrD (D : Nat) (w : World) (g : Nat) (l : List Nat) (e : Nat) : Prop :=
 ∃ A c, Has w g 129 #[.slice A l.length c, .int .i64 (e : Int)] ∧ l.length ≤ c ∧ Rd w A l ∧ (l ≠ [] → ∀ a, A = some a → a.block < D)
theorem RdrD.rdr {D : Nat} {w : World} {g : Nat} {l : List Nat} {e : Nat} (h : RdrD D w g l e) : Rdr w g l e := by
 obtain ⟨A, c, h1, h2, h3, _⟩ := h
 exact ⟨A, c, h1, h2, h3⟩
theorem Rdr.dd {w : World} {g : Nat} {l : List Nat} {e : Nat} (h : Rdr w g l e) : RdrD w.heap.size w g l e := by
 obtain ⟨A, c, h1, h2, h3⟩ := h
 refine ⟨A, c, h1, h2, h3, fun hne a ha => ?_⟩
 obtain ⟨b, off, e, hc⟩ := h3 hne
 rw [e] at ha
 injection ha with ha
 subst ha
 exact World.block_lt_of_cell? w _ (hc 0 (List.length_pos_iff.2 hne))
theorem RdrD.keep {D : Nat} {w w' : World} {g : Nat} {l : List Nat} {e : Nat} (h : RdrD D w g l e) (hg : g < D) (hb : Below D w w') : RdrD D w' g l e := by
 obtain ⟨A, c, h1, h2, h3, h4⟩ := h
 refine ⟨A, c, (hb.block g hg).trans h1, h2, fun hne => ?_, h4⟩
 obtain ⟨b, off, e, hc⟩ := h3 hne
 have hlt : b < D := h4 hne _ e
 refine ⟨b, off, e, fun i hi => ?_⟩
 rw [← hc i hi]
 exact World.cell?_of_block (w := w) (hb.block b hlt)
def StepD (D : Nat) (w : World) (g : Nat) (v : Value) (l : List Nat) (e : Nat) (x : Ending) (w' : World) : Prop :=
 x = .returned v ∧ RdrD D w' g l e ∧ w.grownBy w' (some g)
section
variable {D : Nat} (g : Nat) (l : List Nat) (e : Nat) (w : World)
set_option maxHeartbeats 400000 in
theorem passD_bad (k : Int) (r : Nat) (h : RdrD D w g l 0) (he : r ≠ 0) :
 Calls Tryz.prog 106 #[.pointer (some ⟨g, 0, none⟩), .int .i64 k, .int .i64 r] w (StepD D w g (.bool false) l r) := by
 obtain ⟨A, c, hh, hn, hr, hdd⟩ := h
 have HDD := Lib.hid hdd
 clear hdd
 have c1 : w.cell? ⟨g, 1, none⟩ = some (.int .i64 0) := hh.cell 1
 have f1 := hh.free 1
 have g2 : ((r : Int) != 0) = true := by simp; omega
 have HE := Lib.hid he
 have HH := Lib.hid hh
 have HR := Lib.hid hr
 clear hh hr he
 go_enter Tryz.func106, Tryz.ntmps106
 go_wp2_with fail
 go_ret
 exact ⟨rfl, ⟨A, c, HH.out.put 1 _, hn, HR.out.turn (grown_set w g 1 _) HH.out (rdr_cells _ _ _ _), HDD.out⟩, grown_set w g 1 _⟩
set_option maxHeartbeats 400000 in
theorem passD_good (k : Nat) (h : RdrD D w g l 0) (hk : k ≤ l.length) (hb : l.length ≤ 1000000) :
 Calls Tryz.prog 106 #[.pointer (some ⟨g, 0, none⟩), .int .i64 k, .int .i64 0] w (StepD D w g (.bool true) (l.drop k) 0) := by
 obtain ⟨A, c, hh, hn, hr, hdd⟩ := h
 have HDD := Lib.hid hdd
 clear hdd
 have c0 : w.cell? ⟨g, 0, none⟩ = some (.slice A l.length c) := hh.cell 0
 have c1 : w.cell? ⟨g, 1, none⟩ = some (.int .i64 0) := hh.cell 1
 have f0 := hh.free 0
 have f1 := hh.free 1
 have HH := Lib.hid hh
 have HR := Lib.hid hr
 clear hh hr
 go_enter Tryz.func106, Tryz.ntmps106
 go_wp2_with fail
 all_goals
  go_ret
  have h1 : Has (w.setCell ⟨g, 1, none⟩ (.int .i64 0)) g 129 #[.slice A l.length c, .int .i64 0] := HH.out.put 1 (.int .i64 0)
  have r1 := HR.out.turn (grown_set w g 1 (.int .i64 0)) HH.out (rdr_cells _ _ _ _)
  refine ⟨rfl, ⟨_, _, (by rw [List.length_drop]; exact h1.put 0 _), (by rw [List.length_drop]; omega), ?_, fun hne a ha => by
   have hl0 : l ≠ [] := by rintro rfl; simp at hne
   have h0 := HDD.out hl0
   obtain ⟨b, off, rfl, _⟩ := r1 hl0
   have h2 := h0 _ rfl
   first | (exfalso; omega) | (rw [Option.map_some, Addr.add_lit] at ha; injection ha with ha; subst ha; exact h2) | (simp at ha; subst ha; exact h2)⟩, grown_trans (grown_set w g 1 (.int .i64 0)) (grown_set (w.setCell ⟨g, 1, none⟩ (.int .i64 0)) g 0 _)⟩
  refine Rd.turn ?_ (grown_set (w.setCell ⟨g, 1, none⟩ (.int .i64 0)) g 0 _) h1 (rdr_cells _ _ _ _)
  intro hl
  have hne : l ≠ [] := by rintro rfl; simp at hl
  have hlt : k < l.length := by
   rcases Nat.lt_or_ge k l.length with h | h
   ·exact h
   ·exact absurd (List.drop_eq_nil_of_le h) hl
  obtain ⟨b, off, rfl, hc⟩ := r1 hne
  first
   | (exfalso; omega)
   | (have r2 := Rd.drop r1 k hl
      rw [Option.map_some, Addr.add_lit]
      exact r2)
set_option maxHeartbeats 400000 in
theorem numberD_any (most : Nat) (h : RdrD D w g l e) (hl : ∀ x ∈ l, x < 256) (hb : l.length ≤ 1000000) :
 Calls Tryz.prog 74 #[.pointer (some ⟨g, 0, none⟩), .int .u64 most] w (StepD D w g (.int .u64 ((numF most l e).1 : Int)) (numF most l e).2.1 (numF most l e).2.2) := by
 have H := Lib.hid h
 obtain ⟨A, c, hh, hn, hr, hdd⟩ := h
 have HDD := Lib.hid hdd
 clear hdd
 have c0 : w.cell? ⟨g, 0, none⟩ = some (.slice A l.length c) := hh.cell 0
 have HR := Lib.hid hr
 have HH := yhead_any A l c most w hb hl hr
 have hle := head_len most 10 0 0 l
 obtain ⟨R, hR⟩ : ∃ R, R = yheadF most 10 0 0 l := ⟨_, rfl⟩
 have hnum : numF most l e = if e ≠ 0 then (0, l, e) else if R.2.2 ≠ 0 then (0, l, R.2.2) else (R.1, l.drop R.2.1, 0) := by rw [hR]; rfl
 rw [hnum]
 rw [← hR] at HH hle
 obtain ⟨r1, r2, r3⟩ := R
 simp only at hle hnum ⊢
 have HE := Lib.hid hnum
 have HHH := Lib.hid HH
 have HL := Lib.hid hle
 clear hh hr hR hnum HH hle hn
 by_cases he : e = 0
 ·subst he
  by_cases h3 : r3 = 0
  ·subst h3
   rw [if_neg (by simp), if_neg (by simp)]
   have hk : r2 ≤ l.length := by have := HL.out; omega
   go_enter Tryz.func74, Tryz.ntmps74
   go_wp2_with fail
   refine HHH.out.mono ?_
   rintro x w1 ⟨rfl, rfl⟩
   go_wp2_with fail
   refine (passD_good g l w r2 H.out hk hb).mono ?_
   rintro x w1 ⟨rfl, hd, hg⟩
   have HD := Lib.hid hd
   have HG := Lib.hid hg
   clear hd hg
   go_wp2_with fail
   go_ret
   exact ⟨rfl, HD.out, HG.out⟩
  ·have HN := Lib.hid h3
   rw [if_neg (by simp), if_pos h3]
   clear h3
   go_enter Tryz.func74, Tryz.ntmps74
   go_wp2_with fail
   refine HHH.out.mono ?_
   rintro x w1 ⟨rfl, rfl⟩
   go_wp2_with fail
   refine (passD_bad g l w _ r3 H.out HN.out).mono ?_
   rintro x w1 ⟨rfl, hd, hg⟩
   have HD := Lib.hid hd
   have HG := Lib.hid hg
   clear hd hg
   go_wp2_with fail
   go_ret
   exact ⟨rfl, HD.out, HG.out⟩
 ·have HN := Lib.hid he
  rw [if_pos he]
  clear he
  go_enter Tryz.func74, Tryz.ntmps74
  go_wp2_with fail
  refine HHH.out.mono ?_
  rintro x w1 ⟨rfl, rfl⟩
  go_wp2_with fail
  refine (pass_err g l e w _ _ H.out.rdr HN.out).mono ?_
  rintro x w1 ⟨rfl, rfl⟩
  go_wp2_with fail
  go_ret
  exact ⟨rfl, H.out, grown_refl _ _⟩
set_option maxHeartbeats 400000 in
theorem ByteD_end (h : RdrD D w g [] 0) :
 Calls Tryz.prog 107 #[.pointer (some ⟨g, 0, none⟩)] w (StepD D w g (.int .i64 0) [] 4) := by
 have H := Lib.hid h
 obtain ⟨A, c, hh, hn, hr, hdd⟩ := h
 have HDD := Lib.hid hdd
 clear hdd
 have c0 : w.cell? ⟨g, 0, none⟩ = some (.slice A 0 c) := hh.cell 0
 clear hh hr hn
 go_enter Tryz.func107, Tryz.ntmps107
 go_wp2_with fail
 refine (passD_bad g [] w _ 4 H.out (by omega)).mono ?_
 rintro x w1 ⟨rfl, hd, hg⟩
 have HD := Lib.hid hd
 have HG := Lib.hid hg
 clear hd hg
 go_wp2_with fail
 go_ret
 exact ⟨rfl, HD.out, HG.out⟩
set_option maxHeartbeats 400000 in
theorem ByteD_go (y : Nat) (t : List Nat) (h : RdrD D w g (y :: t) 0) (hy : y < 256) (hb : (y :: t).length ≤ 1000000) :
 Calls Tryz.prog 107 #[.pointer (some ⟨g, 0, none⟩)] w (StepD D w g (.int .i64 y) t 0) := by
 have H := Lib.hid h
 obtain ⟨A, c, hh, hn, hr, hdd⟩ := h
 have HDD := Lib.hid hdd
 clear hdd
 have c0 : w.cell? ⟨g, 0, none⟩ = some (.slice A (y :: t).length c) := hh.cell 0
 have HR := Lib.hid hr
 have HH := Lib.hid hh
 obtain ⟨b, off, rfl, hx⟩ := hr (by simp)
 clear hx hr
 have hp : (((y :: t).length : Int) == 0) = false := by simp; omega
 have hp2 : 0 < (y :: t).length := by simp
 clear hh hn
 generalize hL : (y :: t).length = L at *
 have HL := Lib.hid hL
 clear hL
 go_enter Tryz.func107, Tryz.ntmps107
 go_wp2_with fail
 refine (passD_good g (y :: t) w 1 H.out (by simp) (by rw [HL.out]; exact hb)).mono ?_
 rintro x w1 ⟨rfl, hd, hg⟩
 have cy : w1.cell? ⟨b, off, none⟩ = some (.int .u8 y) := by
  obtain ⟨b', off', e', hc⟩ := (HR.out.turn hg HH.out (rdr_cells _ _ _ _)) (by simp)
  injection e' with e'
  injection e' with e1 e2
  subst e1; subst e2
  exact hc 0 (by simp)
 have HD := Lib.hid hd
 have HG := Lib.hid hg
 clear hd hg
 go_wp2_with fail
 go_ret
 exact ⟨rfl, HD.out, HG.out⟩
set_option maxHeartbeats 400000 in
theorem ByteD_err (h : RdrD D w g l e) (he : e ≠ 0) :
 Calls Tryz.prog 107 #[.pointer (some ⟨g, 0, none⟩)] w (StepD D w g (.int .i64 0) l e) := by
 have H := Lib.hid h
 obtain ⟨A, c, hh, hn, hr, hdd⟩ := h
 have HDD := Lib.hid hdd
 clear hdd
 have c0 : w.cell? ⟨g, 0, none⟩ = some (.slice A l.length c) := hh.cell 0
 have HN := Lib.hid he
 clear hh hr hn he
 by_cases hp : l.length = 0
 all_goals
  have HP := Lib.hid hp
  first | (have hq : ((l.length : Int) == 0) = true := beq_iff_eq.2 (by omega)) | (have hq : ((l.length : Int) == 0) = false := beq_eq_false_iff_ne.2 (by omega))
  clear hp
  go_enter Tryz.func107, Tryz.ntmps107
  go_wp2_with fail
  refine (pass_err g l e w _ _ H.out.rdr HN.out).mono ?_
  rintro x w1 ⟨rfl, rfl⟩
  go_wp2_with fail
  go_ret
  exact ⟨rfl, H.out, grown_refl _ _⟩
theorem ByteD_get (h : RdrD D w g l e) (hl : ∀ x ∈ l, x < 256) (hb : l.length ≤ 1000000) :
 Calls Tryz.prog 107 #[.pointer (some ⟨g, 0, none⟩)] w (StepD D w g (.int .i64 (byteF l e).1) (byteF l e).2.1 (byteF l e).2.2) := by
 by_cases he : e = 0
 ·subst he
  rcases l with _ | ⟨y, t⟩
  ·exact ByteD_end g w h
  ·exact ByteD_go g w y t h (hl y (by simp)) hb
 ·rw [byteF_err l he]
  exact ByteD_err g l e w h he
set_option maxHeartbeats 800000 in
theorem TextD_get (most : Int) (h : RdrD D w g l e) (hl : ∀ x ∈ l, x < 256) (hb : l.length ≤ 1000000) :
 Calls Tryz.prog 77 #[.pointer (some ⟨g, 0, none⟩), .int .i64 most] w (StepD D w g (.string (bs (textF most l e).1)) (textF most l e).2.1 (textF most l e).2.2) := by
 have H := Lib.hid h
 obtain ⟨A, c, hh, hn, hr, hdd⟩ := h
 have HDD := Lib.hid hdd
 clear hdd
 have c0 : w.cell? ⟨g, 0, none⟩ = some (.slice A l.length c) := hh.cell 0
 have HR := Lib.hid hr
 have HAS := Lib.hid hh
 have HH := yhead_any A l c 9223372036854775807 w hb hl hr
 have hle := head_len 9223372036854775807 10 0 0 l
 have hbg := head_big 9223372036854775807 10 0 0 l
 obtain ⟨R, hR⟩ : ∃ R, R = yheadF 9223372036854775807 10 0 0 l := ⟨_, rfl⟩
 have hnum : textF most l e = if e ≠ 0 then ([], l, e) else if R.2.2 ≠ 0 then ([], l, R.2.2) else if most < R.1 then ([], l, 2) else if (l.length : Int) - R.2.1 < R.1 then ([], l, 4) else ((l.drop R.2.1).take R.1, l.drop (R.2.1 + R.1), 0) := by rw [hR]; rfl
 rw [hnum]
 rw [← hR] at HH hle hbg
 obtain ⟨r1, r2, r3⟩ := R
 simp only at hle hnum hbg ⊢
 have HHH := Lib.hid HH
 have hk : r2 ≤ l.length := by omega
 clear hh hr hR hnum HH hle
 by_cases he : e = 0
 ·subst he
  rw [if_neg (by simp)]
  by_cases h3 : r3 = 0
  ·subst h3
   rw [if_neg (by simp)]
   by_cases hm : most < r1
   ·rw [if_pos hm]
    go_enter Tryz.func77, Tryz.ntmps77
    go_wp2_with fail
    refine HHH.out.mono ?_
    rintro x w1 ⟨rfl, rfl⟩
    go_wp2_with fail
    refine (passD_bad g l w _ 2 H.out (by omega)).mono ?_
    rintro x w1 ⟨rfl, hd, hg⟩
    have HD := Lib.hid hd
    have HG := Lib.hid hg
    clear hd hg
    go_wp2_with fail
    go_ret
    exact ⟨rfl, HD.out, HG.out⟩
   ·rw [if_neg hm]
    by_cases hs : (l.length : Int) - r2 < r1
    ·rw [if_pos hs]
     go_enter Tryz.func77, Tryz.ntmps77
     go_wp2_with fail
     refine HHH.out.mono ?_
     rintro x w1 ⟨rfl, rfl⟩
     go_wp2_with fail
     refine (passD_bad g l w _ 4 H.out (by omega)).mono ?_
     rintro x w1 ⟨rfl, hd, hg⟩
     have HD := Lib.hid hd
     have HG := Lib.hid hg
     clear hd hg
     go_wp2_with fail
     go_ret
     exact ⟨rfl, HD.out, HG.out⟩
    ·rw [if_neg hs]
     go_enter Tryz.func77, Tryz.ntmps77
     go_wp2_with fail
     refine HHH.out.mono ?_
     rintro x w1 ⟨rfl, rfl⟩
     go_wp2_with fail
     refine (passD_good g l w (r2 + r1) H.out (by omega) hb).mono ?_
     rintro x w1 ⟨rfl, hd, hg⟩
     have HD := Lib.hid hd
     have HG := Lib.hid hg
     have HT := Lib.hid (HR.out.turn hg HAS.out (rdr_cells _ _ _ _))
     clear hd hg
     go_wp2_with fail
     ·rw [conv_len w1 _ ((l.drop r2).take r1) r1 _ (by rw [List.length_take, List.length_drop]; omega) (by rw [List.drop_eq_nil_of_le (by omega), List.take_nil]; exact Rd.nil _ _)]
      go_wp2_with fail
      go_ret
      exact ⟨rfl, HD.out, HG.out⟩
     ·rw [conv_len w1 _ ((l.drop r2).take r1) r1 _ (by rw [List.length_take, List.length_drop]; omega) (HT.out.cut r2 r1)]
      go_wp2_with fail
      go_ret
      exact ⟨rfl, HD.out, HG.out⟩
  ·have HN := Lib.hid h3
   rw [if_pos h3]
   have q3 : ((r3 : Int) != 0) = true := by rw [bne_iff_ne]; omega
   clear h3
   go_enter Tryz.func77, Tryz.ntmps77
   go_wp2_with fail
   refine HHH.out.mono ?_
   rintro x w1 ⟨rfl, rfl⟩
   go_wp2_with fail
   refine (passD_bad g l w _ r3 H.out HN.out).mono ?_
   rintro x w1 ⟨rfl, hd, hg⟩
   have HD := Lib.hid hd
   have HG := Lib.hid hg
   clear hd hg
   go_wp2_with fail
   go_ret
   exact ⟨rfl, HD.out, HG.out⟩
 ·have HN := Lib.hid he
  rw [if_pos he]
  clear he
  by_cases hm : most < r1 <;> by_cases hs : (l.length : Int) - r2 < r1 <;> by_cases h3 : r3 = 0
  all_goals
   have H3 := Lib.hid h3
   first | (have q3 : ((r3 : Int) != 0) = true := by rw [bne_iff_ne]; omega) | (have q3 : ((r3 : Int) != 0) = false := by rw [bne_eq_false_iff_eq]; omega)
   clear h3
   go_enter Tryz.func77, Tryz.ntmps77
   go_wp2_with fail
   refine HHH.out.mono ?_
   rintro x w1 ⟨rfl, rfl⟩
   go_wp2_with fail
   all_goals
    refine (pass_err g l e w _ _ H.out.rdr HN.out).mono ?_
    rintro x w1 ⟨rfl, rfl⟩
    go_wp2_with fail
    go_ret
    exact ⟨rfl, H.out, grown_refl _ _⟩
end
end Go.Proofs.YtlnbhlgkehenpaaGreatDoor
namespace Go.Proofs.YtlnbhlgkehenpaaGreatDoor
open Go.RowKit Dg
set_option maxRecDepth 100000
set_option maxHeartbeats 400000 in
theorem yNumber_any (A : Option Addr) (l : List Nat) (c : Nat) (n : Nat) (w : World) (hn : l.length ≤ c) (hA : Rd w A l) (hb : l.length ≤ 900000) (hn63 : (n : Int) ≤ 9223372036854775807) :
 Calls Tryz.prog 41 #[.slice A l.length c, .int .i64 n] w (yOut w (l ++ digs n)) := by
 have hbig : n < ybig := by unfold ybig; omega
 have ht := digs_le_ten n hbig
 have hp := digs_pos n
 go_enter Tryz.func41, Tryz.ntmps41
 go_wp2_with fail
 refine (ydigits_any n _ hbig).mono ?_
 intro e w1 hd
 obtain ⟨A', d, rfl, hr, hb1⟩ := hd.out
 have HR := Lib.hid hr
 clear hr hd
 go_wp2_with fail
 refine (ybehind_any A l c A' (digs n) d _ hn (hA.below hb1) HR.out hp (by omega)).mono ?_
 intro e w2 ho
 have HO := Lib.hid ho
 clear ho
 obtain ⟨v, rfl, hv⟩ := HO.out
 have HV := Lib.hid hv
 clear hv
 go_wp2_with fail
 go_ret
 exact ⟨v, rfl, HV.out.yafter hb1⟩
theorem own_down {B B' : Nat} {w : World} {v : Value} {l : List Nat} (h : Own B w v l) (hb : B' ≤ B) : Own B' w v l := by
 obtain ⟨h1, h2⟩ := h
 refine ⟨h1, ?_⟩
 rcases h2 with h2 | ⟨g, cap, cur, e, hg, r⟩
 ·exact .inl h2
 ·exact .inr ⟨g, cap, cur, e, Nat.le_trans hb hg, r⟩
end Go.Proofs.YtlnbhlgkehenpaaGreatDoor
