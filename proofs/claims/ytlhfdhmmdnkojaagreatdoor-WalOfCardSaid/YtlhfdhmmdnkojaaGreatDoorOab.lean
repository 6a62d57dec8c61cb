/-
  Put together, as far as it is used: Kit, WtL, WvL, WvM, Str, Wk, Ls, Val, KeyB, KeyC, KeyD, OwnV, Dec, DecW, Head, Vals, Kv, Name, WKey, WAdd, WGo.
-/
import Derived.Test.YtlhfdhmmdnkojaaGreatDoorOaa
import Derived.WalkKit
import Derived.WalkSpells
import Derived.WalkLawsBesides
import Derived.Lib.Hide
import Derived.Deep.AppendSrc
import Derived.RangeFuncNested
import Derived.RangeFuncBound
import Derived.RangeFuncCalls
import Derived.RangeFuncLeaves
import Derived.Test.YtlhfdhmmdnkojaaGreatDoorProg
import Derived.OwnWalkIn
import Derived.TacticsInMore
import Derived.LoopNIn
import Derived.LoopIn
import Derived.Shelf.RegionOpen
import Derived.Deep.RegionHeld3
import Derived.OwnWalk
import Derived.Laws.AppendOwnNone
import Derived.Laws.OwnMore
import Derived.Test.YtlhfdhmmdnkojaaGreatDoorShelf
import Derived.Laws.StructEq
import Derived.Lib.ValidLaws
import Derived.RegionTactic
import Derived.Laws.ResultCell
import Derived.Laws.RangeAny
import Derived.Lib.AppendZerosOnto
namespace Go.Proofs.YtlhfdhmmdnkojaaGreatDoor
open Go.RowKit Dg

/-! ### numbers -/
theorem or128 : ∀ x : Fin 256, x.val ||| 128 = x.val % 128 + 128 := by decide +kernel
theorem and127 : ∀ x : Fin 256, x.val &&& 127 = x.val % 128 := by decide +kernel
theorem pow7 (k : Nat) : 2 ^ (7 * k) = 128 ^ k := by rw [Nat.pow_mul]
theorem int_div_pow (n k : Nat) : (n : Int) / 2 ^ (7 * k) = ((n / 128 ^ k : Nat) : Int) := by
  rw [← pow7, Int.natCast_ediv, Int.natCast_pow]; rfl
theorem bits_or128 (n k : Nat) : bits .or .u8 ((n : Int) / 2 ^ (7 * k) % 256) 128 = ((n / 128 ^ k % 128 + 128 : Nat) : Int) := by
  rw [int_div_pow]
  have e : ((n / 128 ^ k : Nat) : Int) % 256 = ((n / 128 ^ k % 256 : Nat) : Int) := by omega
  rw [e]
  have h := u8_or_nat (n / 128 ^ k % 256) 128 (by omega) (by omega)
  have o := or128 ⟨n / 128 ^ k % 256, by omega⟩
  simp only at o
  rw [o] at h
  refine h.trans ?_
  omega
theorem bits_and127 (m : Nat) : bits .and .u8 ((m % 128 + 128 : Nat) : Int) 127 = ((m % 128 : Nat) : Int) := by
  have h := u8_and_nat (m % 128 + 128) 127 (by omega) (by omega)
  have o := and127 ⟨m % 128 + 128, by omega⟩
  simp only at o
  rw [o] at h
  refine h.trans ?_
  omega

/-! ### a block that is known whole -/
def Has (w : World) (g : Nat) (t : TypeId) (cs : Array Value) : Prop := w.heap[g]? = some (.cells cs t (0, 0))
section
variable {w w' : World} {g : Nat} {t : TypeId} {cs : Array Value}
theorem Has.lt (h : Has w g t cs) : g < w.heap.size := by
  unfold Has at h
  exact (Array.getElem?_eq_some_iff.1 h).1
theorem Has.cell (h : Has w g t cs) (i : Nat) : w.cell? ⟨g, i, none⟩ = cs[i]? := cell_of_row w g i cs t (0, 0) h
theorem Has.free (h : Has w g t cs) (i : Nat) : w.frozen? ⟨g, i, none⟩ = false := by
  unfold Has at h
  simp [World.frozen?, h]
theorem Has.new (w : World) (t : TypeId) (cs : Array Value) : Has (w.alloc (.cells cs t)) w.heap.size t cs := heap_alloc_new w _
theorem Has.drew (h : Has w g t cs) : Has w.drew g t cs := h
theorem Has.alloc (h : Has w g t cs) (o : Obj) : Has (w.alloc o) g t cs := (Below.heap_alloc w o g h.lt).trans h
theorem Has.put (h : Has w g t cs) (i : Nat) (u : Value) : Has (w.setCell ⟨g, i, none⟩ u) g t (cs.setIfInBounds i u) := by
  unfold Has at h ⊢
  simp [World.setCell, Array.getElem?_modify, h]
theorem Has.far (h : Has w g t cs) {p : Addr} (hp : g ≠ p.block) (u : Value) : Has (w.setCell p u) g t cs := (Below.heap_setCell w p u g hp).trans h
theorem Has.below {B : Nat} (h : Has w g t cs) (hb : Below B w w') (hg : g < B) : Has w' g t cs := (hb.block g hg).trans h
theorem size_set (w : World) (p : Addr) (u : Value) : (w.setCell p u).heap.size = w.heap.size := by simp [World.setCell]
end

/-- A byte as a value. -/
def bv (x : Nat) : Value := .int .u8 (x : Int)

/-! ### the digits as they are written -/
def arr (n L k : Nat) : Array Value := ((List.range L).map (fun j => if j < k then Value.int .u8 ((n / 128 ^ j % 128 + 128 : Nat) : Int) else .int .u8 0)).toArray
theorem arr_get (n L k j : Nat) (h : j < L) : (arr n L k)[j]? = some (if j < k then Value.int .u8 ((n / 128 ^ j % 128 + 128 : Nat) : Int) else .int .u8 0) := by
  simp [arr, h]
theorem arr_size (n L k : Nat) : (arr n L k).size = L := by simp [arr]
theorem arr_put (n L k : Nat) : (arr n L k).setIfInBounds k (.int .u8 ((n / 128 ^ k % 128 + 128 : Nat) : Int)) = arr n L (k + 1) := by
  apply Array.ext_getElem?
  intro j
  rw [Array.getElem?_setIfInBounds, arr_size]
  by_cases hj : j < L
  · rw [arr_get n L k j hj, arr_get n L (k + 1) j hj]
    by_cases e : k = j
    · subst e; rw [if_pos rfl, if_pos hj, if_pos (by omega)]
    · rw [if_neg e]
      by_cases hjk : j < k
      · rw [if_pos hjk, if_pos (by omega)]
      · rw [if_neg hjk, if_neg (by omega)]
  · have e1 : (arr n L k)[j]? = none := by rw [Array.getElem?_eq_none]; rw [arr_size]; omega
    have e2 : (arr n L (k + 1))[j]? = none := by rw [Array.getElem?_eq_none]; rw [arr_size]; omega
    rw [e1, e2]
    split
    · rw [if_neg (by omega)]
    · rfl
theorem arr_zero (n L : Nat) : madeCells (Value.int .u8 0).cells (L * 1) = arr n L 0 := by
  apply Array.ext_getElem?
  intro j
  by_cases hj : j < L
  · rw [arr_get n L 0 j hj]
    have e0 : j % 1 = 0 := by omega
    simp [madeCells, Value.cells, hj, e0]
  · have e2 : (arr n L 0)[j]? = none := by rw [Array.getElem?_eq_none]; rw [arr_size]; omega
    rw [e2, Array.getElem?_eq_none]
    rw [size_madeCells]; omega
theorem arr_end (n L : Nat) (hL : (digs n).length = L) (hp : 0 < L) :
    (arr n L L).setIfInBounds (L - 1) (.int .u8 ((n / 128 ^ (L - 1) % 128 : Nat) : Int)) = ((digs n).map bv).toArray := by
  have hr := digs_range n
  rw [hL] at hr
  apply Array.ext_getElem?
  intro j
  have ht : ∀ (l : List Value) (i : Nat), l.toArray[i]? = l[i]? := fun l i => by simp
  rw [Array.getElem?_setIfInBounds, arr_size, ht ((digs n).map bv), hr]
  by_cases hj : j < L
  · rw [arr_get n L L j hj]
    simp only [List.map_map, List.getElem?_map, List.getElem?_range hj, Option.map_some, Function.comp, bv, digAt]
    by_cases e : L - 1 = j
    · subst e; rw [if_pos rfl, if_pos hj, if_pos (by omega)]
    · rw [if_neg e, if_pos hj, if_neg (by omega)]
  · have e1 : (arr n L L)[j]? = none := by rw [Array.getElem?_eq_none]; rw [arr_size]; omega
    rw [e1, if_neg (by omega)]
    symm
    rw [List.getElem?_eq_none]
    simp; omega

/-! ### a slice that reads as bytes -/
/-- The cells at A read as the bytes l (nothing is asked where there are none). -/
def Rd (w : World) (A : Option Addr) (l : List Nat) : Prop :=
  l ≠ [] → ∃ b off, A = some ⟨b, off, none⟩ ∧ ∀ i (h : i < l.length), w.cell? ⟨b, off + i, none⟩ = some (bv l[i])
theorem Rd.nil (w : World) (A : Option Addr) : Rd w A [] := fun h => absurd rfl h
theorem Rd.keep {w w' : World} {A : Option Addr} {l : List Nat} (h : Rd w A l) (hk : ∀ (p : Addr) (x : Nat), w.cell? p = some (bv x) → w'.cell? p = w.cell? p) : Rd w' A l := fun hl => by
  obtain ⟨b, off, e, hc⟩ := h hl
  exact ⟨b, off, e, fun i hi => (hk _ _ (hc i hi)).trans (hc i hi)⟩
theorem Rd.below {w w' : World} {A : Option Addr} {l : List Nat} (h : Rd w A l) (hb : Below w.heap.size w w') : Rd w' A l :=
  h.keep fun p _ hp => hb.cell (World.block_lt_of_cell? w p hp)
theorem Rd.of_has {w : World} {g : Nat} {t : TypeId} {cs : Array Value} {l : List Nat} (h : Has w g t cs) (hc : ∀ i (hi : i < l.length), cs[i]? = some (bv l[i])) : Rd w (some ⟨g, 0, none⟩) l := fun _ =>
  ⟨g, 0, rfl, fun i hi => by rw [Nat.zero_add, h.cell]; exact hc i hi⟩
theorem Rd.drop {w : World} {b off : Nat} {l : List Nat} (h : Rd w (some ⟨b, off, none⟩) l) (k : Nat) : Rd w (some ⟨b, off + k, none⟩) (l.drop k) := fun hl => by
  have hk : l ≠ [] := by rintro rfl; simp at hl
  obtain ⟨b', off', e, hc⟩ := h hk
  injection e with e
  injection e with e1 e2
  subst e1; subst e2
  refine ⟨b, off + k, rfl, fun i hi => ?_⟩
  rw [List.length_drop] at hi
  rw [Nat.add_assoc, hc (k + i) (by omega), List.getElem_drop]
theorem Rd.take {w : World} {A : Option Addr} {l : List Nat} (h : Rd w A l) (k : Nat) : Rd w A (l.take k) := fun hl => by
  have hk : l ≠ [] := by rintro rfl; simp at hl
  obtain ⟨b, off, e, hc⟩ := h hk
  refine ⟨b, off, e, fun i hi => ?_⟩
  rw [List.length_take] at hi
  rw [hc i (by omega), List.getElem_take]

section
variable {P : Program}
theorem firstCells_rd (w : World) (A : Option Addr) (l : List Nat) (c : Nat) (h : Rd w A l) :
    (Builtin.firstCells 1 l.length (.slice A l.length c)).run P w = .ok (l.map bv).toArray w := by
  rcases A with _ | a
  · have hl : l = [] := by
      rcases l with _ | ⟨x, l⟩
      · rfl
      · obtain ⟨b, off, e, _⟩ := h (by simp)
        cases e
    subst hl
    exact run_firstCells_none w 1 0 0 c
  · refine run_firstCells_some w 1 l.length a l.length c (l.map bv) (by simp) fun j v hj => ?_
    have hjl : j < l.length := by
      have := (List.getElem?_eq_some_iff.1 hj).1
      simpa using this
    obtain ⟨b, off, e, hc⟩ := h (by rintro rfl; simp at hjl)
    injection e with e
    subst e
    rw [Addr.add_lit, hc j hjl]
    simpa [hjl] using hj
theorem bv_one : ∀ (l : List Nat), ∀ u ∈ l.map bv, u.oneCell' = true := fun l u hu => by
  obtain ⟨x, _, rfl⟩ := List.mem_map.1 hu
  rfl
theorem src_rd (w : World) {tx e' : TypeId} (hk : P.underlying tx = some (.slice e')) (A : Option Addr) (l : List Nat) (c : Nat) (h : Rd w A l) :
    Src P 1 tx (.slice A l.length c) l.length (l.map bv) w :=
  ⟨.inl ⟨e', hk⟩, fun _ => rfl, firstCells_rd w A l c h, firstCells_rd w.drew A l c h, by simp, bv_one l⟩

/-- An append whose run is known, as a step of the walk. -/
theorem wpList_app {ops : Array Oper} {rest : List Oper} {o : Oper} {a : Act} {w : World} {Q : Exit → Act → World → Prop} (hgd : o.guard = none) (s x : Operand) (t tx : TypeId)
    (ho : o.op = .call { callee := .builtin .append, args := #[s, x], argTypes := #[t, tx] }) (v xv : Value) (hs : a.eval s = v) (hx : a.eval x = xv)
    (hrun : ∃ R W', (Builtin.append_ #[t, tx] o.type #[v, xv]).run P w = .ok R W' ∧ wpList P ops Q rest (a.put o.dst R) W') : wpList P ops Q (o :: rest) a w := by
  obtain ⟨R, W', hrun, h⟩ := hrun
  refine wpList_plain hgd fun K hK => ?_
  unfold Oper.wp execOp
  simp only [ho, resolve, invoke, builtin, Sem.run_bind, Sem.run_pure, Result.andThen_ok, List.map_toArray, List.map_cons, List.map_nil, hs, hx, hrun]
  exact hK _ _ h

/-- What is made: a slice with the bytes l, and nothing that was there has turned. -/
def Made (w : World) (l : List Nat) (v : Value) (w' : World) : Prop := ∃ A c, v = .slice A l.length c ∧ l.length ≤ c ∧ Rd w' A l ∧ Below w.heap.size w w'

/-- An append that has no room: all is copied to a new block. -/
theorem run_app_grow (w : World) {t tx e : TypeId} (ty : TypeId) {i : TypeInfo} (ht : P.underlying t = some (.slice e)) (hi : P.info? e = some i) (hz : i.zero = some (.int .u8 0)) (h1 : i.size = 1) (h2 : i.bytes = 1)
    (A : Option Addr) (l : List Nat) (c : Nat) (hl : Rd w A l) (x : Value) (m : List Nat) (hs : Src P 1 tx x m.length (m.map bv) w) (hg : c < l.length + m.length) (hb : l.length + m.length ≤ 1000000) :
    ∃ R W', (Builtin.append_ #[t, tx] ty #[.slice A l.length c, x]).run P w = .ok R W' ∧ Made w (l ++ m) R W' := by
  have hr := run_append_grow_src (P := P) w t tx ty e i (.int .u8 0) ht hi hz A l.length c (l.map bv) (by rw [h1]; exact firstCells_rd w.drew A l c hl) x m.length (m.map bv) (by rw [h1]; exact hs) hg (by omega) (growslice_fits hg (by rw [h2]; omega))
  refine ⟨_, _, hr, ?_⟩
  have hge := grownCap_ge w (l.length + m.length) c e
  refine ⟨_, _, by rw [List.length_append], by rw [List.length_append]; exact hge, ?_, ((Below.refl _ w).drew).alloc (Nat.le_refl _) _⟩
  refine Rd.of_has (Has.new w.drew e _) fun j hj => ?_
  have hj' : j < (l.map bv ++ m.map bv).length := by simpa using hj
  rw [Array.getElem?_append_left (by simpa using hj)]
  have ht : ∀ (l : List Value) (i : Nat), l.toArray[i]? = l[i]? := fun l i => by simp
  rw [ht, ← List.map_append, List.getElem?_map, List.getElem?_eq_getElem hj]
  rfl
/-- An append of nothing. -/
theorem run_app_none (w : World) {t tx e : TypeId} (ty : TypeId) {i : TypeInfo} (ht : P.underlying t = some (.slice e)) (hi : P.info? e = some i) (h1 : i.size = 1)
    (b off n c : Nat) (x : Value) (hs : Src P 1 tx x 0 [] w) (hc : n ≤ c) :
    (Builtin.append_ #[t, tx] ty #[.slice (some ⟨b, off, none⟩) n c, x]).run P w = .ok (.slice (some ⟨b, off, none⟩) n c) w := by
  have hr := run_append_room_src (P := P) w t tx ty e i ht hi b off n c x 0 [] (by rw [h1]; exact hs) (by omega) (by simp) (by simp)
  simpa [World.setCells] using hr
end

end Go.Proofs.YtlhfdhmmdnkojaaGreatDoor
namespace Go.Proofs.YtlhfdhmmdnkojaaGreatDoor
open Go.RowKit
/-- Whatever was there and is none of X lies as it lay. -/
structure Tur (X : List Nat) (w w' : World) : Prop where
  os : w'.os = w.os
  tape : w'.tape = w.tape
  output : w'.output = w.output
  size : w.heap.size ≤ w'.heap.size
  block : ∀ k, k < w.heap.size → k ∉ X → w'.heap[k]? = w.heap[k]?
/-- What is there now was there, or is new. -/
def Fre (X X' : List Nat) (w : World) : Prop := ∀ b ∈ X', b ∈ X ∨ w.heap.size ≤ b
theorem Tur.refl (X : List Nat) (w : World) : Tur X w w := ⟨rfl, rfl, rfl, Nat.le_refl _, fun _ _ _ => rfl⟩
theorem Fre.refl (X : List Nat) (w : World) : Fre X X w := fun _ h => .inl h
theorem Tur.trans {X X' : List Nat} {a b c : World} (h : Tur X a b) (k : Tur X' b c) (hf : Fre X X' a) : Tur X a c :=
  ⟨k.os.trans h.os, k.tape.trans h.tape, k.output.trans h.output, Nat.le_trans h.size k.size, fun i hi hx => (k.block i (Nat.lt_of_lt_of_le hi h.size) fun hx' => (hf i hx').elim hx (fun hh => by omega)).trans (h.block i hi hx)⟩
theorem Fre.trans {X X' X2 : List Nat} {a b : World} (h : Fre X X' a) (k : Fre X' X2 b) (hs : a.heap.size ≤ b.heap.size) : Fre X X2 a := fun i hi => (k i hi).elim (h i) fun hh => .inr (by omega)
theorem Tur.of_below {X : List Nat} {w w' : World} (h : Below w.heap.size w w') : Tur X w w' := ⟨h.os, h.tape, h.output, h.size, fun k hk _ => h.block k hk⟩
theorem Tur.below {X : List Nat} {w w' : World} {B : Nat} (h : Tur X w w') (hx : ∀ b ∈ X, B ≤ b) (hB : B ≤ w.heap.size) : Below B w w' :=
  ⟨h.os, h.tape, h.output, h.size, fun k hk => h.block k (by omega) fun hh => by have := hx k hh; omega⟩
theorem Tur.setCell {X : List Nat} (w : World) {p : Addr} (hp : p.block ∈ X) (u : Value) : Tur X w (w.setCell p u) :=
  ⟨rfl, rfl, rfl, by simp [World.setCell], fun k _ hx => Below.heap_setCell _ _ _ _ (fun e => hx (e ▸ hp))⟩
theorem Tur.alloc (X : List Nat) (w : World) (o : Obj) : Tur X w (w.alloc o) := Tur.of_below ((Below.refl _ w).alloc (Nat.le_refl _) o)
theorem Tur.drew (X : List Nat) (w : World) : Tur X w w.drew := ⟨rfl, rfl, rfl, Nat.le_refl _, fun _ _ _ => rfl⟩
theorem Tur.grown {X : List Nat} {w w' : World} {row : Option Nat} (hg : w.grownBy w' row) (hr : ∀ k, row = some k → k ∈ X) : Tur X w w' :=
  ⟨hg.os, hg.tape, hg.output, hg.size, fun k hk hx => hg.block k hk fun e => hx (hr k e.symm)⟩
theorem Tur.sub {X Y : List Nat} {w w' : World} (h : Tur X w w') (hs : ∀ b ∈ X, b ∈ Y) : Tur Y w w' := ⟨h.os, h.tape, h.output, h.size, fun k hk hy => h.block k hk fun hx => hy (hs k hx)⟩
theorem Tur.putObj {X : List Nat} (w : World) {l : Nat} (hl : l ∈ X) (o : Obj) : Tur X w (w.putObj l o) :=
  ⟨rfl, rfl, rfl, by simp, fun k _ hx => World.putObj_heap_other (fun e => hx (e ▸ hl))⟩
theorem Has.tur {X : List Nat} {w w' : World} {g : Nat} {t : TypeId} {cs : Array Value} (h : Has w g t cs) (ht : Tur X w w') (hg : g ∉ X) : Has w' g t cs := (ht.block g h.lt hg).trans h
/-- It stands where blocks from B on, none of its own, turn. -/
def Stays {α : Type} (B : Nat) (J : List α → List Nat → World → Prop) : Prop :=
  ∀ pre X W W' Z, J pre X W → Tur Z W W' → (∀ b ∈ Z, B ≤ b ∧ b ∉ X) → J pre X W'
theorem Stays.mono {α : Type} {B C : Nat} {J : List α → List Nat → World → Prop} (h : Stays B J) (hBC : B ≤ C) : Stays C J :=
  fun pre X W W' Z hj ht hz => h pre X W W' Z hj ht fun b hb => ⟨Nat.le_trans hBC (hz b hb).1, (hz b hb).2⟩
/-- What a round of loop l is worth to the iterator. -/
def Round {α : Type} (F : Fence) (P : Program) (l : Nat) (encs : α → Array Value) (xs : List α) (J Jx : List α → List Nat → World → Prop) : Prop :=
  ∀ m pre x X W1, J pre X W1 → pre ++ [x] <+: xs → YieldAt F m P l (encs x) W1 fun e W' =>
    ∃ X', ((e = .returned (.bool true) ∧ J (pre ++ [x]) X' W') ∨ (e = .returned (.bool false) ∧ Jx (pre ++ [x]) X' W')) ∧ Tur X W1 W' ∧ Fre X X' W1
/-- The iterator tells xs, if nothing of K turns. -/
def Tells {α : Type} (F : Fence) (P : Program) (g : Nat) (lb : Array Value) (encs : α → Array Value) (K : Nat → Prop) (xs : List α) (w : World) : Prop :=
  ∀ (n l : Nat) (J Jx : List α → List Nat → World → Prop) (W : World) (X : List Nat), w.heap.size ≤ W.heap.size → (∀ b, K b → W.heap[b]? = w.heap[b]?) → (∀ b ∈ X, ¬ K b) →
    Stays W.heap.size J → Stays W.heap.size Jx → (∀ pre X W, J pre X W → ∀ b ∈ X, b < W.heap.size) → Round F P l encs xs J Jx → J [] X W →
    CallsIn F n P g (#[.func (.yield l) #[] #[]] ++ lb) W fun e W' => (∃ v, e = .returned v) ∧ ∃ X', J xs X' W' ∨ ∃ pre, Jx pre X' W'
/-- How a round's body may be left. -/
def Left {α : Type} (I : List α → List Nat → World → Prop) (Ix : Code → List α → List Nat → World → Prop) (xs : List α) (X : List Nat) (W : World) : Exit → Act → World → Prop
  | .normal, _, W' => ∃ X', I xs X' W' ∧ Tur X W W' ∧ Fre X X' W
  | .ret, _, W' => ∃ X', Ix .ret xs X' W' ∧ Tur X W W' ∧ Fre X X' W
  | .exit id, _, W' => ∃ X', Ix (.exit id) xs X' W' ∧ Tur X W W' ∧ Fre X X' W
  | .goto t, _, W' => ∃ X', Ix (.goto t) xs X' W' ∧ Tur X W W' ∧ Fre X X' W
  | _, _, _ => False
section
variable {F : Fence} {n : Nat} {P : Program}
/-- The loop. -/
theorem wp_tells {α : Type} {g : Operand} {ps : Array Tmp} {assign body : Code} {Q : Exit → Act → World → Prop} {a : Act} {w : World}
    (hd : F.depth = none) (hro : F.round = none) {gf : Nat} {lb : Array Value} (hg : a.eval g = .func (.func gf) #[] lb) (hFg : F.fn gf) (eg : ∀ args w, (callFunc gf args).run P w = .ok (.enter gf args) w)
    {encs : α → Array Value} {K : Nat → Prop} {xs : List α} {w0 : World} (hseq : Tells F P gf lb encs K xs w0) (hw0 : w0.heap.size ≤ w.heap.size) (hK0 : ∀ b, K b → w.heap[b]? = w0.heap[b]?) (hK1 : ∀ b, K b → b < w.heap.size) (hps : ∀ x, (encs x).size = ps.size)
    (I : List α → List Nat → World → Prop) (Ix : Code → List α → List Nat → World → Prop) (hI : Stays w.heap.size I) (hIx : ∀ c, Stays w.heap.size (Ix c)) (hIl : ∀ pre X W, I pre X W → ∀ b ∈ X, b < W.heap.size)
    (X0 : List Nat) (hX0 : ∀ b ∈ X0, ¬ K b) (h0 : I [] X0 w) 
    (hloop : ∃ a₁ : α → Act, (∀ (m l : Nat) (x : α) (W : World) (K : Act → World → Prop), K (a₁ x) W →
        assign.wpIn (F.inRound l) m P (Exit.then K (fun _ _ _ => False)) { tmps := (ps.zip (encs x)).foldl (fun t (p, v) => t.setIfInBounds p v) a.tmps, defers := [] } W) ∧
      ∀ (m l : Nat) (pre : List α) (x : α) (X : List Nat) (W : World), I pre X W → pre ++ [x] <+: xs → body.wpIn (F.inRound l) m P (Left I Ix (pre ++ [x]) X W) (a₁ x) W)
    (hdone : ∀ (D : Nat) (X : List Nat) (W : World), w.heap.size ≤ D → I xs X W → D ∉ X → W.heap[D]? = some (.deferred (some [])) → Q .normal { a with defers := { target := .collected D, args := #[] } :: a.defers } W)
    (hstop : ∀ (D : Nat) (c : Code) (pre : List α) (X : List Nat) (W : World), w.heap.size ≤ D → Ix c pre X W → D ∉ X → W.heap[D]? = some (.deferred (some [])) → c.wpIn F n P Q { a with defers := { target := .collected D, args := #[] } :: a.defers } W) :
    (Code.rangeFunc g ps assign body).wpIn F n P Q a w := by
  obtain ⟨a₁, hassign, hbody⟩ := hloop
  refine wpIn_rangeFunc fun fn hfn => ?_
  rw [hro]
  generalize hD : w.heap.size = D at *
  -- the record, as it is in each state
  let rec_ : LoopState → Option Code → Obj := fun st pe => .loop { state := st, pending := pe, fn, tmps := a.tmps, params := ps, assign, body, defers := D }
  let W1 := (w.alloc (.deferred (some []))).alloc (rec_ .ready none)
  have s1 : W1.heap.size = D + 2 := by show ((w.alloc _).alloc _).heap.size = _; simp [hD]
  have t1 : Tur [] w W1 := (Tur.alloc [] w _).trans (Tur.alloc [] _ _) (Fre.refl _ _)
  have l1 : W1.heap[D + 1]? = some (rec_ .ready none) := by
    have := World.alloc_heap_new (w.alloc (.deferred (some []))) (rec_ .ready none)
    rwa [World.size_alloc, hD] at this
  have d1 : W1.heap[D]? = some (.deferred (some [])) := by
    have h1 := World.alloc_heap_new w (.deferred (some []))
    rw [hD] at h1
    exact (Below.heap_alloc _ _ _ (by simp [hD])).trans h1
  let J : List α → List Nat → World → Prop := fun pre Y W => ∃ X, Y = (D + 1) :: X ∧ I pre X W ∧ D + 1 ∉ X ∧ D ∉ X ∧ W.heap[D + 1]? = some (rec_ .ready none) ∧ W.heap[D]? = some (.deferred (some []))
  let Jx : List α → List Nat → World → Prop := fun pre Y W => ∃ X c, Y = (D + 1) :: X ∧ Ix c pre X W ∧ D ∉ X ∧ D + 1 ∉ X ∧ W.heap[D + 1]? = some (rec_ .done (some c)) ∧ W.heap[D]? = some (.deferred (some []))
  have lt : ∀ {W : World} {k : Nat} {o : Obj}, W.heap[k]? = some o → k < W.heap.size := fun h => (Array.getElem?_eq_some_iff.1 h).1
  have hX0l := hIl _ _ _ h0
  refine ⟨D + 1, [{ target := .collected D, args := #[] }], W1, { target := .fn (.func gf) lb, args := #[.func (.yield (D + 1)) #[] #[]] }, W1, gf, #[.func (.yield (D + 1)) #[] #[]] ++ lb, W1, ?_, ?_, ?_, ?_, (fun h => (by rw [hd] at h; cases h)), ?_⟩
  · have := run_enterLoop_outer (P := P) (w := w) fn a.tmps ps assign body
    rw [hD] at this
    exact this
  · simp only [resolve, hg]
    simp [go_sem]
  · intro f' hf'
    simp [Target.leads] at hf'
    subst hf'
    exact hFg
  · simp [invoke, go_sem, eg]
  refine (hseq (n - 1) (D + 1) J Jx W1 ((D + 1) :: X0) (by omega) (fun b hb => (t1.block b (by have := hK1 b hb; omega) (by simp)).trans (hK0 b hb)) ?_ ?_ ?_ ?_ ?_ ⟨X0, rfl, hI _ _ _ _ [] h0 t1 (by simp), (fun h => (by have := hX0l _ h; omega)), (fun h => (by have := hX0l _ h; omega)), l1, d1⟩).mono ?_
  · intro b hb hk
    rcases List.mem_cons.1 hb with rfl | hb
    · have := hK1 _ hk; omega
    · exact hX0 b hb hk
  · rintro pre Y W W' Z ⟨X, rfl, hi, h1, h2, h3, h4⟩ ht hz
    have hz' : ∀ b ∈ Z, D + 2 ≤ b ∧ b ∉ X := fun b hb => ⟨by have := (hz b hb).1; omega, fun hx => (hz b hb).2 (List.mem_cons_of_mem _ hx)⟩
    exact ⟨X, rfl, hI _ _ _ _ Z hi ht (fun b hb => ⟨by have := (hz' b hb).1; omega, (hz' b hb).2⟩), h1, h2, (ht.block _ (lt h3) fun h => by have := (hz' _ h).1; omega).trans h3, (ht.block _ (lt h4) fun h => by have := (hz' _ h).1; omega).trans h4⟩
  · rintro pre Y W W' Z ⟨X, c, rfl, hi, h1, h2, h3, h4⟩ ht hz
    have hz' : ∀ b ∈ Z, D + 2 ≤ b ∧ b ∉ X := fun b hb => ⟨by have := (hz b hb).1; omega, fun hx => (hz b hb).2 (List.mem_cons_of_mem _ hx)⟩
    exact ⟨X, c, rfl, hIx c _ _ _ _ Z hi ht (fun b hb => ⟨by have := (hz' b hb).1; omega, (hz' b hb).2⟩), h1, h2, (ht.block _ (lt h3) fun h => by have := (hz' _ h).1; omega).trans h3, (ht.block _ (lt h4) fun h => by have := (hz' _ h).1; omega).trans h4⟩
  · rintro pre Y W ⟨X, rfl, hi, h1, h2, h3, h4⟩ b hb
    rcases List.mem_cons.1 hb with rfl | hb
    · exact lt h3
    · exact hIl _ _ _ hi b hb
  · rintro m pre x Y W ⟨X, rfl, hi, h1, h2, h3, h4⟩ hpre
    refine ⟨fn, _, assign, body, run_yield (P := P) (args := encs x) h3 (hps x), roundIn_of_wpIn hfn (hassign m _ x W _ ⟨_, run_beginRound h3 rfl, ?_⟩)⟩
    let W2 := W.putObj (D + 1) (rec_ .busy none)
    have t2 : Tur [D + 1] W W2 := Tur.putObj W (by simp) _
    have h32 : W2.heap[D + 1]? = some (rec_ .busy none) := World.putObj_heap_same (lt h3)
    have h42 : W2.heap[D]? = some (.deferred (some [])) := (t2.block D (lt h4) (by simp)).trans h4
    have s2 : W.heap.size ≤ W2.heap.size := t2.size
    have hone : ∀ b ∈ [D + 1], D ≤ b ∧ b ∉ X := fun b hb => by rw [List.mem_singleton.1 hb]; exact ⟨Nat.le_succ _, h1⟩
    refine wpIn_mono (hbody m (D + 1) pre x X W2 (hI _ _ _ _ _ hi t2 hone) hpre) ?_
    -- behind the body: the record is closed, by whatever way it was left
    have fin : ∀ (jump : Option Code) (X' : List Nat) (W3 : World), Tur X W2 W3 → Fre X X' W2 →
        ∃ W4, (Instr.endRound (D + 1) jump).run P W3 = .ok (.bool jump.isNone) W4 ∧ W4.heap[D + 1]? = some (rec_ (if jump.isNone then .ready else .done) jump) ∧ W4.heap[D]? = some (.deferred (some [])) ∧ Tur [D + 1] W3 W4 ∧ D + 1 ∉ X' ∧ D ∉ X' ∧ Tur ((D + 1) :: X) W W4 ∧ Fre ((D + 1) :: X) ((D + 1) :: X') W := by
      intro jump X' W3 ht hf
      have h33 : W3.heap[D + 1]? = some (rec_ .busy none) := (ht.block _ (lt h32) h1).trans h32
      have h43 : W3.heap[D]? = some (.deferred (some [])) := (ht.block _ (lt h42) h2).trans h42
      have t4 : Tur [D + 1] W3 (W3.putObj (D + 1) (rec_ (if jump.isNone then .ready else .done) jump)) := Tur.putObj W3 (by simp) _
      have sub1 : ∀ b ∈ [D + 1], b ∈ (D + 1) :: X := fun b hb => by rw [List.mem_singleton.1 hb]; exact List.mem_cons_self
      refine ⟨_, run_endRound (P := P) jump h33, World.putObj_heap_same (lt h33), (t4.block D (lt h43) (by simp)).trans h43, t4, fun h => ?_, fun h => ?_, ?_, fun b hb => ?_⟩
      · rcases hf _ h with h | h
        · exact h1 h
        · have := lt h32; omega
      · rcases hf _ h with h | h
        · exact h2 h
        · have := lt h42; omega
      · exact ((t2.sub sub1).trans (ht.sub fun b hb => List.mem_cons_of_mem _ hb) (Fre.refl _ _)).trans (t4.sub sub1) (Fre.refl _ _)
      · rcases List.mem_cons.1 hb with rfl | hb
        · exact .inl List.mem_cons_self
        · rcases hf _ hb with h | h
          · exact .inl (List.mem_cons_of_mem _ h)
          · exact .inr (by omega)
    have one' : ∀ {X' : List Nat}, D + 1 ∉ X' → ∀ b ∈ [D + 1], D ≤ b ∧ b ∉ X' := fun h b hb => by rw [List.mem_singleton.1 hb]; exact ⟨Nat.le_succ _, h⟩
    rintro e a3 W3 hp
    cases e with
    | normal =>
      obtain ⟨X', hi3, ht, hf⟩ := hp
      obtain ⟨W4, hr, h34, h44, t4, n1, n2, tt, ff⟩ := fin none X' W3 ht hf
      exact ⟨_, W4, hr, _, .inl ⟨rfl, X', rfl, hI _ _ _ _ _ hi3 t4 (one' n1), n1, n2, h34, h44⟩, tt, ff⟩
    | ret =>
      obtain ⟨X', hi3, ht, hf⟩ := hp
      obtain ⟨W4, hr, h34, h44, t4, n1, n2, tt, ff⟩ := fin (some .ret) X' W3 ht hf
      exact ⟨_, W4, hr, _, .inr ⟨rfl, X', .ret, rfl, hIx _ _ _ _ _ _ hi3 t4 (one' n1), n2, n1, h34, h44⟩, tt, ff⟩
    | exit id =>
      obtain ⟨X', hi3, ht, hf⟩ := hp
      obtain ⟨W4, hr, h34, h44, t4, n1, n2, tt, ff⟩ := fin (some (.exit id)) X' W3 ht hf
      exact ⟨_, W4, hr, _, .inr ⟨rfl, X', .exit id, rfl, hIx _ _ _ _ _ _ hi3 t4 (one' n1), n2, n1, h34, h44⟩, tt, ff⟩
    | goto t =>
      obtain ⟨X', hi3, ht, hf⟩ := hp
      obtain ⟨W4, hr, h34, h44, t4, n1, n2, tt, ff⟩ := fin (some (.goto t)) X' W3 ht hf
      exact ⟨_, W4, hr, _, .inr ⟨rfl, X', .goto t, rfl, hIx _ _ _ _ _ _ hi3 t4 (one' n1), n2, n1, h34, h44⟩, tt, ff⟩
    | panic ch => exact hp.elim
    | outgrown => exact hp.elim
  · rintro e W2 ⟨⟨v, rfl⟩, Y, (⟨X, rfl, hi, h1, h2, h3, h4⟩ | ⟨pre, X, c, rfl, hi, h2, h1, h3, h4⟩)⟩
    · have t3 : Tur [D + 1] W2 (W2.putObj (D + 1) (rec_ .exhausted none)) := Tur.putObj W2 (by simp) _
      exact ⟨none, _, run_endLoop (P := P) h3 (by simp), hdone D X _ (Nat.le_refl _) (hI _ _ _ _ _ hi t3 fun b hb => by rw [List.mem_singleton.1 hb]; exact ⟨Nat.le_succ _, h1⟩) h2 ((t3.block D (lt h4) (by simp)).trans h4)⟩
    · have t3 : Tur [D + 1] W2 (W2.putObj (D + 1) (rec_ .exhausted (some c))) := Tur.putObj W2 (by simp) _
      exact ⟨some c, _, run_endLoop (P := P) h3 (by simp), hstop D c pre X _ (Nat.le_refl _) (hIx c _ _ _ _ _ hi t3 fun b hb => by rw [List.mem_singleton.1 hb]; exact ⟨Nat.le_succ _, h1⟩) h2 ((t3.block D (lt h4) (by simp)).trans h4)⟩
end
end Go.Proofs.YtlhfdhmmdnkojaaGreatDoor
namespace Go.Proofs.YtlhfdhmmdnkojaaGreatDoor
open Go.RowKit
set_option linter.unusedVariables false
/-- No cells lie there. -/
def Rec (W : World) (b : Nat) : Prop := ∀ t cs, ¬ Has W b t cs
theorem rec_of {W : World} {b : Nat} {o : Obj} (h : W.heap[b]? = some o) (ho : ∀ cs t, o ≠ .cells cs t) : Rec W b := fun t cs hh => by
  have : some o = some (.cells cs t) := h.symm.trans hh
  injection this with e
  exact ho _ _ e
section
variable {F : Fence} {n : Nat} {P : Program}
end
end Go.Proofs.YtlhfdhmmdnkojaaGreatDoor
namespace Go.Proofs.YtlhfdhmmdnkojaaGreatDoor
open Go.RowKit Go.Shelf
set_option maxRecDepth 100000
set_option linter.unusedVariables false
attribute [local go_sem] Oper.semAt_some
theorem moments_any (w : World) (A : Option Addr) (n c : Nat) (k : Int) (f tb : Nat) :
    Calls Tryz.prog 74 #[.slice A n c, .int .i64 k, .func (.func f) #[] #[.pointer (some ⟨tb, 0, none⟩)]] w fun e w' => e = .returned (.func (.func 127) #[] #[.pointer (some ⟨w.heap.size, 0, none⟩), .pointer (some ⟨w.heap.size + 1, 0, none⟩), .pointer (some ⟨w.heap.size + 2, 0, none⟩)]) ∧
      w' = ((w.alloc (.cells #[.slice A n c] 22)).alloc (.cells #[.int .i64 k] 3)).alloc (.cells #[.func (.func f) #[] #[.pointer (some ⟨tb, 0, none⟩)]] 122) := by
  go_enter Tryz.func74, Tryz.ntmps74
  go_wp2_with fail
  go_ret
  exact ⟨rfl, rfl⟩
theorem given_any (w : World) (A : Option Addr) (n c : Nat) :
    Calls Tryz.prog 75 #[.slice A n c] w fun e w' => e = .returned (.func (.func 129) #[] #[.pointer (some ⟨w.heap.size, 0, none⟩)]) ∧ w' = w.alloc (.cells #[.slice A n c] 55) := by
  go_enter Tryz.func75, Tryz.ntmps75
  go_wp2_with fail
  go_ret
  exact ⟨rfl, rfl⟩
theorem standing_any (w : World) (g : Nat) :
    Calls Tryz.prog 84 #[.pointer (some ⟨g, 0, none⟩)] w fun e w' => e = .returned (.func (.func 137) #[] #[.pointer (some ⟨w.heap.size, 0, none⟩)]) ∧ w' = w.alloc (.cells #[.pointer (some ⟨g, 0, none⟩)] 96) := by
  go_enter Tryz.func84, Tryz.ntmps84
  go_wp2_with fail
  go_ret
  exact ⟨rfl, rfl⟩
set_option maxHeartbeats 2000000 in
/-- Of no writes nothing is told. -/
theorem it0_tells (w : World) (lb mb tb : Nat) (A : Option Addr) (n c : Nat) (hl : Has w lb 22 #[.slice A n c]) (hm : Has w mb 3 #[.int .i64 0]) :
    Tells Fence.wide Tryz.prog 127 #[.pointer (some ⟨lb, 0, none⟩), .pointer (some ⟨mb, 0, none⟩), .pointer (some ⟨tb, 0, none⟩)] (fun x : Empty => x.elim) (fun b => b = lb ∨ b = mb) [] w := by
  intro m l J Jx W X hs hK hX hJ hJx hJl hR h0
  have hlW : Has W lb 22 #[.slice A n c] := (hK lb (.inl rfl)).trans hl
  have hmW : Has W mb 3 #[.int .i64 0] := (hK mb (.inr rfl)).trans hm
  have cl := hlW.cell 0
  have cm := hmW.cell 0
  have hro : Fence.wide.round = none := rfl
  refine callsIn_of_wp_marks Tryz.func127 rfl trivial ?_ rfl
  simp only [Tryz.ntmps127, List.size_toArray, List.length_cons, List.length_nil, Nat.reduceAdd, Nat.reduceSub, Array.replicate_succ, Array.replicate_zero, List.push_toArray, List.append_toArray, List.nil_append, List.cons_append]
  gi_wp2
  gi_loopw [12] (fun i wx => i = .int .i64 0 ∧ wx = W) (fun _ _ => 0)
  case atStart => exact ⟨rfl, rfl⟩
  case round =>
    obtain ⟨rfl, rfl⟩ := hrel
    gi_wp2
    refine ⟨_, results_none rfl _ _ _, ⟨_, rfl⟩, X, .inl ?_⟩
    exact h0
end Go.Proofs.YtlhfdhmmdnkojaaGreatDoor
namespace Go.Proofs.YtlhfdhmmdnkojaaGreatDoor
open Go.RowKit Dg

/-- A string's bytes. -/
def sb (s : ByteArray) : List Nat := s.data.toList.map UInt8.toNat
theorem sb_length (s : ByteArray) : (sb s).length = s.size := by
  unfold sb; rw [List.length_map, Array.length_toList]; rfl
/-- The string of bytes. -/
def bs (l : List Nat) : ByteArray := ⟨(l.map UInt8.ofNat).toArray⟩
theorem bs_size (l : List Nat) : (bs l).size = l.length := by simp [bs, ByteArray.size]
theorem sb_bs (l : List Nat) (h : ∀ x ∈ l, x < 256) : sb (bs l) = l := by
  simp only [sb, bs, List.map_map]
  conv => rhs; rw [← List.map_id l]
  apply List.map_congr_left
  intro x hx
  have := h x hx
  simp
  omega
theorem bs_sb (s : ByteArray) : bs (sb s) = s := by
  simp only [sb, bs, List.map_map]
  have : (UInt8.ofNat ∘ UInt8.toNat) = id := by funext x; simp
  rw [this, List.map_id]
theorem sb_byte (s : ByteArray) : ∀ x ∈ sb s, x < 256 := by
  intro x hx
  obtain ⟨y, _, rfl⟩ := List.mem_map.1 hx
  exact y.toNat_lt
theorem bs_toList (l : List Nat) : (bs l).toList = l.map UInt8.ofNat := ByteArray.toList_mk _
theorem fold_bs (l : List Nat) : ∀ s : ByteArray, (l.map (Int.ofNat)).foldl (fun r n => r.push (UInt8.ofNat n.toNat)) s = ⟨s.data ++ (l.map UInt8.ofNat).toArray⟩ := by
  induction l with
  | nil => intro s; simp
  | cons x l ih =>
    intro s
    rw [List.map_cons, List.foldl_cons, ih]
    simp [ByteArray.push]

theorem conv_rd (w : World) (A : Option Addr) (l : List Nat) (c : Nat) (h : Rd w A l) :
    (convert 37 9 (.slice A l.length c)).run Tryz.prog w = .ok (.string (bs l)) w := by
  rw [run_convert_bytes_string w 37 9 5 A l.length c Tryz.underlying37 Tryz.underlying5 Tryz.underlying9]
  rcases A with _ | a
  · have hl : l = [] := by
      rcases l with _ | ⟨x, l⟩
      · rfl
      · obtain ⟨b, off, e, _⟩ := h (by simp)
        cases e
    subst hl
    rfl
  · have hf := firstCells_rd (P := Tryz.prog) w (some a) l c h
    simp only [Builtin.firstCells, Nat.mul_one] at hf
    have hm : l.map bv = (l.map Int.ofNat).map (Value.int .u8) := by rw [List.map_map]; rfl
    rw [hm] at hf
    rw [run_bytesToString w a l.length c (l.map Int.ofNat) hf, fold_bs]
    simp [bs]
theorem conv_len (w : World) (A : Option Addr) (l : List Nat) (n c : Nat) (hn : l.length = n) (h : Rd w A l) :
    (convert 37 9 (.slice A n c)).run Tryz.prog w = .ok (.string (bs l)) w := by
  rw [← hn]; exact conv_rd w A l c h
/-- Bytes come back that a conversion turns into the string of l; kept in whatever comes behind. -/
def Str (W : World) (l : List Nat) (A : Option Addr) (n : Nat) (w' : World) : Prop := l.length = n ∧ Rd w' A l ∧ Below W.heap.size W w'
theorem Str.conv {W w' : World} {l : List Nat} {A : Option Addr} {n : Nat} (c : Nat) (h : Str W l A n w') : Sem.run Tryz.prog (convert 37 9 (.slice A n c)) w' = .ok (.string (bs l)) w' := conv_len w' A l n c h.1 h.2.1
theorem Str.later {W w' w2 : World} {l : List Nat} {A : Option Addr} {n : Nat} (h : Str W l A n w') (hb : Below w'.heap.size w' w2) : Str W l A n w2 := ⟨h.1, h.2.1.below hb, h.2.2.trans (hb.mono h.2.2.size)⟩
end Go.Proofs.YtlhfdhmmdnkojaaGreatDoor
namespace Go.Proofs.YtlhfdhmmdnkojaaGreatDoor
open Go.RowKit Dg
set_option maxRecDepth 100000
/-- A work: its table, is it done, its key. -/
structure Wk where
  t : ByteArray
  d : Bool
  k : ByteArray
/-- The cells at A read as the works T. -/
def WRow (w : World) (A : Option Addr) (T : List Wk) : Prop :=
  T ≠ [] → ∃ b off, A = some ⟨b, off, none⟩ ∧ ∀ i (h : i < T.length), w.cell? ⟨b, off + i * 3, none⟩ = some (.string T[i].t) ∧ w.cell? ⟨b, off + i * 3 + 1, none⟩ = some (.bool T[i].d) ∧ w.cell? ⟨b, off + i * 3 + 2, none⟩ = some (.string T[i].k)
theorem WRow.below {w w' : World} {A : Option Addr} {T : List Wk} (h : WRow w A T) (hb : Below w.heap.size w w') : WRow w' A T := fun hne => by
  obtain ⟨b, off, e, hc⟩ := h hne
  have k := fun (a : Addr) (v : Value) (h : w.cell? a = some v) => (hb.cell (World.block_lt_of_cell? _ _ h)).trans h
  exact ⟨b, off, e, fun i hi => ⟨k _ _ (hc i hi).1, k _ _ (hc i hi).2.1, k _ _ (hc i hi).2.2⟩⟩
theorem WRow.nil (w : World) (A : Option Addr) : WRow w A [] := fun h => absurd rfl h
theorem keepW {W W' : World} {a : Addr} {v : Value} (hb : Below W.heap.size W W') (h : W.cell? a = some v) : W'.cell? a = some v := (hb.cell (World.block_lt_of_cell? _ _ h)).trans h
def Wk.row (x : Wk) : List Value := [.string x.t, .bool x.d, .string x.k]
theorem infoW : (Tryz.prog.info? 143).map (fun i => (i.zero, i.size, i.bytes)) = some (some (.agg #[.string ⟨#[]⟩, .bool false, .string ⟨#[]⟩]), 3, 40) := by kernel_rfl
/-- Columns in a row of the call's own. -/
def OwnW (B : Nat) (w : World) (v : Value) (L : List Wk) : Prop := w.ownsRow B 143 3 v L.length (L.flatMap Wk.row)
theorem ownW_nil (B : Nat) (w : World) : OwnW B w (.slice none 0 0) [] := World.ownsRow_nil _ _ _ _
theorem OwnW.below {B : Nat} {w w' : World} {v : Value} {L : List Wk} (h : OwnW B w v L) (hb : Below w.heap.size w w') : OwnW B w' v L := by
  rcases h.2 with ⟨hv, hn⟩ | ⟨g, cap, cur, hv, hg, hh, hc, hcm, hsz, ht⟩
  · exact ⟨h.1, .inl ⟨hv, hn⟩⟩
  · exact ⟨h.1, .inr ⟨g, cap, cur, hv, hg, Has.below (t := 143) (cs := cur) hh hb (Has.lt (t := 143) (cs := cur) hh), hc, hcm, hsz, ht⟩⟩
theorem wflat_len (L : List Wk) : (L.flatMap Wk.row).length = L.length * 3 := by
  induction L with
  | nil => rfl
  | cons x L ih => rw [List.flatMap_cons, List.length_append, ih]; simp [Wk.row]; omega
theorem wflat_get (L : List Wk) (i j : Nat) (h : i < L.length) (hj : j < 3) : (L.flatMap Wk.row)[i * 3 + j]? = L[i].row[j]? := by
  induction L generalizing i with
  | nil => simp at h
  | cons x L ih =>
    rw [List.flatMap_cons]
    rcases i with _ | i
    · rw [List.getElem?_append_left (by simp [Wk.row]; omega)]
      simp
    · rw [List.getElem?_append_right (by simp [Wk.row]; omega)]
      have e : (i + 1) * 3 + j - x.row.length = i * 3 + j := by simp [Wk.row]; omega
      rw [e, ih i (by simpa using h)]
      simp
theorem ownW_row {B : Nat} {w : World} {v : Value} {L : List Wk} (h : OwnW B w v L) : ∃ A c, v = .slice A L.length c ∧ L.length ≤ c ∧ c ≤ maxLen ∧ WRow w A L ∧ (A = none → c = 0) := by
  rcases h.2 with ⟨hv, hn⟩ | ⟨g, cap, cur, hv, _, hh, hc, hcm, hsz, ht⟩
  · obtain rfl := List.eq_nil_of_length_eq_zero hn
    exact ⟨none, 0, hv, Nat.le_refl _, Nat.zero_le _, fun h => absurd rfl h, fun _ => rfl⟩
  · refine ⟨_, _, hv, hc, hcm, fun _ => ⟨g, 0, rfl, fun i hi => ?_⟩, fun e => by cases e⟩
    have hq : ∀ j, j < 3 → w.cell? ⟨g, 0 + (i * 3 + j), none⟩ = L[i].row[j]? := fun j hj => by
      rw [Nat.zero_add, Has.cell (t := 143) (cs := cur) hh, ← wflat_get L i j hi hj, ← ht, List.getElem?_take, if_pos (by omega)]
      simp
    have q0 := hq 0 (by omega)
    have q1 := hq 1 (by omega)
    have q2 := hq 2 (by omega)
    exact ⟨q0, q1, q2⟩
/-- One column is put behind a row of the call's own. -/
theorem appW (w : World) (g : Nat) (hg0 : g = w.heap.size) (B : Nat) (v : Value) (L : List Wk) (x : Wk) (h : OwnW B w v L) (hB : B ≤ w.heap.size) (hl : L.length ≤ 1000) :
    ∃ R W', (Builtin.append_ #[65, 65] 65 #[v, .slice (some ⟨g, 0, none⟩) 1 1]).run Tryz.prog (w.alloc (.cells #[.string x.t, .bool x.d, .string x.k] 143)) = .ok R W' ∧ OwnW B W' R (L ++ [x]) ∧ Below B w W' := by
  subst hg0
  obtain ⟨i0, hi, hz0, hz1, hz2⟩ := info_parts infoW
  obtain ⟨R, W', hrun, hown, hg, _⟩ := run_append_own (P := Tryz.prog) (w.alloc (.cells x.row.toArray 143)) B 65 65 143 i0 _ 3 40 Tryz.underlying65 hi hz0 hz1 hz2 rfl (by decide) v L.length (L.flatMap Wk.row) (h.alloc _)
    ⟨w.heap.size, 0, none⟩ 1 1 x.row rfl (fun j u hj => by
      have := (Has.new w 143 x.row.toArray).cell j
      rw [List.getElem?_toArray] at this
      rw [Addr.add_lit, Nat.zero_add]
      exact this.trans hj) (fun u hu => by simp [Wk.row] at hu; rcases hu with rfl | rfl | rfl <;> rfl) (by unfold maxLen; omega) (by omega) (by simp; omega)
  refine ⟨R, W', hrun, ?_, ?_⟩
  · unfold OwnW; rw [List.flatMap_append, List.length_append]; simpa using hown
  · exact ((Below.refl B w).alloc hB _).grown hg (by simp; omega) fun k hk => (World.ownsRow.lt h k hk).1
/-- A row of the call's own, its length under a letter. -/
theorem ownW_open {B : Nat} {w : World} {v : Value} {L : List Wk} (h : OwnW B w v L) : ∃ A n c, v = .slice A n c ∧ Hid (L.length = n) ∧ n ≤ c ∧ c ≤ maxLen ∧ Hid (WRow w A L) ∧ Hid (A = none → c = 0) := by
  obtain ⟨A, c, e, h1, h2, h3, h4⟩ := ownW_row h
  exact ⟨A, L.length, c, e, rfl, h1, h2, h3, h4⟩
theorem wflat_set (L : List Wk) (i j : Nat) (u : Value) (x : Wk) (hi : i < L.length) (hj : j < 3) (hx : x.row = L[i].row.set j u) : (L.flatMap Wk.row).set (i * 3 + j) u = (L.set i x).flatMap Wk.row := by
  induction L generalizing i with
  | nil => simp at hi
  | cons y L ih =>
    rcases i with _ | i
    · simp only [List.getElem_cons_zero] at hx
      rw [List.flatMap_cons, List.set_cons_zero, List.flatMap_cons, hx, Nat.zero_mul, Nat.zero_add]
      rw [List.set_append_left _ _ (by simp [Wk.row]; omega)]
    · simp only [List.getElem_cons_succ] at hx
      rw [List.flatMap_cons, List.set_cons_succ, List.flatMap_cons, ← ih i (by simpa using hi) hx]
      rw [List.set_append_right _ _ (by simp [Wk.row]; omega)]
      have e : (i + 1) * 3 + j - y.row.length = i * 3 + j := by simp [Wk.row]; omega
      rw [e]
theorem ownW_put {B : Nat} {w : World} {v : Value} {L : List Wk} (h : OwnW B w v L) (i : Nat) (hi : i < L.length) (j : Nat) (hj : j < 3) (u : Value) (x : Wk) (hx : x.row = L[i].row.set j u) :
    ∃ g c, v = .slice (some ⟨g, 0, none⟩) L.length c ∧ B ≤ g ∧ L.length ≤ c ∧ w.frozen? ⟨g, i * 3 + j, none⟩ = false ∧ w.cell? ⟨g, i * 3 + j, none⟩ = L[i].row[j]? ∧ OwnW B (w.setCell ⟨g, i * 3 + j, none⟩ u) v (L.set i x) := by
  rcases h.2 with ⟨hv, hn⟩ | ⟨g, cap, cur, hv, hg, hh, hc, hcm, hsz, ht⟩
  · omega
  · refine ⟨g, cap, hv, hg, hc, Has.free (t := 143) (cs := cur) hh _, ?_, ?_⟩
    · rw [Has.cell (t := 143) (cs := cur) hh, ← wflat_get L i j hi hj, ← ht, List.getElem?_take, if_pos (by omega)]
      simp
    · refine ⟨by rw [wflat_len], .inr ⟨g, cap, cur.setIfInBounds (i * 3 + j) u, by rw [List.length_set]; exact hv, hg, Has.put (t := 143) (cs := cur) hh (i * 3 + j) u, by rw [List.length_set]; exact hc, hcm, by simpa using hsz, ?_⟩⟩
      rw [List.length_set, ← wflat_set L i j u x hi hj hx, ← ht, Array.toList_setIfInBounds, List.take_set]
theorem WRow.drop {w : World} {b off : Nat} {L : List Wk} (h : WRow w (some ⟨b, off, none⟩) L) (k : Nat) : WRow w (some ⟨b, off + k * 3, none⟩) (L.drop k) := fun hl => by
  obtain ⟨b', off', e, hc⟩ := h (by rintro rfl; simp at hl)
  injection e with e
  injection e with e1 e2
  subst e1 e2
  refine ⟨b, off + k * 3, rfl, fun i hi => ?_⟩
  rw [List.length_drop] at hi
  obtain ⟨h0, h1, h2⟩ := hc (k + i) (by omega)
  rw [List.getElem_drop]
  have e : off + (k + i) * 3 = off + k * 3 + i * 3 := by omega
  rw [e] at h0 h1 h2
  exact ⟨h0, h1, h2⟩
theorem WRow.take {w : World} {A : Option Addr} {L : List Wk} (h : WRow w A L) (k : Nat) : WRow w A (L.take k) := fun hl => by
  obtain ⟨b, off, e, hc⟩ := h (by rintro rfl; simp at hl)
  refine ⟨b, off, e, fun i hi => ?_⟩
  rw [List.length_take] at hi
  rw [List.getElem_take]
  exact hc i (by omega)
theorem WRow.one (w : World) (x : Wk) : WRow (w.alloc (.cells #[.string x.t, .bool x.d, .string x.k] 143)) (some ⟨w.heap.size, 0, none⟩) [x] := fun _ => ⟨w.heap.size, 0, rfl, fun i hi => by
  have hh := Has.new w 143 #[.string x.t, .bool x.d, .string x.k]
  obtain rfl : i = 0 := by simpa using hi
  exact ⟨hh.cell 0, hh.cell 1, hh.cell 2⟩⟩
theorem OwnW.drew {B : Nat} {w : World} {v : Value} {L : List Wk} (h : OwnW B w v L) : OwnW B w.drew v L := h.below ((Below.refl _ w).drew)
theorem ownW_put2 {B : Nat} {w : World} {g n c : Nat} {L : List Wk} (h : OwnW B w (.slice (some ⟨g, 0, none⟩) n c) L) (i : Nat) (hi : i < L.length) (j : Nat) (hj : j < 3) (u : Value) (x : Wk) (hx : x.row = L[i].row.set j u) :
    B ≤ g ∧ w.frozen? ⟨g, i * 3 + j, none⟩ = false ∧ OwnW B (w.setCell ⟨g, i * 3 + j, none⟩ u) (.slice (some ⟨g, 0, none⟩) n c) (L.set i x) := by
  obtain ⟨g2, c2, hv, hB, _, hf, _, ho⟩ := ownW_put h i hi j hj u x hx
  injection hv with e1 e2 e3
  injection e1 with e1
  injection e1 with e1
  subst e1
  exact ⟨hB, hf, ho⟩
theorem OwnW.row {B : Nat} {w : World} {v : Value} {L : List Wk} (h : OwnW B w v L) {A : Option Addr} {n c : Nat} (hv : v = .slice A n c) : WRow w A L := by
  obtain ⟨A2, c2, e, _, _, hr, _⟩ := ownW_row h
  rw [hv] at e
  injection e with e1 _ _
  rw [e1]; exact hr
theorem ownW_down {B B' : Nat} {w : World} {v : Value} {l : List Wk} (h : OwnW B w v l) (hb : B' ≤ B) : OwnW B' w v l := by
  obtain ⟨h1, h2⟩ := h
  refine ⟨h1, ?_⟩
  rcases h2 with h2 | ⟨g, cap, cur, e, hg, r⟩
  · exact .inl h2
  · exact .inr ⟨g, cap, cur, e, Nat.le_trans hb hg, r⟩
theorem OwnW.far {B : Nat} {w : World} {v : Value} {L : List Wk} (h : OwnW B w v L) {p : Addr} (hp : p.block < B) (u : Value) : OwnW B (w.setCell p u) v L := by
  rcases h.2 with ⟨hv, hn⟩ | ⟨g, cap, cur, hv, hg, hh, hc, hcm, hsz, ht⟩
  · exact ⟨h.1, .inl ⟨hv, hn⟩⟩
  · exact ⟨h.1, .inr ⟨g, cap, cur, hv, hg, Has.far (t := 143) (cs := cur) hh (by omega) u, hc, hcm, hsz, ht⟩⟩
end Go.Proofs.YtlhfdhmmdnkojaaGreatDoor
namespace Go.Proofs.YtlhfdhmmdnkojaaGreatDoor
open Go.RowKit Dg
set_option maxRecDepth 100000
theorem yless_irrefl : ∀ x : List UInt8, Op.bytesLess x x = false
  | [] => rfl
  | a :: x => by simp [Op.bytesLess, yless_irrefl x]
theorem yless_asymm : ∀ x y : List UInt8, Op.bytesLess x y = true → Op.bytesLess y x = false
  | [], [], h => by simp [Op.bytesLess] at h
  | [], _ :: _, _ => rfl
  | _ :: _, [], h => by simp [Op.bytesLess] at h
  | a :: x, b :: y, h => by
    simp only [Op.bytesLess, Bool.or_eq_true, decide_eq_true_eq, Bool.and_eq_true, beq_iff_eq] at h
    simp only [Op.bytesLess, Bool.or_eq_false_iff, decide_eq_false_iff_not, Bool.and_eq_false_iff, beq_eq_false_iff_ne]
    rcases h with h | ⟨h, h'⟩
    · exact ⟨by rw [UInt8.lt_iff_toNat_lt] at h ⊢; omega, .inl (by intro e; subst e; rw [UInt8.lt_iff_toNat_lt] at h; omega)⟩
    · subst h
      exact ⟨by rw [UInt8.lt_iff_toNat_lt]; omega, .inr (yless_asymm x y h')⟩
theorem yless_total : ∀ x y : List UInt8, Op.bytesLess x y = false → Op.bytesLess y x = false → x = y
  | [], [], _, _ => rfl
  | [], _ :: _, h, _ => by simp [Op.bytesLess] at h
  | _ :: _, [], _, h => by simp [Op.bytesLess] at h
  | a :: x, b :: y, h, h' => by
    simp only [Op.bytesLess, Bool.or_eq_false_iff, decide_eq_false_iff_not, Bool.and_eq_false_iff, beq_eq_false_iff_ne, UInt8.lt_iff_toNat_lt] at h h'
    have e : a = b := by
      apply UInt8.toNat_inj.1; omega
    subst e
    rw [yless_total x y (h.2.resolve_left (by simp)) (h'.2.resolve_left (by simp))]
end Go.Proofs.YtlhfdhmmdnkojaaGreatDoor
namespace Go.Proofs.YtlhfdhmmdnkojaaGreatDoor
open Go.RowKit Dg
theorem partI (xs : Array Value) (i : Nat) (v : Value) (h : xs[i]? = some v) (w : World) : (part 3 xs i).run Tryz.prog w = .ok v w := by
  unfold part
  simp [Sem.run_bind, Tryz.isAgg3, h]
theorem partS (xs : Array Value) (i : Nat) (v : Value) (h : xs[i]? = some v) (w : World) : (part 9 xs i).run Tryz.prog w = .ok v w := by
  unfold part
  simp [Sem.run_bind, Tryz.isAgg9, h]
theorem eqV (k n k' n' : Int) (s s' : ByteArray) (w : World) : (Op.equalIn 10000 113 (.agg #[.int .i64 k, .int .i64 n, .string s]) (.agg #[.int .i64 k', .int .i64 n', .string s'])).run Tryz.prog w = .ok (k == k' && n == n' && s.toList == s'.toList) w := by
  have e := fun (a b : Int) (w : World) => run_equalIn_int (P := Tryz.prog) w 9998 3 .i64 .i64 a b Tryz.underlying3
  have es := fun (a b : ByteArray) (w : World) => run_equalIn_string (P := Tryz.prog) w 9998 9 a b Tryz.underlying9
  have p0 := fun (x0 x1 x2 : Value) => partI #[x0, x1, x2] 0 x0 rfl
  have p1 := fun (x0 x1 x2 : Value) => partI #[x0, x1, x2] 1 x1 rfl
  have p2 := fun (x0 x1 x2 : Value) => partS #[x0, x1, x2] 2 x2 rfl
  rw [show (10000 : Nat) = 9999 + 1 by rfl, run_equalIn_agg w 9999 113 _ _ (by kernel_rfl) (by kernel_rfl)]
  unfold Program.fieldsOf
  rw [Tryz.underlying113]
  by_cases h0 : k = k' <;> by_cases h1 : n = n' <;> by_cases h2 : s.toList = s'.toList <;>
  simp [Op.eqFields, Sem.run_bind, Result.andThen, p0, p1, p2, e, es, h0, h1, h2]
/-- A text that is not too long. -/
def short (n : Int) (s : ByteArray) : Bool := n == 0 && decide (s.size ≤ 4096)
set_option maxHeartbeats 400000 in
theorem isText_any (k n : Int) (s : ByteArray) (w : World) (hs : s.size ≤ 9223372036854775807) :
    Calls Tryz.prog 184 #[.agg #[.int .i64 k, .int .i64 n, .string s]] w fun e w' => e = .returned (.bool (short n s)) ∧ Hid (Below w.heap.size w w') := by
  have eq := eqV
  have HB := fun n => Lib.hid ((Below.refl w.heap.size w).alloc (Nat.le_refl _) (.cells #[.int .i64 k, .int .i64 n, .string s] 113))
  go_enter Tryz.func184, Tryz.ntmps184
  go_wp2_with fail
  · have h : n = 0 := by assumption
    go_ret
    exact ⟨by simp [short, h]; omega, HB 0⟩
  · have h : ¬ n = 0 := by assumption
    go_ret
    exact ⟨by simp [short, h], HB n⟩
/-- Which values may be. -/
def mayF (k n : Int) (s : ByteArray) : Bool :=
  if k = 0 then n == 0 && s.toList.isEmpty else if k = 1 then s.toList.isEmpty && (n == 0 || n == 1) else if k = 2 then s.toList.isEmpty else if k = 3 then short n s && Lib.validD s.data.toList else if k = 4 then short n s else false
/-- The library's tables of UTF-8 stand as its text lays them. -/
def Tabs (w : World) : Prop := Lib.Utf8Tabs (Tryz.laysValid_ren.g 3) (Tryz.laysValid_ren.g 4) w
theorem Tabs.below {w w' : World} (h : Tabs w) (hb : Below w.heap.size w w') : Tabs w' := Utf8Tabs_below h hb
set_option maxHeartbeats 400000 in
theorem may_any (k n : Int) (s : ByteArray) (w : World) (hs : s.size ≤ 9223372036854775807) (hT : Tabs w) :
    Calls Tryz.prog 170 #[.agg #[.int .i64 k, .int .i64 n, .string s]] w fun e w' => e = .returned (.bool (mayF k n s)) ∧ Hid (Below w.heap.size w w') := by
  have eq := eqV
  have HB := fun k n s => Lib.hid ((Below.refl w.heap.size w).alloc (Nat.le_refl _) (.cells #[.int .i64 k, .int .i64 n, .string s] 113))
  by_cases h0 : k = 0
  · subst h0
    go_enter Tryz.func170, Tryz.ntmps170
    go_wp2_with fail
    go_ret
    exact ⟨by simp [mayF], HB 0 n s⟩
  by_cases h1 : k = 1
  · subst h1
    by_cases hn : n = 0
    · subst hn
      cases he : s.toList.isEmpty
      · go_enter Tryz.func170, Tryz.ntmps170
        go_wp2_with fail
        go_ret
        exact ⟨by simp [mayF, he], HB _ _ _⟩
      · go_enter Tryz.func170, Tryz.ntmps170
        go_wp2_with fail
        go_ret
        exact ⟨by simp [mayF, he], HB _ _ _⟩
    · have hq : (n == 0) = false := by simp [hn]
      go_enter Tryz.func170, Tryz.ntmps170
      go_wp2_with fail
      go_ret
      exact ⟨by simp [mayF, hq, Bool.and_comm], HB _ _ _⟩
  by_cases h2 : k = 2
  · subst h2
    go_enter Tryz.func170, Tryz.ntmps170
    go_wp2_with fail
    go_ret
    exact ⟨by simp [mayF], HB _ _ _⟩
  by_cases h3 : k = 3
  · subst h3
    have C1 := Lib.hid (fun w => isText_any 3 n s w hs)
    go_enter Tryz.func170, Tryz.ntmps170
    go_wp2_with fail
    refine (C1.out _).mono ?_
    rintro e w1 ⟨rfl, hb1⟩
    have HB1 := Lib.hid ((HB 3 n s).out.trans (hb1.out.mono (HB 3 n s).out.size))
    have hc1 : w1.cell? ⟨w.heap.size, 2, none⟩ = some (.string s) := by
      rw [hb1.out.cell (by simp)]
      simp
    have HV := Lib.hid (fun w (h : Tabs w) => Any.utf8_ValidString Tryz.laysValid s w hs h)
    have HT := Lib.hid hT
    clear hb1 hT
    cases hsh : short n s
    · go_wp2_with fail
      go_ret
      exact ⟨by simp [mayF, hsh], HB1.out⟩
    · go_wp2_with fail
      refine (HV.out _ (HT.out.below HB1.out)).mono ?_
      rintro e w2 ⟨rfl, hb2⟩
      have HB2 := Lib.hid (HB1.out.trans (hb2.mono HB1.out.size))
      clear hb2
      go_wp2_with fail
      go_ret
      exact ⟨by simp [mayF, hsh], HB2.out⟩
  by_cases h4 : k = 4
  · subst h4
    have C1 := Lib.hid (fun w => isText_any 4 n s w hs)
    go_enter Tryz.func170, Tryz.ntmps170
    go_wp2_with fail
    refine (C1.out _).mono ?_
    rintro e w1 ⟨rfl, hb1⟩
    have HB1 := Lib.hid ((HB 4 n s).out.trans (hb1.out.mono (HB 4 n s).out.size))
    go_wp2_with fail
    go_ret
    exact ⟨by simp [mayF], HB1.out⟩
  · go_enter Tryz.func170, Tryz.ntmps170
    go_wp2_with fail
    go_ret
    exact ⟨by simp [mayF, h0, h1, h2, h3, h4], HB _ _ _⟩
end Go.Proofs.YtlhfdhmmdnkojaaGreatDoor
namespace Go.Proofs.YtlhfdhmmdnkojaaGreatDoor
open Go.RowKit Dg
theorem info5 : (Tryz.prog.info? 5).map (fun i => (i.zero, i.size, i.bytes)) = some (some (.int .u8 0), 1, 1) := by kernel_rfl
/-- Bytes in a row of the call's own. -/
def Own (B : Nat) (w : World) (v : Value) (l : List Nat) : Prop := w.ownsRow B 5 1 v l.length (l.map bv)
/-- Bytes come back, in a row of the call's own. -/
def OutO (w : World) (l : List Nat) (e : Ending) (w' : World) : Prop := ∃ v, e = .returned v ∧ Own w.heap.size w' v l ∧ Below w.heap.size w w'
theorem own_nil (B : Nat) (w : World) : Own B w (.slice none 0 0) [] := World.ownsRow_nil _ _ _ _
theorem Own.below {B : Nat} {w w' : World} {v : Value} {l : List Nat} (h : Own B w v l) (hb : Below w.heap.size w w') : Own B w' v l := by
  rcases h.2 with ⟨hv, hn⟩ | ⟨g, cap, cur, hv, hg, hh, hc, hcm, hsz, ht⟩
  · exact ⟨h.1, .inl ⟨hv, hn⟩⟩
  · exact ⟨h.1, .inr ⟨g, cap, cur, hv, hg, Has.below (t := 5) (cs := cur) hh hb (Has.lt (t := 5) (cs := cur) hh), hc, hcm, hsz, ht⟩⟩
theorem own_full {B : Nat} {w : World} {v : Value} {l : List Nat} (h : Own B w v l) : ∃ A c, v = .slice A l.length c ∧ l.length ≤ c ∧ Rd w A l := by
  rcases h.2 with ⟨hv, hn⟩ | ⟨g, cap, cur, hv, _, hh, hc, _, _, ht⟩
  · obtain rfl := List.eq_nil_of_length_eq_zero hn
    exact ⟨none, 0, hv, Nat.le_refl _, Rd.nil _ _⟩
  · subst hv
    exact ⟨_, _, rfl, hc, Rd.of_has (t := 5) (cs := cur) hh fun i hi => by
      have h1 : (l.map bv)[i]? = some (bv l[i]) := by simp [hi]
      rw [← ht, List.getElem?_take, if_pos (by omega)] at h1
      simpa using h1⟩
/-- Its length under a letter; and what a conversion makes of it. -/
theorem own_conv {B : Nat} {w : World} {v : Value} {l : List Nat} (h : Own B w v l) : ∃ A n c, v = .slice A n c ∧ Hid (l.length = n) ∧ Sem.run Tryz.prog (convert 37 9 (.slice A n c)) w = .ok (.string (bs l)) w := by
  obtain ⟨A, c, e, _, hr⟩ := own_full h
  exact ⟨A, l.length, c, e, rfl, conv_len w A l _ c rfl hr⟩
/-- Blocks of other types are as they were. -/
def Kept (w w' : World) : Prop := ∀ (g : Nat) (t : TypeId) (cs : Array Value), t ≠ 5 → Has w g t cs → Has w' g t cs
theorem Kept.trans {a b c : World} (h : Kept a b) (k : Kept b c) : Kept a c := fun g t cs ht hh => k g t cs ht (h g t cs ht hh)
theorem Kept.below {a b : World} (h : Below a.heap.size a b) : Kept a b := fun _ _ _ _ hh => hh.below h hh.lt
/-- Bytes that lie in a new block are put behind a row of the call's own. -/
theorem app_at (w : World) (g : Nat) (hg0 : g = w.heap.size) (B : Nat) (v : Value) (l : List Nat) (ds : List Nat) (cs : Array Value) (hcs : cs = (ds.map bv).toArray) (m : Nat) (hm : ds.length = m) (h : Own B w v l) (hB : B ≤ w.heap.size) (hl : l.length + m ≤ 1000000) :
    ∃ R W', (Builtin.append_ #[37, 37] 37 #[v, .slice (some ⟨g, 0, none⟩) m m]).run Tryz.prog (w.alloc (.cells cs 5)) = .ok R W' ∧ Own B W' R (l ++ ds) ∧ Below B w W' ∧ Kept w W' := by
  subst hcs; subst hm; subst hg0
  obtain ⟨i0, hi, hz0, hz1, hz2⟩ := info_parts info5
  obtain ⟨R, W', hrun, hown, hg, _⟩ := run_append_own (P := Tryz.prog) (w.alloc (.cells (ds.map bv).toArray 5)) B 37 37 5 i0 (.int .u8 0) 1 1 Tryz.underlying37 hi hz0 hz1 hz2 rfl (by decide) v l.length (l.map bv) (h.alloc _)
    ⟨w.heap.size, 0, none⟩ ds.length ds.length (ds.map bv) (by simp) (fun j u hj => by
      have := (Has.new w 5 (ds.map bv).toArray).cell j
      rw [List.getElem?_toArray] at this
      rw [Addr.add_lit, Nat.zero_add]
      exact this.trans hj) (bv_one ds) (by unfold maxLen; omega) (by omega) (by simp; omega)
  refine ⟨R, W', hrun, ?_, ?_, ?_⟩
  · unfold Own; rw [List.map_append, List.length_append]; exact hown
  · exact ((Below.refl B w).alloc hB _).grown hg (by simp; omega) fun k hk => (World.ownsRow.lt h k hk).1
  · intro g t cs ht hh
    have hh2 := hh.alloc (.cells (ds.map bv).toArray 5)
    refine (hg.block g hh2.lt fun e => ?_).trans hh2
    rcases h.2 with ⟨hv, _⟩ | ⟨g', cap, cur, hv, _, hc, _⟩
    · rw [hv] at e; cases e
    · rw [hv] at e
      have e2 : g = g' := by simpa [Value.ownBlock] using e
      subst e2
      unfold Has at hh
      rw [hc] at hh
      simp at hh
      exact ht hh.2.symm
theorem app_new (w : World) (B : Nat) (v : Value) (l : List Nat) (ds : List Nat) (cs : Array Value) (hcs : cs = (ds.map bv).toArray) (m : Nat) (hm : ds.length = m) (h : Own B w v l) (hB : B ≤ w.heap.size) (hl : l.length + m ≤ 1000000) :
    ∃ R W', (Builtin.append_ #[37, 37] 37 #[v, .slice (some ⟨w.heap.size, 0, none⟩) m m]).run Tryz.prog (w.alloc (.cells cs 5)) = .ok R W' ∧ Own B W' R (l ++ ds) ∧ Below B w W' := by
  obtain ⟨R, W', h1, h2, h3, _⟩ := app_at w _ rfl B v l ds cs hcs m hm h hB hl
  exact ⟨R, W', h1, h2, h3⟩
/-- The bytes of a number, the highest one first. -/
def hi (n : Int) (size k : Nat) : List Nat := (List.range k).map fun i => (n / 2 ^ (8 * (size - 1 - i)) % 256).toNat
theorem hi_len (n : Int) (size k : Nat) : (hi n size k).length = k := by simp [hi]
/-- A text as it stands in a key, without its end. -/
def esc : List Nat → List Nat
  | [] => []
  | x :: t => if x = 0 then 0 :: 255 :: esc t else x :: esc t
theorem sb_get (s : ByteArray) (k : Nat) (h : k < s.size) : (sb s)[k]'(by rw [sb_length]; exact h) = (s[k]'h).toNat := by
  simp [sb]
  rfl
theorem sb_take_succ (s : ByteArray) (k : Nat) (h : k < s.size) : (sb s).take (k + 1) = (sb s).take k ++ [(s[k]'h).toNat] := by
  rw [List.take_succ_eq_append_getElem (by rw [sb_length]; exact h), sb_get s k h]
end Go.Proofs.YtlhfdhmmdnkojaaGreatDoor
namespace Go.Proofs.YtlhfdhmmdnkojaaGreatDoor
open Go.RowKit Dg
theorem xor_half (u : Nat) (h : u < 18446744073709551616) : u ^^^ 9223372036854775808 = (u + 9223372036854775808) % 18446744073709551616 := by
  have h1 := Nat.xor_mod_two_pow (a := u) (b := 9223372036854775808) (n := 63)
  have h2 := Nat.xor_div_two_pow (a := u) (b := 9223372036854775808) (n := 63)
  rw [show (2 : Nat) ^ 63 = 9223372036854775808 by decide] at h1 h2
  rw [show (9223372036854775808 : Nat) % 9223372036854775808 = 0 by decide, Nat.xor_zero] at h1
  rw [show (9223372036854775808 : Nat) / 9223372036854775808 = 1 by decide] at h2
  have h3 : u / 9223372036854775808 = 0 ∨ u / 9223372036854775808 = 1 := by omega
  rcases h3 with h3 | h3 <;> rw [h3] at h2
  · rw [show (0 : Nat) ^^^ 1 = 1 by decide] at h2; omega
  · rw [show (1 : Nat) ^^^ 1 = 0 by decide] at h2; omega
/-- A number with its highest bit changed. -/
def flip (n : Int) : Int := if n < 0 then n + 9223372036854775808 else n - 9223372036854775808
theorem flip_bits (n : Int) (h0 : -9223372036854775808 ≤ n) (h1 : n ≤ 9223372036854775807) : bits .xor .i64 n (-9223372036854775808) = flip n := by
  show IntKind.i64.wrap ((BitVec.ofInt 64 n ^^^ BitVec.ofInt 64 (-9223372036854775808)).toNat : Int) = _
  rw [BitVec.toNat_xor, show (BitVec.ofInt 64 (-9223372036854775808)).toNat = 9223372036854775808 by decide]
  have e : (BitVec.ofInt 64 n).toNat = (n % 18446744073709551616).toNat := by simp [BitVec.toNat_ofInt]
  rw [e, xor_half _ (by omega), IntKind.wrap_i64]
  unfold flip
  split <;> omega
/-- A value's key. -/
def keyV (k n : Int) (s : ByteArray) : List Nat :=
  if k = 1 then 1 :: hi n 1 1 else if k = 2 then 2 :: hi (n + 9223372036854775808) 8 8 else if k = 3 ∨ k = 4 then k.toNat :: (esc (sb s) ++ [0, 1]) else [(k % 256).toNat]
end Go.Proofs.YtlhfdhmmdnkojaaGreatDoor
namespace Go.Proofs.YtlhfdhmmdnkojaaGreatDoor
open Go.RowKit Dg
/-- A value. -/
structure Vl where
  k : Int
  n : Int
  s : ByteArray
def Vl.may (x : Vl) : Bool := mayF x.k x.n x.s
def Vl.key (x : Vl) : List Nat := keyV x.k x.n x.s
def Vl.val (x : Vl) : Value := .agg #[.int .i64 x.k, .int .i64 x.n, .string x.s]
def Vl.cells (x : Vl) : List Value := [.int .i64 x.k, .int .i64 x.n, .string x.s]
/-- Its number is one of 64 bits. -/
def Vl.fit (x : Vl) : Prop := -9223372036854775808 ≤ x.n ∧ x.n ≤ 9223372036854775807 ∧ x.s.size ≤ 140737488355328
/-- The cells at A read as the values L. -/
def VRow (w : World) (A : Option Addr) (L : List Vl) : Prop :=
  L ≠ [] → ∃ b off, A = some ⟨b, off, none⟩ ∧ ∀ i (h : i < L.length), w.cell? ⟨b, off + i * 3, none⟩ = some (.int .i64 L[i].k) ∧ w.cell? ⟨b, off + i * 3 + 1, none⟩ = some (.int .i64 L[i].n) ∧ w.cell? ⟨b, off + i * 3 + 2, none⟩ = some (.string L[i].s)
theorem VRow.below {w w' : World} {A : Option Addr} {L : List Vl} (h : VRow w A L) (hb : Below w.heap.size w w') : VRow w' A L := fun hl => by
  obtain ⟨b, off, e, hc⟩ := h hl
  refine ⟨b, off, e, fun i hi => ?_⟩
  obtain ⟨h0, h1, h2⟩ := hc i hi
  exact ⟨(hb.cell (World.block_lt_of_cell? w _ h0)).trans h0, (hb.cell (World.block_lt_of_cell? w _ h1)).trans h1, (hb.cell (World.block_lt_of_cell? w _ h2)).trans h2⟩
/-- The keys of values, one behind the other. -/
def keys (L : List Vl) : List Nat := L.flatMap Vl.key
end Go.Proofs.YtlhfdhmmdnkojaaGreatDoor
namespace Go.Proofs.YtlhfdhmmdnkojaaGreatDoor
open Go.RowKit Dg
/-- Both its numbers are ones of 64 bits. -/
def Vl.fits (x : Vl) : Prop := x.fit ∧ -9223372036854775808 ≤ x.k ∧ x.k ≤ 9223372036854775807
theorem infoV : (Tryz.prog.info? 113).map (fun i => (i.zero, i.size, i.bytes)) = some (some (.agg #[.int .i64 0, .int .i64 0, .string ⟨#[]⟩]), 3, 32) := by kernel_rfl
/-- Values in a row of the call's own. -/
def OwnV (B : Nat) (w : World) (v : Value) (L : List Vl) : Prop := w.ownsRow B 113 3 v L.length (L.flatMap Vl.cells)
theorem ownV_nil (B : Nat) (w : World) : OwnV B w (.slice none 0 0) [] := World.ownsRow_nil _ _ _ _
theorem OwnV.below {B : Nat} {w w' : World} {v : Value} {L : List Vl} (h : OwnV B w v L) (hb : Below w.heap.size w w') : OwnV B w' v L := by
  rcases h.2 with ⟨hv, hn⟩ | ⟨g, cap, cur, hv, hg, hh, hc, hcm, hsz, ht⟩
  · exact ⟨h.1, .inl ⟨hv, hn⟩⟩
  · exact ⟨h.1, .inr ⟨g, cap, cur, hv, hg, Has.below (t := 113) (cs := cur) hh hb (Has.lt (t := 113) (cs := cur) hh), hc, hcm, hsz, ht⟩⟩
theorem flat_len (L : List Vl) : (L.flatMap Vl.cells).length = L.length * 3 := by
  induction L with
  | nil => rfl
  | cons x L ih => rw [List.flatMap_cons, List.length_append, ih]; simp [Vl.cells]; omega
theorem flat_get (L : List Vl) (i j : Nat) (h : i < L.length) (hj : j < 3) : (L.flatMap Vl.cells)[i * 3 + j]? = L[i].cells[j]? := by
  induction L generalizing i with
  | nil => simp at h
  | cons x L ih =>
    rw [List.flatMap_cons]
    rcases i with _ | i
    · rw [List.getElem?_append_left (by simp [Vl.cells]; omega)]
      simp
    · rw [List.getElem?_append_right (by simp [Vl.cells]; omega)]
      have e : (i + 1) * 3 + j - x.cells.length = i * 3 + j := by simp [Vl.cells]; omega
      rw [e, ih i (by simpa using h)]
      simp
theorem ownV_row {B : Nat} {w : World} {v : Value} {L : List Vl} (h : OwnV B w v L) : ∃ A c, v = .slice A L.length c ∧ L.length ≤ c ∧ c ≤ maxLen ∧ VRow w A L ∧ (A = none → c = 0) := by
  rcases h.2 with ⟨hv, hn⟩ | ⟨g, cap, cur, hv, _, hh, hc, hcm, hsz, ht⟩
  · obtain rfl := List.eq_nil_of_length_eq_zero hn
    exact ⟨none, 0, hv, Nat.le_refl _, Nat.zero_le _, fun h => absurd rfl h, fun _ => rfl⟩
  · refine ⟨_, _, hv, hc, hcm, fun _ => ⟨g, 0, rfl, fun i hi => ?_⟩, fun e => by cases e⟩
    have hq : ∀ j, j < 3 → w.cell? ⟨g, 0 + (i * 3 + j), none⟩ = L[i].cells[j]? := fun j hj => by
      rw [Nat.zero_add, Has.cell (t := 113) (cs := cur) hh, ← flat_get L i j hi hj, ← ht, List.getElem?_take, if_pos (by omega)]
      simp
    have q0 := hq 0 (by omega)
    have q1 := hq 1 (by omega)
    have q2 := hq 2 (by omega)
    exact ⟨q0, q1, q2⟩
/-- One value is put behind a row of the call's own. -/
theorem appV (w : World) (g : Nat) (hg0 : g = w.heap.size) (B : Nat) (v : Value) (L : List Vl) (x : Vl) (h : OwnV B w v L) (hB : B ≤ w.heap.size) (hl : L.length ≤ 1000) :
    ∃ R W', (Builtin.append_ #[23, 23] 23 #[v, .slice (some ⟨g, 0, none⟩) 1 1]).run Tryz.prog (w.alloc (.cells #[.int .i64 x.k, .int .i64 x.n, .string x.s] 113)) = .ok R W' ∧ OwnV B W' R (L ++ [x]) ∧ Below B w W' := by
  subst hg0
  obtain ⟨i0, hi, hz0, hz1, hz2⟩ := info_parts infoV
  obtain ⟨R, W', hrun, hown, hg, _⟩ := run_append_own (P := Tryz.prog) (w.alloc (.cells x.cells.toArray 113)) B 23 23 113 i0 _ 3 32 Tryz.underlying23 hi hz0 hz1 hz2 rfl (by decide) v L.length (L.flatMap Vl.cells) (h.alloc _)
    ⟨w.heap.size, 0, none⟩ 1 1 x.cells rfl (fun j u hj => by
      have := (Has.new w 113 x.cells.toArray).cell j
      rw [List.getElem?_toArray] at this
      rw [Addr.add_lit, Nat.zero_add]
      exact this.trans hj) (fun u hu => by simp [Vl.cells] at hu; rcases hu with rfl | rfl | rfl <;> rfl) (by unfold maxLen; omega) (by omega) (by simp; omega)
  refine ⟨R, W', hrun, ?_, ?_⟩
  · unfold OwnV; rw [List.flatMap_append, List.length_append]; simpa using hown
  · exact ((Below.refl B w).alloc hB _).grown hg (by simp; omega) fun k hk => (World.ownsRow.lt h k hk).1
end Go.Proofs.YtlhfdhmmdnkojaaGreatDoor
namespace Go.Proofs.YtlhfdhmmdnkojaaGreatDoor
open Go.RowKit Dg
/-- A text and its end, gone through byte by byte. -/
def decS : Bool → List Nat → Nat → List Nat → Option (List Nat × Nat)
  | _, _, _, [] => none
  | false, acc, i, x :: t => if x = 0 then decS true acc (i + 1) t else decS false (acc ++ [x]) (i + 1) t
  | true, acc, i, x :: t => if x = 255 then decS false (acc ++ [0]) (i + 1) t else if x = 1 then some (acc, i + 1) else none
theorem dec_esc : ∀ (l acc : List Nat) (i : Nat) (r : List Nat), decS false acc i (esc l ++ ([0, 1] ++ r)) = some (acc ++ l, i + (esc l).length + 2)
  | [], acc, i, r => by simp [esc, decS]
  | x :: t, acc, i, r => by
    simp only [esc]
    split
    · rename_i h
      subst h
      have ih := dec_esc t (acc ++ [0]) (i + 2) r
      simp only [List.cons_append, decS, if_true]
      refine Eq.trans ih ?_
      simp
      omega
    · rename_i h
      have ih := dec_esc t (acc ++ [x]) (i + 1) r
      simp only [List.cons_append, decS, h, if_false]
      refine Eq.trans ih ?_
      simp
      omega
theorem dec_some : ∀ (m acc : List Nat) (i : Nat) (l : List Nat) (n : Nat),
    (decS false acc i m = some (l, n) → ∃ t r, l = acc ++ t ∧ m = esc t ++ ([0, 1] ++ r) ∧ n = i + (esc t).length + 2) ∧
    (decS true acc i m = some (l, n) → (∃ t r, l = acc ++ [0] ++ t ∧ m = 255 :: (esc t ++ ([0, 1] ++ r)) ∧ n = i + 1 + (esc t).length + 2) ∨ ∃ r, l = acc ∧ m = 1 :: r ∧ n = i + 1)
  | [], acc, i, l, n => ⟨fun h => by simp [decS] at h, fun h => by simp [decS] at h⟩
  | x :: m, acc, i, l, n => by
    constructor
    · intro h
      simp only [decS] at h
      split at h
      · rename_i hx
        subst hx
        rcases (dec_some m acc (i + 1) l n).2 h with ⟨t, r, h1, h2, h3⟩ | ⟨r, h1, h2, h3⟩
        · refine ⟨0 :: t, r, by rw [h1]; simp, by rw [h2]; simp [esc], by rw [h3]; simp [esc]; omega⟩
        · exact ⟨[], r, by rw [h1]; simp, by rw [h2]; simp [esc], by rw [h3]; simp [esc]⟩
      · rename_i hx
        obtain ⟨t, r, h1, h2, h3⟩ := (dec_some m (acc ++ [x]) (i + 1) l n).1 h
        exact ⟨x :: t, r, by rw [h1]; simp, by rw [h2]; simp [esc, hx], by rw [h3]; simp [esc, hx]; omega⟩
    · intro h
      simp only [decS] at h
      split at h
      · rename_i hx
        subst hx
        obtain ⟨t, r, h1, h2, h3⟩ := (dec_some m (acc ++ [0]) (i + 1) l n).1 h
        exact .inl ⟨t, r, h1, by rw [h2], h3⟩
      · split at h
        · rename_i hx
          subst hx
          simp only [Option.some.injEq, Prod.mk.injEq] at h
          exact .inr ⟨m, h.1.symm, rfl, h.2.symm⟩
        · cases h
theorem esc_mem : ∀ (t : List Nat) (x : Nat), x ∈ t → x ∈ esc t
  | y :: t, x, h => by
    simp only [esc]
    rcases List.mem_cons.1 h with rfl | h
    · split <;> simp_all
    · have := esc_mem t x h
      split <;> simp [this]
theorem esc_ge : ∀ t : List Nat, t.length ≤ (esc t).length
  | [] => by simp [esc]
  | x :: t => by
    have := esc_ge t
    simp only [esc]
    split <;> simp <;> omega
/-- The number whose bytes these are, the highest one first. -/
def beN (l : List Nat) : Nat := l.foldl (fun a b => a * 256 + b) 0
theorem be_snoc (l : List Nat) (x : Nat) : beN (l ++ [x]) = beN l * 256 + x := by
  unfold beN; rw [List.foldl_append]; rfl
/-- The last k digits of a number. -/
def hb : Nat → Nat → List Nat
  | _, 0 => []
  | m, k + 1 => hb (m / 256) k ++ [m % 256]
theorem hb_range (m k : Nat) : hb m k = (List.range k).map fun i => m / 256 ^ (k - 1 - i) % 256 := by
  induction k generalizing m with
  | zero => rfl
  | succ k ih =>
    rw [hb, ih, List.range_succ, List.map_append]
    congr 1
    · apply List.map_congr_left
      intro i hi
      have hi := List.mem_range.1 hi
      rw [Nat.div_div_eq_div_mul, ← Nat.pow_succ']
      rw [show (k - 1 - i).succ = k + 1 - 1 - i by omega]
    · simp
theorem hi_hb (m k : Nat) : hi (m : Int) k k = hb m k := by
  rw [hb_range]
  unfold hi
  apply List.map_congr_left
  intro i _
  rw [show ((m : Int) / 2 ^ (8 * (k - 1 - i)) % 256) = ((m / 2 ^ (8 * (k - 1 - i)) % 256 : Nat) : Int) by rw [Int.natCast_emod, Int.natCast_ediv, Int.natCast_pow]; rfl]
  rw [Int.toNat_natCast, Nat.pow_mul]
theorem be_hb (m k : Nat) : beN (hb m k) = m % 256 ^ k := by
  induction k generalizing m with
  | zero => simp [hb, beN, Nat.mod_one]
  | succ k ih =>
    rw [hb, be_snoc, ih, Nat.pow_succ', Nat.mod_mul]
    omega
theorem be_lt (l : List Nat) (h : ∀ x ∈ l, x < 256) : beN l < 256 ^ l.length := by
  rcases List.eq_nil_or_concat l with rfl | ⟨l', x, rfl⟩
  · simp [beN]
  · rw [List.concat_eq_append] at *
    have hx := h x (by simp)
    have ih := be_lt l' (fun y hy => h y (by simp [hy]))
    rw [be_snoc, List.length_append, List.length_singleton, Nat.pow_succ]
    omega
termination_by l.length
theorem hb_be (l : List Nat) (h : ∀ x ∈ l, x < 256) : hb (beN l) l.length = l := by
  rcases List.eq_nil_or_concat l with rfl | ⟨l', x, rfl⟩
  · rfl
  · rw [List.concat_eq_append] at *
    have hx := h x (by simp)
    have ih := hb_be l' (fun y hy => h y (by simp [hy]))
    rw [be_snoc, List.length_append, List.length_singleton, hb]
    rw [show (beN l' * 256 + x) / 256 = beN l' by omega, show (beN l' * 256 + x) % 256 = x by omega, ih]
termination_by l.length
theorem be_hi8 (m : Nat) (h1 : m < 18446744073709551616) : beN (hi (m : Int) 8 8) = m := by
  rw [hi_hb, be_hb, show (256 : Nat) ^ 8 = 18446744073709551616 by decide, Nat.mod_eq_of_lt h1]
theorem hi8_be (l : List Nat) (h : l.length = 8) (hb' : ∀ x ∈ l, x < 256) : hi (beN l : Int) 8 8 = l ∧ beN l < 18446744073709551616 := by
  have h1 := hb_be l hb'
  have h2 := be_lt l hb'
  rw [h] at h1 h2
  rw [show (256 : Nat) ^ 8 = 18446744073709551616 by decide] at h2
  exact ⟨by rw [hi_hb, h1], h2⟩
/-- What a key begins with: the value, and how many bytes; none, if it is none's. -/
def headR (k : Nat) (rest : List Nat) : Option (Vl × Nat) :=
  if k = 1 then (if rest.length < 1 then none else some (⟨1, beN (rest.take 1), ⟨#[]⟩⟩, 1))
  else if k = 2 then (if rest.length < 8 then none else some (⟨2, (beN (rest.take 8) : Int) - 9223372036854775808, ⟨#[]⟩⟩, 8))
  else if k = 3 ∨ k = 4 then (decS false [] 0 rest).map fun x => (⟨k, 0, bs x.1⟩, x.2)
  else some (⟨k, 0, ⟨#[]⟩⟩, 0)
def headF (l : List Nat) : Option (Vl × Nat) :=
  match l with
  | [] => none
  | k :: rest => match headR k rest with
    | none => none
    | some (v, n) => if v.may then some (v, n + 1) else none
theorem emptyB_eq {s : ByteArray} (h : s.toList.isEmpty = true) : s = ⟨#[]⟩ := by
  rw [ByteArray.toList_eq] at h
  obtain ⟨⟨l⟩⟩ := s
  simp at h
  subst h; rfl
/-- A value's key tells it, whatever stands behind it. -/
theorem head_key (v : Vl) (r : List Nat) (hm : v.may = true) (hf : v.fit) : headF (v.key ++ r) = some (v, v.key.length) := by
  obtain ⟨k, n, s⟩ := v
  obtain ⟨f0, f1, f2⟩ := hf
  simp only at f0 f1 f2
  have hm' : mayF k n s = true := hm
  unfold Vl.key
  simp only
  unfold mayF at hm'
  repeat' split at hm'
  · rename_i h; subst h
    simp only [Bool.and_eq_true, beq_iff_eq] at hm'
    obtain ⟨rfl, he⟩ := hm'
    obtain rfl := emptyB_eq he
    have : keyV 0 0 ⟨#[]⟩ = [0] := rfl
    rw [this]
    have hh : headR 0 r = some (⟨0, 0, ⟨#[]⟩⟩, 0) := by simp [headR]
    simp only [List.singleton_append, headF, hh]
    rw [if_pos hm]; rfl
  · rename_i h; subst h
    simp only [Bool.and_eq_true, Bool.or_eq_true, beq_iff_eq] at hm'
    obtain ⟨he, hn⟩ := hm'
    obtain rfl := emptyB_eq he
    have hk : keyV 1 n ⟨#[]⟩ = [1, n.toNat] := by
      rcases hn with rfl | rfl <;> decide
    rw [hk]
    have hh : headR 1 (n.toNat :: r) = some (⟨1, n, ⟨#[]⟩⟩, 1) := by
      rcases hn with rfl | rfl <;> simp [headR, beN]
    simp only [List.cons_append, List.nil_append, headF, hh]
    rw [if_pos hm]; rfl
  · rename_i h; subst h
    obtain rfl := emptyB_eq hm'
    have hk : keyV 2 n ⟨#[]⟩ = 2 :: hi (n + 9223372036854775808) 8 8 := rfl
    rw [hk]
    obtain ⟨m, hmm⟩ : ∃ m : Nat, (m : Int) = n + 9223372036854775808 := ⟨(n + 9223372036854775808).toNat, by omega⟩
    rw [← hmm]
    have hh : headR 2 (hi (m : Int) 8 8 ++ r) = some (⟨2, n, ⟨#[]⟩⟩, 8) := by
      unfold headR
      rw [if_neg (by omega), if_pos rfl, if_neg (by rw [List.length_append, hi_len]; omega)]
      rw [List.take_append_of_le_length (by rw [hi_len]; omega), List.take_of_length_le (by rw [hi_len]; omega), be_hi8 m (by omega), hmm]
      simp
    simp only [List.cons_append, headF, hh]
    rw [if_pos hm]; simp [hi_len]
  · rename_i h; subst h
    simp only [Bool.and_eq_true] at hm'
    obtain rfl : n = 0 := by
      have := hm'.1
      unfold short at this
      simp at this
      exact this.1
    have hk : keyV 3 0 s = 3 :: (esc (sb s) ++ [0, 1]) := rfl
    rw [hk]
    have hh : headR 3 (esc (sb s) ++ [0, 1] ++ r) = some (⟨3, 0, s⟩, (esc (sb s)).length + 2) := by
      unfold headR
      rw [if_neg (by omega), if_neg (by omega), if_pos (.inl rfl), List.append_assoc, dec_esc]
      simp [bs_sb]
    simp only [List.cons_append, headF, hh]
    rw [if_pos hm]; simp
  · rename_i h; subst h
    obtain rfl : n = 0 := by
      unfold short at hm'
      simp at hm'
      exact hm'.1
    have hk : keyV 4 0 s = 4 :: (esc (sb s) ++ [0, 1]) := rfl
    rw [hk]
    have hh : headR 4 (esc (sb s) ++ [0, 1] ++ r) = some (⟨4, 0, s⟩, (esc (sb s)).length + 2) := by
      unfold headR
      rw [if_neg (by omega), if_neg (by omega), if_pos (.inr rfl), List.append_assoc, dec_esc]
      simp [bs_sb]
    simp only [List.cons_append, headF, hh]
    rw [if_pos hm]; simp
  · cases hm'
theorem key_unique {v v' : Vl} {r r' : List Nat} (hm : v.may = true) (hf : v.fit) (hm' : v'.may = true) (hf' : v'.fit) (h : v.key ++ r = v'.key ++ r') : v = v' ∧ r = r' := by
  have h1 := head_key v r hm hf
  have h2 := head_key v' r' hm' hf'
  rw [h, h2] at h1
  simp only [Option.some.injEq, Prod.mk.injEq] at h1
  obtain ⟨rfl, _⟩ := h1
  exact ⟨rfl, List.append_cancel_left h⟩
theorem key_ne (v : Vl) : v.key ≠ [] := by
  unfold Vl.key keyV
  repeat' split
  all_goals simp
theorem may_kind' {v : Vl} (h : v.may = true) : v.k = 0 ∨ v.k = 1 ∨ v.k = 2 ∨ v.k = 3 ∨ v.k = 4 := by
  unfold Vl.may mayF at h
  repeat' split at h
  all_goals first | (simp; omega) | omega | cases h
/-- What is told of a key's beginning stands there. -/
theorem head_some (l : List Nat) (hb' : ∀ x ∈ l, x < 256) (hl : l.length ≤ 100000) (v : Vl) (n : Nat) (h : headF l = some (v, n)) : v.may = true ∧ v.fits ∧ ∃ r, l = v.key ++ r ∧ n = v.key.length := by
  rcases l with _ | ⟨k, rest⟩
  · simp [headF] at h
  have hk := hb' k (by simp)
  have hrest : ∀ x ∈ rest, x < 256 := fun x hx => hb' x (by simp [hx])
  simp only [headF] at h
  cases hh : headR k rest with
  | none => rw [hh] at h; simp at h
  | some p =>
    obtain ⟨u, m⟩ := p
    rw [hh] at h
    simp only at h
    split at h
    · rename_i hmay
      simp only [Option.some.injEq, Prod.mk.injEq] at h
      obtain ⟨rfl, rfl⟩ := h
      refine ⟨hmay, ?_⟩
      unfold headR at hh
      split at hh
      · rename_i e; subst e
        split at hh
        · cases hh
        · simp only [Option.some.injEq, Prod.mk.injEq] at hh
          obtain ⟨rfl, rfl⟩ := hh
          rcases rest with _ | ⟨x, r⟩
          · simp at *
          · have hx := hrest x (by simp)
            refine ⟨⟨⟨by simp, by simp [beN]; omega, by simp [ByteArray.size]⟩, by simp, by simp⟩, r, ?_, ?_⟩
            · simp [Vl.key, keyV, hi, beN]; omega
            · simp [Vl.key, keyV, hi_len]
      · split at hh
        · rename_i e; subst e
          split at hh
          · cases hh
          · rename_i hlen
            simp only [Option.some.injEq, Prod.mk.injEq] at hh
            obtain ⟨rfl, rfl⟩ := hh
            obtain ⟨h1, h2⟩ := hi8_be (rest.take 8) (by rw [List.length_take]; omega) (fun x hx => hrest x (List.mem_of_mem_take hx))
            refine ⟨⟨⟨by simp only; omega, by simp only; omega, by simp [ByteArray.size]⟩, by simp, by simp⟩, rest.drop 8, ?_, ?_⟩
            · simp only [Vl.key, keyV]
              simp
              rw [h1, List.take_append_drop]
            · simp [Vl.key, keyV, hi_len]
        · split at hh
          · rename_i e
            cases hd : decS false [] 0 rest with
            | none => rw [hd] at hh; cases hh
            | some q =>
              obtain ⟨t, m'⟩ := q
              rw [hd] at hh
              simp only [Option.map_some, Option.some.injEq, Prod.mk.injEq] at hh
              obtain ⟨rfl, rfl⟩ := hh
              obtain ⟨t', r, h1, h2, h3⟩ := (dec_some rest [] 0 t m').1 hd
              simp only [List.nil_append] at h1
              subst h1
              have hbt : ∀ x ∈ t, x < 256 := fun x hx => hrest x (by rw [h2]; exact List.mem_append_left _ (esc_mem t x hx))
              have hlt : t.length ≤ 100000 := by
                have := esc_ge t
                have h4 := congrArg List.length h2
                rw [List.length_append] at h4
                simp at hl
                omega
              have hs := sb_bs t hbt
              refine ⟨⟨⟨by simp, by simp, by simp only; rw [bs_size]; omega⟩, by simp only; omega, by simp only; omega⟩, r, ?_, ?_⟩
              · rcases e with rfl | rfl
                · simp only [Vl.key, keyV]; simp [hs, h2]
                · simp only [Vl.key, keyV]; simp [hs, h2]
              · rcases e with rfl | rfl
                · simp only [Vl.key, keyV]; simp [hs, h3]
                · simp only [Vl.key, keyV]; simp [hs, h3]
          · simp only [Option.some.injEq, Prod.mk.injEq] at hh
            obtain ⟨rfl, rfl⟩ := hh
            rename_i n1 n2 n3
            have : k = 0 := by
              have h := may_kind' hmay
              simp only at h
              omega
            subst this
            exact ⟨⟨⟨by simp, by simp, by simp [ByteArray.size]⟩, by simp, by simp⟩, rest, rfl, rfl⟩
    · cases h
end Go.Proofs.YtlhfdhmmdnkojaaGreatDoor
namespace Go.Proofs.YtlhfdhmmdnkojaaGreatDoor
open Go.RowKit Dg
def textR : Option (List Nat × Nat) → Value
  | none => .tuple #[.string ⟨#[]⟩, .int .i64 0, .bool false]
  | some x => .tuple #[.string (bs x.1), .int .i64 (x.2 : Int), .bool true]
theorem sb_drop (s : ByteArray) (k : Nat) (h : k < s.size) : (sb s).drop k = (s[k]'h).toNat :: (sb s).drop (k + 1) := by
  rw [List.drop_eq_getElem_cons (by rw [sb_length]; exact h), sb_get s k h]
set_option maxHeartbeats 2000000 in
set_option maxRecDepth 100000 in
theorem text_any (s : ByteArray) (w : World) (hs : s.size ≤ 100000) (R : Option (List Nat × Nat)) (hR : decS false [] 0 (sb s) = R) :
    Calls Tryz.prog 211 #[.string s] w fun e w' => e = .returned (textR R) ∧ Hid (Below w.heap.size w w') := by
  have HR := Lib.hid hR
  clear hR
  go_enter Tryz.func211, Tryz.ntmps211
  go_wp2_with fail
  go_loopw [5, 6, 11] (fun x z i wr => ∃ (k : Nat) (u : Value) (bz : Bool) (acc : List Nat), k ≤ s.size ∧ i = .int .i64 k ∧ u = x ∧ z = .bool bz ∧ acc.length ≤ k ∧ Hid (decS bz acc k ((sb s).drop k) = R) ∧ Hid (Own w.heap.size wr u acc) ∧ Hid (Below w.heap.size w wr)) (fun _ _ i _ => s.size - (intOf i).toNat)
  case atStart => exact ⟨0, _, false, [], by omega, rfl, rfl, rfl, by simp, HR, own_nil _ _, Below.refl _ _⟩
  case round =>
    obtain ⟨k, u, bz, acc, hk, rfl, rfl, rfl, hac, HD, HO, HB⟩ := hrel
    by_cases hlt : k < s.size
    · have HS := Lib.hid (sb_drop s k hlt)
      have hb := s[k].toNat_lt
      cases bz
      · by_cases hz : s[k].toNat = 0
        · have HD2 : Hid (decS true acc (k + 1) ((sb s).drop (k + 1)) = R) := by
            show _ = _
            rw [← HD.out, HS.out]; simp [decS, hz]
          have hzz : ((s[k].toNat : Int) == 0) = true := by rw [hz]; rfl
          clear HD HS
          go_wp2_with fail
          go_roundw
          case rel => exact ⟨k + 1, u, true, acc, by omega, by go_num, rfl, rfl, by omega, HD2, HO, HB⟩
          case measure => simp [intOf]; omega
        · have HD2 : Hid (decS false (acc ++ [s[k].toNat]) (k + 1) ((sb s).drop (k + 1)) = R) := by
            show _ = _
            rw [← HD.out, HS.out]; simp [decS, hz]
          have hzz : ((s[k].toNat : Int) == 0) = false := by simp; omega
          have HA := Lib.hid (app_new wr w.heap.size u acc [s[k].toNat] #[.int .u8 s[k].toNat] (by simp [bv]) 1 rfl HO.out HB.out.size (by omega))
          clear HD HS
          go_wp2_with (at_builtin; refine wpList_app rfl _ _ 37 37 rfl u (.slice (some ⟨wr.heap.size, 0, none⟩) 1 1) rfl rfl ?_; obtain ⟨R2, W', hrun, hmade⟩ := HA.out; refine ⟨R2, W', hrun, ?_⟩; have HM := Lib.hid hmade; clear hrun hmade HA)
          go_roundw
          case rel => exact ⟨k + 1, R2, false, _, by omega, by go_num, rfl, rfl, by simp; omega, HD2, HM.out.1, HB.out.trans HM.out.2⟩
          case measure => simp [intOf]; omega
      · by_cases h255 : s[k].toNat = 255
        · have HD2 : Hid (decS false (acc ++ [0]) (k + 1) ((sb s).drop (k + 1)) = R) := by
            show _ = _
            rw [← HD.out, HS.out]; simp [decS, h255]
          have hzz : ((s[k].toNat : Int) == 255) = true := by rw [h255]; rfl
          have HA := Lib.hid (app_new wr w.heap.size u acc [0] #[.int .u8 0] rfl 1 rfl HO.out HB.out.size (by omega))
          clear HD HS
          go_wp2_with (at_builtin; refine wpList_app rfl _ _ 37 37 rfl u (.slice (some ⟨wr.heap.size, 0, none⟩) 1 1) rfl rfl ?_; obtain ⟨R2, W', hrun, hmade⟩ := HA.out; refine ⟨R2, W', hrun, ?_⟩; have HM := Lib.hid hmade; clear hrun hmade HA)
          go_roundw
          case rel => exact ⟨k + 1, R2, false, _, by omega, by go_num, rfl, rfl, by simp; omega, HD2, HM.out.1, HB.out.trans HM.out.2⟩
          case measure => simp [intOf]; omega
        · have hzz : ((s[k].toNat : Int) == 255) = false := by simp; omega
          by_cases h1 : s[k].toNat = 1
          · have HD2 : Hid (R = some (acc, k + 1)) := by
              show _ = _
              rw [← HD.out, HS.out]; simp [decS, h1]
            have hzy : ((s[k].toNat : Int) == 1) = true := by rw [h1]; rfl
            clear HD HS
            obtain ⟨A1, n1, c1, rfl, HL1, hconv⟩ := own_conv HO.out
            go_wp2_with fail
            go_ret3
            exact ⟨by rw [HD2.out]; rfl, HB⟩
          · have HD2 : Hid (R = none) := by
              show _ = _
              rw [← HD.out, HS.out]; simp [decS, h1, h255]
            have hzy : ((s[k].toNat : Int) == 1) = false := by simp; omega
            clear HD HS
            go_wp2_with fail
            go_ret3
            exact ⟨by rw [HD2.out]; rfl, HB⟩
    · obtain rfl : k = s.size := by omega
      have HD2 : Hid (R = none) := by
        show _ = _
        rw [← HD.out, List.drop_eq_nil_of_le (by rw [sb_length]; exact Nat.le_refl _)]
        cases bz <;> rfl
      go_wp2_with fail
      go_ret3
      exact ⟨by rw [HD2.out]; rfl, HB⟩
/-- A number of 64 bits, with its sign. -/
def sg (m : Nat) : Int := if m < 9223372036854775808 then m else (m : Int) - 18446744073709551616
theorem be_take_succ (s : ByteArray) (k : Nat) (h : k < s.size) : beN ((sb s).take (k + 1)) = beN ((sb s).take k) * 256 + (s[k]'h).toNat := by
  rw [sb_take_succ s k h, be_snoc]
theorem or_shl (m b : Nat) (hm : m < 72057594037927936) (hb : b < 256) : bits .or .i64 (wrap64 ((m : Int) * 256)) (b : Int) = sg (m * 256 + b) := by
  show IntKind.i64.wrap ((BitVec.ofInt 64 (wrap64 ((m : Int) * 256)) ||| BitVec.ofInt 64 (b : Int)).toNat : Int) = _
  have e1 : (BitVec.ofInt 64 (wrap64 ((m : Int) * 256))).toNat = m * 256 := by
    rw [BitVec.toNat_ofInt]
    unfold wrap64
    omega
  have e2 : (BitVec.ofInt 64 (b : Int)).toNat = b := ofInt_u64 b (by omega)
  have e3 : m * 256 ||| b = m * 256 + b := by
    have h := Nat.two_pow_add_eq_or_of_lt (i := 8) (b := b) (by omega) m
    rw [show (2 : Nat) ^ 8 * m = m * 256 by omega] at h
    exact h.symm
  rw [BitVec.toNat_or, e1, e2, e3, IntKind.wrap_i64]
  unfold sg
  split <;> omega
set_option maxHeartbeats 2000000 in
set_option maxRecDepth 100000 in
theorem number_any (s : ByteArray) (size : Nat) (w : World) (hs : s.size ≤ 100000) (h1 : 1 ≤ size) (h8 : size ≤ 8) :
    Calls Tryz.prog 210 #[.string s, .int .i64 size] w fun e w' => e = .returned (if s.size < size then .tuple #[.int .i64 0, .int .i64 0, .bool false] else .tuple #[.int .i64 (sg (beN ((sb s).take size))), .int .i64 size, .bool true]) ∧ w = w' := by
  by_cases hlt : s.size < size
  · rw [if_pos hlt]
    go_enter Tryz.func210, Tryz.ntmps210
    go_wp2_with fail
    go_ret3
    exact ⟨rfl, rfl⟩
  · rw [if_neg hlt]
    have hge : size ≤ s.size := by omega
    go_enter Tryz.func210, Tryz.ntmps210
    go_wp2_with fail
    go_loop [7, 14] (fun x i => ∃ k : Nat, k ≤ size ∧ i = .int .i64 k ∧ x = .int .i64 (sg (beN ((sb s).take k)))) (fun _ i => size - (intOf i).toNat)
    case atStart => exact ⟨0, by omega, rfl, rfl⟩
    case round =>
      obtain ⟨k, hk, rfl, rfl⟩ := hrel
      by_cases hks : k < size
      · have hkz : k < s.size := by omega
        have HS := Lib.hid (be_take_succ s k hkz)
        have hm : beN ((sb s).take k) < 72057594037927936 := by
          have h := be_lt ((sb s).take k) (fun x hx => sb_byte s x (List.mem_of_mem_take hx))
          have e : ((sb s).take k).length = k := by rw [List.length_take, sb_length]; omega
          rw [e] at h
          exact Nat.lt_of_lt_of_le h (by rw [show (72057594037927936 : Nat) = 256 ^ 7 by decide]; exact Nat.pow_le_pow_right (by omega) (by omega))
        generalize beN ((sb s).take k) = m at *
        have HG : Hid (sg m = (m : Int)) := by show _ = _; unfold sg; rw [if_pos (by omega)]
        have hb := s[k].toNat_lt
        have HO := Lib.hid (or_shl m s[k].toNat hm hb)
        rw [HG.out]
        go_wp2_with fail
        go_round
        case rel => exact ⟨k + 1, by omega, by go_num, by rw [HO.out, HS.out]⟩
        case measure => simp [intOf]; omega
      · obtain rfl : k = size := by omega
        go_wp2_with fail
        go_ret3
        exact ⟨rfl, rfl⟩
end Go.Proofs.YtlhfdhmmdnkojaaGreatDoor
namespace Go.Proofs.YtlhfdhmmdnkojaaGreatDoor
open Go.RowKit Dg
def headV : Option (Vl × Nat) → Value
  | none => .tuple #[Vl.val ⟨0, 0, ⟨#[]⟩⟩, .int .i64 0]
  | some x => .tuple #[x.1.val, .int .i64 (x.2 : Int)]
theorem sb_ext (s : ByteArray) (k : Nat) : sb (s.extract k s.size) = (sb s).drop k := by
  simp only [sb, Lib.ext_list, List.map_drop]
theorem headEnd (w' : World) (g : Nat) (c0 c1 c2 : Value) (tmps : Array Value) (hp : tmps.getD 2 undef = .pointer (some ⟨g, 0, none⟩)) (hh : Has w' g 113 #[c0, c1, c2]) :
    (results Tryz.f209 tmps).run Tryz.prog w' = .ok (.tuple #[.agg #[c0, c1, c2], tmps.getD 3 undef]) w' := by
  rw [results_cell_tmp (p := 2) (u := 3) (ty := 113) rfl, hp]
  simp only [asAddr, Sem.run_pure, Result.andThen_ok]
  rw [run_loadVar_row w' g 113 113 #[c0, c1, c2] (0, 0) _ hh Tryz.underlying113 rfl (by kernel_rfl)]
  rfl
set_option maxHeartbeats 4000000 in
set_option maxRecDepth 100000 in
theorem head_any (s : ByteArray) (w : World) (h0 : 0 < s.size) (hs : s.size ≤ 100000) (hT : Tabs w) :
    Calls Tryz.prog 209 #[.string s] w fun e w' => e = .returned (headV (headF (sb s))) ∧ Hid (Below w.heap.size w w') := by
  have hz : (0 : Int) < (s.size : Int) := by omega
  have hb := s[0].toNat_lt
  have HF : Hid (headF (sb s) = match headR s[0].toNat (sb (s.extract 1 s.size)) with | none => none | some (v, n) => if v.may then some (v, n + 1) else none) := by
    show _ = _
    have h := sb_drop s 0 h0
    rw [List.drop_zero] at h
    rw [sb_ext, h]; rfl
  have hes : (s.extract 1 s.size).size = s.size - 1 := by simp
  have HT := Lib.hid hT
  clear hT
  obtain ⟨r, hr⟩ : ∃ r, r = s.extract 1 s.size := ⟨_, rfl⟩
  have HR : Hid (s.extract 1 s.size = r) := hr.symm
  rw [← hr] at HF hes
  clear hr
  have hrs : r.size ≤ 100000 := by omega
  clear hes
  by_cases k1 : s[0].toNat = 1
  · rw [k1] at HF
    have HR' := HR.out
    by_cases hl : r.size < 1
    · have HN := Lib.hid (fun w => number_any r 1 w hrs (by omega) (by omega))
      rw [if_pos hl] at HN
      have HX : Hid (headF (sb s) = none) := by
        show _ = _
        rw [HF.out]
        have : headR 1 (sb r) = none := by unfold headR; simp [sb_length, hl]
        rw [this]
      go_enter Tryz.func209, Tryz.ntmps209
      go_wp2_with fail
      go_region
      all_goals
        clear HR'
        go_wp2_with fail
        refine (HN.out _).mono ?_
        rintro e w1 ⟨rfl, rfl⟩
        go_wp2_with fail
        exact bodyPost_ret (headEnd _ w.heap.size _ _ _ _ rfl ((Has.new w _ _).alloc _).drew) rfl ⟨by rw [HX.out]; rfl, (((Below.refl _ w).alloc (Nat.le_refl _) _).alloc (by simp) _).drew⟩
    · have HN := Lib.hid (fun w => number_any r 1 w hrs (by omega) (by omega))
      rw [if_neg hl] at HN
      have HSG : Hid (sg (beN ((sb r).take 1)) = (beN ((sb r).take 1) : Int)) := by
        have h := be_lt ((sb r).take 1) (fun x hx => sb_byte r x (List.mem_of_mem_take hx))
        have e : ((sb r).take 1).length = 1 := by rw [List.length_take, sb_length]; omega
        rw [e] at h
        show _ = _; unfold sg; rw [if_pos (by omega)]
      rw [HSG.out] at HN
      clear HSG
      go_enter Tryz.func209, Tryz.ntmps209
      go_wp2_with fail
      go_region
      all_goals
        clear HR'
        go_wp2_with fail
        refine (HN.out _).mono ?_
        rintro e w1 ⟨rfl, rfl⟩
        go_wp2_with fail
        have HH1 : Hid (Has (((w.alloc (.cells #[.int .i64 0, .int .i64 0, .string ⟨#[]⟩] 113)).alloc (.cells #[.int .i64 1, .int .i64 (beN ((sb r).take 1) : Int), .string ⟨#[]⟩] 113)).drew) w.heap.size 113 #[.int .i64 0, .int .i64 0, .string ⟨#[]⟩]) := ((Has.new w _ _).alloc _).drew
        have HH2 : Hid (Has (((w.alloc (.cells #[.int .i64 0, .int .i64 0, .string ⟨#[]⟩] 113)).alloc (.cells #[.int .i64 1, .int .i64 (beN ((sb r).take 1) : Int), .string ⟨#[]⟩] 113)).drew) (w.heap.size + 1) 113 #[.int .i64 1, .int .i64 (beN ((sb r).take 1) : Int), .string ⟨#[]⟩]) := (by have h := Has.new (w.alloc (.cells #[.int .i64 0, .int .i64 0, .string ⟨#[]⟩] 113)) 113 #[.int .i64 1, .int .i64 (beN ((sb r).take 1) : Int), .string ⟨#[]⟩]; rw [show (w.alloc (.cells #[.int .i64 0, .int .i64 0, .string ⟨#[]⟩] 113)).heap.size = w.heap.size + 1 by simp] at h; exact h.drew)
        have HB1 : Hid (Below w.heap.size w (((w.alloc (.cells #[.int .i64 0, .int .i64 0, .string ⟨#[]⟩] 113)).alloc (.cells #[.int .i64 1, .int .i64 (beN ((sb r).take 1) : Int), .string ⟨#[]⟩] 113)).drew)) := (((Below.refl _ w).alloc (Nat.le_refl _) _).alloc (by simp) _).drew
        have HHR : Hid (headR 1 (sb r) = some (⟨1, (beN ((sb r).take 1) : Int), ⟨#[]⟩⟩, 1)) := by show _ = _; unfold headR; rw [if_pos rfl, if_neg (by rw [sb_length]; exact hl)]
        refine (may_any 1 ((beN ((sb r).take 1) : Int)) (⟨#[]⟩) _ (by simp [ByteArray.size]) (HT.out.below HB1.out)).mono ?_
        rintro e w2 ⟨rfl, hb2⟩
        have HB2 := Lib.hid (HB1.out.trans (hb2.out.mono HB1.out.size))
        have HG1 := Lib.hid (HH1.out.below hb2.out HH1.out.lt)
        have HG2 := Lib.hid (HH2.out.below hb2.out HH2.out.lt)
        have d0 := HG2.out.cell 0
        have d1 := HG2.out.cell 1
        have d2 := HG2.out.cell 2
        simp at d0 d1 d2
        clear hb2 HH1 HH2 HB1
        cases hm : mayF 1 ((beN ((sb r).take 1) : Int)) (⟨#[]⟩)
        · have HX : Hid (headF (sb s) = none) := by
            show _ = _
            rw [HF.out, HHR.out]
            simp only [Vl.may, hm]
            rfl
          have c0 := HG1.out.cell 0
          have c1 := HG1.out.cell 1
          have c2 := HG1.out.cell 2
          have e0 := HG1.out.free 0
          have e1 := HG1.out.free 1
          have e2 := HG1.out.free 2
          simp at c0 c1 c2
          have HP := Lib.hid (((HG1.out.put 0 (.int .i64 0)).put 1 (.int .i64 0)).put 2 (.string ⟨#[]⟩))
          go_wp2_with fail
          exact bodyPost_ret (headEnd _ w.heap.size _ _ _ _ rfl HP.out) rfl ⟨by rw [HX.out]; rfl, (((HB2.out).setCell (by simp) _).setCell (by simp) _).setCell (by simp) _⟩
        · have HX : Hid (headF (sb s) = some (⟨1, (beN ((sb r).take 1) : Int), ⟨#[]⟩⟩, 1 + 1)) := by
            show _ = _
            rw [HF.out, HHR.out]
            simp only [Vl.may, hm]
            rfl
          have c0 := HG1.out.cell 0
          have c1 := HG1.out.cell 1
          have c2 := HG1.out.cell 2
          have e0 := HG1.out.free 0
          have e1 := HG1.out.free 1
          have e2 := HG1.out.free 2
          simp at c0 c1 c2
          have HP := Lib.hid (((HG1.out.put 0 (.int .i64 1)).put 1 (.int .i64 (beN ((sb r).take 1) : Int))).put 2 (.string ⟨#[]⟩))
          go_wp2_with fail
          exact bodyPost_ret (headEnd _ w.heap.size _ _ _ _ rfl HP.out) rfl ⟨by rw [HX.out]; first | rfl | (simp [headV, Vl.val]; omega), (((HB2.out).setCell (by simp) _).setCell (by simp) _).setCell (by simp) _⟩
  by_cases k2 : s[0].toNat = 2
  · rw [k2] at HF
    have HR' := HR.out
    by_cases hl : r.size < 8
    · have HN := Lib.hid (fun w => number_any r 8 w hrs (by omega) (by omega))
      rw [if_pos hl] at HN
      have HX : Hid (headF (sb s) = none) := by
        show _ = _
        rw [HF.out]
        have : headR 2 (sb r) = none := by unfold headR; simp [sb_length, hl]
        rw [this]
      go_enter Tryz.func209, Tryz.ntmps209
      go_wp2_with fail
      go_region
      all_goals
        clear HR'
        go_wp2_with fail
        refine (HN.out _).mono ?_
        rintro e w1 ⟨rfl, rfl⟩
        go_wp2_with fail
        exact bodyPost_ret (headEnd _ w.heap.size _ _ _ _ rfl ((Has.new w _ _).alloc _).drew) rfl ⟨by rw [HX.out]; rfl, (((Below.refl _ w).alloc (Nat.le_refl _) _).alloc (by simp) _).drew⟩
    · have HN := Lib.hid (fun w => number_any r 8 w hrs (by omega) (by omega))
      rw [if_neg hl] at HN
      have HSG : Hid (bits .xor .i64 (sg (beN ((sb r).take 8))) (-9223372036854775808) = (beN ((sb r).take 8) : Int) - 9223372036854775808) := by
        have h := be_lt ((sb r).take 8) (fun x hx => sb_byte r x (List.mem_of_mem_take hx))
        have e : ((sb r).take 8).length = 8 := by rw [List.length_take, sb_length]; omega
        rw [e] at h
        generalize beN ((sb r).take 8) = m at *
        have h2 : m < 18446744073709551616 := by rw [show (18446744073709551616 : Nat) = 256 ^ 8 by decide]; exact h
        show _ = _
        rw [flip_bits _ (by unfold sg; split <;> omega) (by unfold sg; split <;> omega)]
        unfold flip sg
        split <;> split <;> omega
      go_enter Tryz.func209, Tryz.ntmps209
      go_wp2_with fail
      go_region
      all_goals
        clear HR'
        go_wp2_with fail
        refine (HN.out _).mono ?_
        rintro e w1 ⟨rfl, rfl⟩
        go_wp2_with fail
        rw [HSG.out]
        have HH1 : Hid (Has (((w.alloc (.cells #[.int .i64 0, .int .i64 0, .string ⟨#[]⟩] 113)).alloc (.cells #[.int .i64 2, .int .i64 ((beN ((sb r).take 8) : Int) - 9223372036854775808), .string ⟨#[]⟩] 113)).drew) w.heap.size 113 #[.int .i64 0, .int .i64 0, .string ⟨#[]⟩]) := ((Has.new w _ _).alloc _).drew
        have HH2 : Hid (Has (((w.alloc (.cells #[.int .i64 0, .int .i64 0, .string ⟨#[]⟩] 113)).alloc (.cells #[.int .i64 2, .int .i64 ((beN ((sb r).take 8) : Int) - 9223372036854775808), .string ⟨#[]⟩] 113)).drew) (w.heap.size + 1) 113 #[.int .i64 2, .int .i64 ((beN ((sb r).take 8) : Int) - 9223372036854775808), .string ⟨#[]⟩]) := (by have h := Has.new (w.alloc (.cells #[.int .i64 0, .int .i64 0, .string ⟨#[]⟩] 113)) 113 #[.int .i64 2, .int .i64 ((beN ((sb r).take 8) : Int) - 9223372036854775808), .string ⟨#[]⟩]; rw [show (w.alloc (.cells #[.int .i64 0, .int .i64 0, .string ⟨#[]⟩] 113)).heap.size = w.heap.size + 1 by simp] at h; exact h.drew)
        have HB1 : Hid (Below w.heap.size w (((w.alloc (.cells #[.int .i64 0, .int .i64 0, .string ⟨#[]⟩] 113)).alloc (.cells #[.int .i64 2, .int .i64 ((beN ((sb r).take 8) : Int) - 9223372036854775808), .string ⟨#[]⟩] 113)).drew)) := (((Below.refl _ w).alloc (Nat.le_refl _) _).alloc (by simp) _).drew
        have HHR : Hid (headR 2 (sb r) = some (⟨2, ((beN ((sb r).take 8) : Int) - 9223372036854775808), ⟨#[]⟩⟩, 8)) := by show _ = _; unfold headR; rw [if_neg (by omega), if_pos rfl, if_neg (by rw [sb_length]; exact hl)]
        refine (may_any 2 (((beN ((sb r).take 8) : Int) - 9223372036854775808)) (⟨#[]⟩) _ (by simp [ByteArray.size]) (HT.out.below HB1.out)).mono ?_
        rintro e w2 ⟨rfl, hb2⟩
        have HB2 := Lib.hid (HB1.out.trans (hb2.out.mono HB1.out.size))
        have HG1 := Lib.hid (HH1.out.below hb2.out HH1.out.lt)
        have HG2 := Lib.hid (HH2.out.below hb2.out HH2.out.lt)
        have d0 := HG2.out.cell 0
        have d1 := HG2.out.cell 1
        have d2 := HG2.out.cell 2
        simp at d0 d1 d2
        clear hb2 HH1 HH2 HB1
        cases hm : mayF 2 (((beN ((sb r).take 8) : Int) - 9223372036854775808)) (⟨#[]⟩)
        · have HX : Hid (headF (sb s) = none) := by
            show _ = _
            rw [HF.out, HHR.out]
            simp only [Vl.may, hm]
            rfl
          have c0 := HG1.out.cell 0
          have c1 := HG1.out.cell 1
          have c2 := HG1.out.cell 2
          have e0 := HG1.out.free 0
          have e1 := HG1.out.free 1
          have e2 := HG1.out.free 2
          simp at c0 c1 c2
          have HP := Lib.hid (((HG1.out.put 0 (.int .i64 0)).put 1 (.int .i64 0)).put 2 (.string ⟨#[]⟩))
          go_wp2_with fail
          exact bodyPost_ret (headEnd _ w.heap.size _ _ _ _ rfl HP.out) rfl ⟨by rw [HX.out]; rfl, (((HB2.out).setCell (by simp) _).setCell (by simp) _).setCell (by simp) _⟩
        · have HX : Hid (headF (sb s) = some (⟨2, ((beN ((sb r).take 8) : Int) - 9223372036854775808), ⟨#[]⟩⟩, 8 + 1)) := by
            show _ = _
            rw [HF.out, HHR.out]
            simp only [Vl.may, hm]
            rfl
          have c0 := HG1.out.cell 0
          have c1 := HG1.out.cell 1
          have c2 := HG1.out.cell 2
          have e0 := HG1.out.free 0
          have e1 := HG1.out.free 1
          have e2 := HG1.out.free 2
          simp at c0 c1 c2
          have HP := Lib.hid (((HG1.out.put 0 (.int .i64 2)).put 1 (.int .i64 ((beN ((sb r).take 8) : Int) - 9223372036854775808))).put 2 (.string ⟨#[]⟩))
          go_wp2_with fail
          exact bodyPost_ret (headEnd _ w.heap.size _ _ _ _ rfl HP.out) rfl ⟨by rw [HX.out]; first | rfl | (simp [headV, Vl.val]; omega), (((HB2.out).setCell (by simp) _).setCell (by simp) _).setCell (by simp) _⟩
  by_cases k3 : s[0].toNat = 3
  · rw [k3] at HF
    have HR' := HR.out
    cases hd : decS false [] 0 (sb r) with
    | none =>
      have HX : Hid (headF (sb s) = none) := by
        show _ = _
        rw [HF.out]
        have : headR 3 (sb r) = none := by unfold headR; simp [hd]
        rw [this]
      have HN := Lib.hid (fun w => text_any r w hrs none hd)
      clear hd
      go_enter Tryz.func209, Tryz.ntmps209
      go_wp2_with fail
      go_region
      all_goals
        clear HR'
        go_wp2_with fail
        refine (HN.out _).mono ?_
        rintro e w1 ⟨rfl, hb1⟩
        have HH1 := Lib.hid (((Has.new w 113 #[.int .i64 0, .int .i64 0, .string ⟨#[]⟩]).alloc (.cells #[.int .i64 3, .int .i64 0, .string ⟨#[]⟩] 113)).drew)
        have HH2 : Hid (Has (((w.alloc (.cells #[.int .i64 0, .int .i64 0, .string ⟨#[]⟩] 113)).alloc (.cells #[.int .i64 3, .int .i64 0, .string ⟨#[]⟩] 113)).drew) (w.heap.size + 1) 113 #[.int .i64 3, .int .i64 0, .string ⟨#[]⟩]) := (by have h := Has.new (w.alloc (.cells #[.int .i64 0, .int .i64 0, .string ⟨#[]⟩] 113)) 113 #[.int .i64 3, .int .i64 0, .string ⟨#[]⟩]; rw [show (w.alloc (.cells #[.int .i64 0, .int .i64 0, .string ⟨#[]⟩] 113)).heap.size = w.heap.size + 1 by simp] at h; exact h.drew)
        have HB0 : Hid (Below w.heap.size w (((w.alloc (.cells #[.int .i64 0, .int .i64 0, .string ⟨#[]⟩] 113)).alloc (.cells #[.int .i64 3, .int .i64 0, .string ⟨#[]⟩] 113)).drew)) := (((Below.refl _ w).alloc (Nat.le_refl _) _).alloc (by simp) _).drew
        have HB1 := Lib.hid (HB0.out.trans (hb1.out.mono HB0.out.size))
        have HG1 := Lib.hid (HH1.out.below hb1.out HH1.out.lt)
        have HG2 := Lib.hid (HH2.out.below hb1.out HH2.out.lt)
        have d0 := HG2.out.cell 0
        have d1 := HG2.out.cell 1
        have d2 := HG2.out.cell 2
        have e2 := HG2.out.free 2
        simp at d0 d1 d2
        clear hb1 HH1 HH2 HB0
        unfold textR
        have hst : Hid (Has (w1.setCell ⟨w.heap.size + 1, 2, none⟩ (.string ⟨#[]⟩)) w.heap.size 113 #[.int .i64 0, .int .i64 0, .string ⟨#[]⟩]) := HG1.out.far (by simp) _
        have c0 := hst.out.cell 0
        have c1 := hst.out.cell 1
        have c2 := hst.out.cell 2
        have e0 := hst.out.free 0
        have e1 := hst.out.free 1
        have e2 := hst.out.free 2
        simp at c0 c1 c2
        have HP := Lib.hid (((hst.out.put 0 (.int .i64 0)).put 1 (.int .i64 0)).put 2 (.string ⟨#[]⟩))
        go_wp2_with fail
        exact bodyPost_ret (headEnd _ w.heap.size _ _ _ _ rfl HP.out) rfl ⟨by rw [HX.out]; rfl, ((((HB1.out.setCell (by simp) _)).setCell (by simp) _).setCell (by simp) _).setCell (by simp) _⟩
    | some q =>
      obtain ⟨t, m⟩ := q
      have hmle : m ≤ 100000 ∧ (bs t).size ≤ 9223372036854775807 := by
        obtain ⟨t', r', h1, h2, h5⟩ := (dec_some (sb r) [] 0 t m).1 hd
        have h3 := congrArg List.length h2
        have h4 := esc_ge t'
        rw [sb_length, List.length_append] at h3
        rw [List.nil_append] at h1
        simp at h3
        rw [bs_size, h1]
        exact ⟨by omega, by omega⟩
      have HTS := Lib.hid hmle.2
      replace hmle := hmle.1
      have HDD := Lib.hid hd
      have HN := Lib.hid (fun w => text_any r w hrs (some (t, m)) hd)
      clear hd
      go_enter Tryz.func209, Tryz.ntmps209
      go_wp2_with fail
      go_region
      all_goals
        clear HR'
        go_wp2_with fail
        refine (HN.out _).mono ?_
        rintro e w1 ⟨rfl, hb1⟩
        have HH1 := Lib.hid (((Has.new w 113 #[.int .i64 0, .int .i64 0, .string ⟨#[]⟩]).alloc (.cells #[.int .i64 3, .int .i64 0, .string ⟨#[]⟩] 113)).drew)
        have HH2 : Hid (Has (((w.alloc (.cells #[.int .i64 0, .int .i64 0, .string ⟨#[]⟩] 113)).alloc (.cells #[.int .i64 3, .int .i64 0, .string ⟨#[]⟩] 113)).drew) (w.heap.size + 1) 113 #[.int .i64 3, .int .i64 0, .string ⟨#[]⟩]) := (by have h := Has.new (w.alloc (.cells #[.int .i64 0, .int .i64 0, .string ⟨#[]⟩] 113)) 113 #[.int .i64 3, .int .i64 0, .string ⟨#[]⟩]; rw [show (w.alloc (.cells #[.int .i64 0, .int .i64 0, .string ⟨#[]⟩] 113)).heap.size = w.heap.size + 1 by simp] at h; exact h.drew)
        have HB0 : Hid (Below w.heap.size w (((w.alloc (.cells #[.int .i64 0, .int .i64 0, .string ⟨#[]⟩] 113)).alloc (.cells #[.int .i64 3, .int .i64 0, .string ⟨#[]⟩] 113)).drew)) := (((Below.refl _ w).alloc (Nat.le_refl _) _).alloc (by simp) _).drew
        have HB1 := Lib.hid (HB0.out.trans (hb1.out.mono HB0.out.size))
        have HG1 := Lib.hid (HH1.out.below hb1.out HH1.out.lt)
        have HG2 := Lib.hid (HH2.out.below hb1.out HH2.out.lt)
        have d0 := HG2.out.cell 0
        have d1 := HG2.out.cell 1
        have d2 := HG2.out.cell 2
        have e2 := HG2.out.free 2
        simp at d0 d1 d2
        clear hb1 HH1 HH2 HB0
        unfold textR
        go_wp2_with fail
        clear d0 d1 d2 e2
        have HH1 : Hid (Has (w1.setCell ⟨w.heap.size + 1, 2, none⟩ (.string (bs t))) w.heap.size 113 #[.int .i64 0, .int .i64 0, .string ⟨#[]⟩]) := HG1.out.far (by simp) _
        have HH2 : Hid (Has (w1.setCell ⟨w.heap.size + 1, 2, none⟩ (.string (bs t))) (w.heap.size + 1) 113 #[.int .i64 3, .int .i64 0, .string (bs t)]) := HG2.out.put 2 _
        have HB1 : Hid (Below w.heap.size w (w1.setCell ⟨w.heap.size + 1, 2, none⟩ (.string (bs t)))) := HB1.out.setCell (by simp) _
        have HHR : Hid (headR 3 (sb r) = some (⟨3, 0, (bs t)⟩, m)) := by show _ = _; unfold headR; rw [HDD.out]; simp
        refine (may_any 3 (0) ((bs t)) _ (HTS.out) (HT.out.below HB1.out)).mono ?_
        rintro e w2 ⟨rfl, hb2⟩
        have HB2 := Lib.hid (HB1.out.trans (hb2.out.mono HB1.out.size))
        have HK1 := Lib.hid (HH1.out.below hb2.out HH1.out.lt)
        have HK2 := Lib.hid (HH2.out.below hb2.out HH2.out.lt)
        have d0 := HK2.out.cell 0
        have d1 := HK2.out.cell 1
        have d2 := HK2.out.cell 2
        simp at d0 d1 d2
        clear hb2 HH1 HH2
        cases hm : mayF 3 (0) ((bs t))
        · have HX : Hid (headF (sb s) = none) := by
            show _ = _
            rw [HF.out, HHR.out]
            simp only [Vl.may, hm]
            rfl
          have c0 := HK1.out.cell 0
          have c1 := HK1.out.cell 1
          have c2 := HK1.out.cell 2
          have e0 := HK1.out.free 0
          have e1 := HK1.out.free 1
          have e2 := HK1.out.free 2
          simp at c0 c1 c2
          have HP := Lib.hid (((HK1.out.put 0 (.int .i64 0)).put 1 (.int .i64 0)).put 2 (.string ⟨#[]⟩))
          go_wp2_with fail
          exact bodyPost_ret (headEnd _ w.heap.size _ _ _ _ rfl HP.out) rfl ⟨by rw [HX.out]; rfl, (((HB2.out).setCell (by simp) _).setCell (by simp) _).setCell (by simp) _⟩
        · have HX : Hid (headF (sb s) = some (⟨3, 0, (bs t)⟩, m + 1)) := by
            show _ = _
            rw [HF.out, HHR.out]
            simp only [Vl.may, hm]
            rfl
          have c0 := HK1.out.cell 0
          have c1 := HK1.out.cell 1
          have c2 := HK1.out.cell 2
          have e0 := HK1.out.free 0
          have e1 := HK1.out.free 1
          have e2 := HK1.out.free 2
          simp at c0 c1 c2
          have HP := Lib.hid (((HK1.out.put 0 (.int .i64 3)).put 1 (.int .i64 0)).put 2 (.string (bs t)))
          go_wp2_with fail
          exact bodyPost_ret (headEnd _ w.heap.size _ _ _ _ rfl HP.out) rfl ⟨by rw [HX.out]; first | rfl | (simp [headV, Vl.val]; omega), (((HB2.out).setCell (by simp) _).setCell (by simp) _).setCell (by simp) _⟩
  by_cases k4 : s[0].toNat = 4
  · rw [k4] at HF
    have HR' := HR.out
    cases hd : decS false [] 0 (sb r) with
    | none =>
      have HX : Hid (headF (sb s) = none) := by
        show _ = _
        rw [HF.out]
        have : headR 4 (sb r) = none := by unfold headR; simp [hd]
        rw [this]
      have HN := Lib.hid (fun w => text_any r w hrs none hd)
      clear hd
      go_enter Tryz.func209, Tryz.ntmps209
      go_wp2_with fail
      go_region
      all_goals
        clear HR'
        go_wp2_with fail
        refine (HN.out _).mono ?_
        rintro e w1 ⟨rfl, hb1⟩
        have HH1 := Lib.hid (((Has.new w 113 #[.int .i64 0, .int .i64 0, .string ⟨#[]⟩]).alloc (.cells #[.int .i64 4, .int .i64 0, .string ⟨#[]⟩] 113)).drew)
        have HH2 : Hid (Has (((w.alloc (.cells #[.int .i64 0, .int .i64 0, .string ⟨#[]⟩] 113)).alloc (.cells #[.int .i64 4, .int .i64 0, .string ⟨#[]⟩] 113)).drew) (w.heap.size + 1) 113 #[.int .i64 4, .int .i64 0, .string ⟨#[]⟩]) := (by have h := Has.new (w.alloc (.cells #[.int .i64 0, .int .i64 0, .string ⟨#[]⟩] 113)) 113 #[.int .i64 4, .int .i64 0, .string ⟨#[]⟩]; rw [show (w.alloc (.cells #[.int .i64 0, .int .i64 0, .string ⟨#[]⟩] 113)).heap.size = w.heap.size + 1 by simp] at h; exact h.drew)
        have HB0 : Hid (Below w.heap.size w (((w.alloc (.cells #[.int .i64 0, .int .i64 0, .string ⟨#[]⟩] 113)).alloc (.cells #[.int .i64 4, .int .i64 0, .string ⟨#[]⟩] 113)).drew)) := (((Below.refl _ w).alloc (Nat.le_refl _) _).alloc (by simp) _).drew
        have HB1 := Lib.hid (HB0.out.trans (hb1.out.mono HB0.out.size))
        have HG1 := Lib.hid (HH1.out.below hb1.out HH1.out.lt)
        have HG2 := Lib.hid (HH2.out.below hb1.out HH2.out.lt)
        have d0 := HG2.out.cell 0
        have d1 := HG2.out.cell 1
        have d2 := HG2.out.cell 2
        have e2 := HG2.out.free 2
        simp at d0 d1 d2
        clear hb1 HH1 HH2 HB0
        unfold textR
        have hst : Hid (Has (w1.setCell ⟨w.heap.size + 1, 2, none⟩ (.string ⟨#[]⟩)) w.heap.size 113 #[.int .i64 0, .int .i64 0, .string ⟨#[]⟩]) := HG1.out.far (by simp) _
        have c0 := hst.out.cell 0
        have c1 := hst.out.cell 1
        have c2 := hst.out.cell 2
        have e0 := hst.out.free 0
        have e1 := hst.out.free 1
        have e2 := hst.out.free 2
        simp at c0 c1 c2
        have HP := Lib.hid (((hst.out.put 0 (.int .i64 0)).put 1 (.int .i64 0)).put 2 (.string ⟨#[]⟩))
        go_wp2_with fail
        exact bodyPost_ret (headEnd _ w.heap.size _ _ _ _ rfl HP.out) rfl ⟨by rw [HX.out]; rfl, ((((HB1.out.setCell (by simp) _)).setCell (by simp) _).setCell (by simp) _).setCell (by simp) _⟩
    | some q =>
      obtain ⟨t, m⟩ := q
      have hmle : m ≤ 100000 ∧ (bs t).size ≤ 9223372036854775807 := by
        obtain ⟨t', r', h1, h2, h5⟩ := (dec_some (sb r) [] 0 t m).1 hd
        have h3 := congrArg List.length h2
        have h4 := esc_ge t'
        rw [sb_length, List.length_append] at h3
        rw [List.nil_append] at h1
        simp at h3
        rw [bs_size, h1]
        exact ⟨by omega, by omega⟩
      have HTS := Lib.hid hmle.2
      replace hmle := hmle.1
      have HDD := Lib.hid hd
      have HN := Lib.hid (fun w => text_any r w hrs (some (t, m)) hd)
      clear hd
      go_enter Tryz.func209, Tryz.ntmps209
      go_wp2_with fail
      go_region
      all_goals
        clear HR'
        go_wp2_with fail
        refine (HN.out _).mono ?_
        rintro e w1 ⟨rfl, hb1⟩
        have HH1 := Lib.hid (((Has.new w 113 #[.int .i64 0, .int .i64 0, .string ⟨#[]⟩]).alloc (.cells #[.int .i64 4, .int .i64 0, .string ⟨#[]⟩] 113)).drew)
        have HH2 : Hid (Has (((w.alloc (.cells #[.int .i64 0, .int .i64 0, .string ⟨#[]⟩] 113)).alloc (.cells #[.int .i64 4, .int .i64 0, .string ⟨#[]⟩] 113)).drew) (w.heap.size + 1) 113 #[.int .i64 4, .int .i64 0, .string ⟨#[]⟩]) := (by have h := Has.new (w.alloc (.cells #[.int .i64 0, .int .i64 0, .string ⟨#[]⟩] 113)) 113 #[.int .i64 4, .int .i64 0, .string ⟨#[]⟩]; rw [show (w.alloc (.cells #[.int .i64 0, .int .i64 0, .string ⟨#[]⟩] 113)).heap.size = w.heap.size + 1 by simp] at h; exact h.drew)
        have HB0 : Hid (Below w.heap.size w (((w.alloc (.cells #[.int .i64 0, .int .i64 0, .string ⟨#[]⟩] 113)).alloc (.cells #[.int .i64 4, .int .i64 0, .string ⟨#[]⟩] 113)).drew)) := (((Below.refl _ w).alloc (Nat.le_refl _) _).alloc (by simp) _).drew
        have HB1 := Lib.hid (HB0.out.trans (hb1.out.mono HB0.out.size))
        have HG1 := Lib.hid (HH1.out.below hb1.out HH1.out.lt)
        have HG2 := Lib.hid (HH2.out.below hb1.out HH2.out.lt)
        have d0 := HG2.out.cell 0
        have d1 := HG2.out.cell 1
        have d2 := HG2.out.cell 2
        have e2 := HG2.out.free 2
        simp at d0 d1 d2
        clear hb1 HH1 HH2 HB0
        unfold textR
        go_wp2_with fail
        clear d0 d1 d2 e2
        have HH1 : Hid (Has (w1.setCell ⟨w.heap.size + 1, 2, none⟩ (.string (bs t))) w.heap.size 113 #[.int .i64 0, .int .i64 0, .string ⟨#[]⟩]) := HG1.out.far (by simp) _
        have HH2 : Hid (Has (w1.setCell ⟨w.heap.size + 1, 2, none⟩ (.string (bs t))) (w.heap.size + 1) 113 #[.int .i64 4, .int .i64 0, .string (bs t)]) := HG2.out.put 2 _
        have HB1 : Hid (Below w.heap.size w (w1.setCell ⟨w.heap.size + 1, 2, none⟩ (.string (bs t)))) := HB1.out.setCell (by simp) _
        have HHR : Hid (headR 4 (sb r) = some (⟨4, 0, (bs t)⟩, m)) := by show _ = _; unfold headR; rw [HDD.out]; simp
        refine (may_any 4 (0) ((bs t)) _ (HTS.out) (HT.out.below HB1.out)).mono ?_
        rintro e w2 ⟨rfl, hb2⟩
        have HB2 := Lib.hid (HB1.out.trans (hb2.out.mono HB1.out.size))
        have HK1 := Lib.hid (HH1.out.below hb2.out HH1.out.lt)
        have HK2 := Lib.hid (HH2.out.below hb2.out HH2.out.lt)
        have d0 := HK2.out.cell 0
        have d1 := HK2.out.cell 1
        have d2 := HK2.out.cell 2
        simp at d0 d1 d2
        clear hb2 HH1 HH2
        cases hm : mayF 4 (0) ((bs t))
        · have HX : Hid (headF (sb s) = none) := by
            show _ = _
            rw [HF.out, HHR.out]
            simp only [Vl.may, hm]
            rfl
          have c0 := HK1.out.cell 0
          have c1 := HK1.out.cell 1
          have c2 := HK1.out.cell 2
          have e0 := HK1.out.free 0
          have e1 := HK1.out.free 1
          have e2 := HK1.out.free 2
          simp at c0 c1 c2
          have HP := Lib.hid (((HK1.out.put 0 (.int .i64 0)).put 1 (.int .i64 0)).put 2 (.string ⟨#[]⟩))
          go_wp2_with fail
          exact bodyPost_ret (headEnd _ w.heap.size _ _ _ _ rfl HP.out) rfl ⟨by rw [HX.out]; rfl, (((HB2.out).setCell (by simp) _).setCell (by simp) _).setCell (by simp) _⟩
        · have HX : Hid (headF (sb s) = some (⟨4, 0, (bs t)⟩, m + 1)) := by
            show _ = _
            rw [HF.out, HHR.out]
            simp only [Vl.may, hm]
            rfl
          have c0 := HK1.out.cell 0
          have c1 := HK1.out.cell 1
          have c2 := HK1.out.cell 2
          have e0 := HK1.out.free 0
          have e1 := HK1.out.free 1
          have e2 := HK1.out.free 2
          simp at c0 c1 c2
          have HP := Lib.hid (((HK1.out.put 0 (.int .i64 4)).put 1 (.int .i64 0)).put 2 (.string (bs t)))
          go_wp2_with fail
          exact bodyPost_ret (headEnd _ w.heap.size _ _ _ _ rfl HP.out) rfl ⟨by rw [HX.out]; first | rfl | (simp [headV, Vl.val]; omega), (((HB2.out).setCell (by simp) _).setCell (by simp) _).setCell (by simp) _⟩
  · have HR' := HR.out
    have hw : wrap64 (s[0].toNat : Int) = (s[0].toNat : Int) := by unfold wrap64; omega
    have hk1 : ((s[0].toNat : Int) == 1) = false := by simp; omega
    have hk2 : ((s[0].toNat : Int) == 2) = false := by simp; omega
    have hk3 : ((s[0].toNat : Int) == 3) = false := by simp; omega
    have hk4 : ((s[0].toNat : Int) == 4) = false := by simp; omega
    go_enter Tryz.func209, Tryz.ntmps209
    go_wp2_with fail
    go_region
    all_goals
      clear HR'
      go_wp2_with fail
      have HH1 : Hid (Has (((w.alloc (.cells #[.int .i64 0, .int .i64 0, .string ⟨#[]⟩] 113)).alloc (.cells #[.int .i64 (s[0].toNat : Int), .int .i64 0, .string ⟨#[]⟩] 113)).drew) w.heap.size 113 #[.int .i64 0, .int .i64 0, .string ⟨#[]⟩]) := ((Has.new w _ _).alloc _).drew
      have HH2 : Hid (Has (((w.alloc (.cells #[.int .i64 0, .int .i64 0, .string ⟨#[]⟩] 113)).alloc (.cells #[.int .i64 (s[0].toNat : Int), .int .i64 0, .string ⟨#[]⟩] 113)).drew) (w.heap.size + 1) 113 #[.int .i64 (s[0].toNat : Int), .int .i64 0, .string ⟨#[]⟩]) := (by have h := Has.new (w.alloc (.cells #[.int .i64 0, .int .i64 0, .string ⟨#[]⟩] 113)) 113 #[.int .i64 (s[0].toNat : Int), .int .i64 0, .string ⟨#[]⟩]; rw [show (w.alloc (.cells #[.int .i64 0, .int .i64 0, .string ⟨#[]⟩] 113)).heap.size = w.heap.size + 1 by simp] at h; exact h.drew)
      have HB1 : Hid (Below w.heap.size w (((w.alloc (.cells #[.int .i64 0, .int .i64 0, .string ⟨#[]⟩] 113)).alloc (.cells #[.int .i64 (s[0].toNat : Int), .int .i64 0, .string ⟨#[]⟩] 113)).drew)) := (((Below.refl _ w).alloc (Nat.le_refl _) _).alloc (by simp) _).drew
      have HHR : Hid (headR s[0].toNat (sb r) = some (⟨(s[0].toNat : Int), 0, ⟨#[]⟩⟩, 0)) := by show _ = _; unfold headR; rw [if_neg k1, if_neg k2, if_neg (by omega)]
      refine (may_any (s[0].toNat : Int) (0) (⟨#[]⟩) _ (by simp [ByteArray.size]) (HT.out.below HB1.out)).mono ?_
      rintro e w2 ⟨rfl, hb2⟩
      have HB2 := Lib.hid (HB1.out.trans (hb2.out.mono HB1.out.size))
      have HG1 := Lib.hid (HH1.out.below hb2.out HH1.out.lt)
      have HG2 := Lib.hid (HH2.out.below hb2.out HH2.out.lt)
      have d0 := HG2.out.cell 0
      have d1 := HG2.out.cell 1
      have d2 := HG2.out.cell 2
      simp at d0 d1 d2
      clear hb2 HH1 HH2 HB1
      cases hm : mayF (s[0].toNat : Int) (0) (⟨#[]⟩)
      · have HX : Hid (headF (sb s) = none) := by
          show _ = _
          rw [HF.out, HHR.out]
          simp only [Vl.may, hm]
          rfl
        have c0 := HG1.out.cell 0
        have c1 := HG1.out.cell 1
        have c2 := HG1.out.cell 2
        have e0 := HG1.out.free 0
        have e1 := HG1.out.free 1
        have e2 := HG1.out.free 2
        simp at c0 c1 c2
        have HP := Lib.hid (((HG1.out.put 0 (.int .i64 0)).put 1 (.int .i64 0)).put 2 (.string ⟨#[]⟩))
        go_wp2_with fail
        exact bodyPost_ret (headEnd _ w.heap.size _ _ _ _ rfl HP.out) rfl ⟨by rw [HX.out]; rfl, (((HB2.out).setCell (by simp) _).setCell (by simp) _).setCell (by simp) _⟩
      · have HX : Hid (headF (sb s) = some (⟨(s[0].toNat : Int), 0, ⟨#[]⟩⟩, 0 + 1)) := by
          show _ = _
          rw [HF.out, HHR.out]
          simp only [Vl.may, hm]
          rfl
        have c0 := HG1.out.cell 0
        have c1 := HG1.out.cell 1
        have c2 := HG1.out.cell 2
        have e0 := HG1.out.free 0
        have e1 := HG1.out.free 1
        have e2 := HG1.out.free 2
        simp at c0 c1 c2
        have HP := Lib.hid (((HG1.out.put 0 (.int .i64 (s[0].toNat : Int))).put 1 (.int .i64 0)).put 2 (.string ⟨#[]⟩))
        go_wp2_with fail
        exact bodyPost_ret (headEnd _ w.heap.size _ _ _ _ rfl HP.out) rfl ⟨by rw [HX.out]; first | rfl | (simp [headV, Vl.val]; omega), (((HB2.out).setCell (by simp) _).setCell (by simp) _).setCell (by simp) _⟩
end Go.Proofs.YtlhfdhmmdnkojaaGreatDoor
namespace Go.Proofs.YtlhfdhmmdnkojaaGreatDoor
open Go.RowKit Dg
theorem keys_cons (v : Vl) (L : List Vl) : keys (v :: L) = v.key ++ keys L := by unfold keys; rw [List.flatMap_cons]
theorem keys_snoc (v : Vl) (L : List Vl) : keys (L ++ [v]) = keys L ++ v.key := by unfold keys; rw [List.flatMap_append]; simp
def Good1 (L : List Vl) : Prop := ∀ x ∈ L, x.may = true ∧ x.fit
theorem keys_split : ∀ (acc L : List Vl) (r : List Nat), Good1 acc → Good1 L → keys L = keys acc ++ r → ∃ M, L = acc ++ M ∧ keys M = r
  | [], L, r, _, _, h => ⟨L, rfl, by simpa [keys] using h⟩
  | a :: acc, [], r, _, _, h => by
    rw [keys_cons, List.append_assoc] at h
    have h2 : ([] : List Nat) = a.key ++ (keys acc ++ r) := h
    exact absurd (List.append_eq_nil_iff.1 h2.symm).1 (key_ne a)
  | a :: acc, b :: L, r, ha, hL, h => by
    rw [keys_cons, keys_cons, List.append_assoc] at h
    obtain ⟨hb1, hb2⟩ := hL b (by simp)
    obtain ⟨ha1, ha2⟩ := ha a (by simp)
    obtain ⟨e1, e2⟩ := key_unique hb1 hb2 ha1 ha2 h
    subst e1
    obtain ⟨M, h1, h2⟩ := keys_split acc L r (fun x hx => ha x (by simp [hx])) (fun x hx => hL x (by simp [hx])) e2
    exact ⟨M, by rw [h1]; rfl, h2⟩
/-- What Values comes to. -/
def ValsR (s : ByteArray) (w : World) (e : Ending) (w' : World) : Prop :=
  (∃ L v, Good1 L ∧ (∀ x ∈ L, x.fits) ∧ L.length ≤ s.size ∧ keys L = sb s ∧ e = .returned (.tuple #[v, .int .i64 0]) ∧ OwnV w.heap.size w' v L) ∨
  ((∀ L, Good1 L → keys L ≠ sb s) ∧ e = .returned (.tuple #[.slice none 0 0, .int .i64 2]))
set_option maxHeartbeats 4000000 in
set_option maxRecDepth 100000 in
theorem values_any (s : ByteArray) (w : World) (hs : s.size ≤ 900) (hT : Tabs w) :
    Calls Tryz.prog 206 #[.string s] w fun e w' => ValsR s w e w' ∧ Hid (Below w.heap.size w w') := by
  have HT := Lib.hid hT
  clear hT
  go_enter Tryz.func206, Tryz.ntmps206
  go_wp2_with fail
  go_loopw [0, 4] (fun x z wr => ∃ (t : ByteArray) (u : Value) (acc : List Vl), x = .string t ∧ u = z ∧ acc.length + t.size ≤ s.size ∧ Hid (Good1 acc) ∧ Hid (∀ x ∈ acc, x.fits) ∧ Hid (keys acc ++ sb t = sb s) ∧ Hid (OwnV w.heap.size wr u acc) ∧ Hid (Below w.heap.size w wr)) (fun x _ _ => match x with | .string t => t.size | _ => 0)
  case atStart => exact ⟨s, _, [], rfl, rfl, by simp, (fun _ h => by cases h), (fun _ h => by cases h), rfl, ownV_nil _ _, Below.refl _ _⟩
  case round =>
    obtain ⟨t, u, acc, rfl, rfl, hac, HG, HF, HK, HO, HB⟩ := hrel
    by_cases h0 : 0 < t.size
    · have h0z : (0 : Int) < (t.size : Int) := by omega
      go_wp2_with fail
      refine (head_any t wr h0 (by omega) (HT.out.below HB.out)).mono ?_
      rintro e w1 ⟨rfl, hb1⟩
      have HB1 := Lib.hid (HB.out.trans (hb1.out.mono HB.out.size))
      have HO1 := Lib.hid (HO.out.below hb1.out)
      clear hb1 HO HB
      cases hh : headF (sb t) with
      | none =>
        have HN : Hid (∀ L, Good1 L → keys L ≠ sb s) := fun L hL hk => by
          rw [← HK.out] at hk
          obtain ⟨M, h1, h2⟩ := keys_split acc L (sb t) HG.out hL hk
          rcases M with _ | ⟨v, M⟩
          · have := congrArg List.length h2
            rw [sb_length] at this
            simp [keys] at this
            omega
          · have hv := hL v (by rw [h1]; simp)
            rw [keys_cons] at h2
            have := head_key v (keys M) hv.1 hv.2
            rw [h2, hh] at this
            cases this
        unfold headV Vl.val
        go_wp2_with fail
        go_ret2
        exact ⟨.inr ⟨HN.out, rfl⟩, HB1.out.alloc HB1.out.size _⟩
      | some p =>
        obtain ⟨v, n⟩ := p
        obtain ⟨hm, hf, r, hr, hn⟩ := head_some (sb t) (sb_byte t) (by rw [sb_length]; omega) v n hh
        have hnp : 0 < n := by
          rw [hn]
          exact List.length_pos_iff.2 (key_ne v)
        have hnl : n ≤ t.size := by
          have := congrArg List.length hr
          rw [sb_length, List.length_append] at this
          omega
        have HR : Hid (sb (t.extract n t.size) = r) := by
          show _ = _
          rw [sb_ext, hr, hn, List.drop_left]
        have HG2 : Hid (Good1 (acc ++ [v])) := fun x hx => by
          rcases List.mem_append.1 hx with h | h
          · exact HG.out x h
          · rw [List.mem_singleton.1 h]; exact ⟨hm, hf.1⟩
        have HF2 : Hid (∀ x ∈ acc ++ [v], x.fits) := fun x hx => by
          rcases List.mem_append.1 hx with h | h
          · exact HF.out x h
          · rw [List.mem_singleton.1 h]; exact hf
        have HK2 : Hid (keys (acc ++ [v]) ++ r = sb s) := by
          show _ = _
          rw [keys_snoc, ← HK.out, hr, List.append_assoc]
        have hq : ((n : Int) == 0) = false := by simp; omega
        have hes : (t.extract n t.size).size = t.size - n := by simp
        have HEX := Lib.hid hes
        clear hh hr hn hes hm hf HG HF HK
        obtain ⟨vk, vn, vs⟩ := v
        have HA := Lib.hid (appV (w1.alloc (.cells #[.int .i64 vk, .int .i64 vn, .string vs] 113)) (w1.heap.size + 1) (by simp) w.heap.size u acc ⟨vk, vn, vs⟩ (World.ownsRow.alloc HO1.out _) (by have := HB1.out.size; simp; omega) (by omega))
        have HBA : Hid (Below w.heap.size w (w1.alloc (.cells #[.int .i64 vk, .int .i64 vn, .string vs] 113))) := HB1.out.alloc HB1.out.size _
        unfold headV Vl.val
        go_wp2_with (at_builtin; refine wpList_app rfl _ _ 23 23 rfl u (.slice (some ⟨w1.heap.size + 1, 0, none⟩) 1 1) rfl rfl ?_; obtain ⟨R, W', hrun, hmade⟩ := HA.out; refine ⟨R, W', hrun, ?_⟩; have HM := Lib.hid hmade; clear hrun hmade HA)
        go_roundw
        case rel => exact ⟨t.extract n t.size, R, _, rfl, rfl, by rw [HEX.out, List.length_append]; simp; omega, HG2, HF2, by show _ = _; rw [HR.out]; exact HK2.out, HM.out.1, HBA.out.trans HM.out.2⟩
        case measure => simp only [HEX.out]; omega
    · have ht0 : sb t = [] := List.eq_nil_of_length_eq_zero (by rw [sb_length]; omega)
      have HKK : Hid (keys acc = sb s) := by
        show _ = _
        rw [← HK.out, ht0, List.append_nil]
      go_wp2_with fail
      go_ret2
      exact ⟨.inl ⟨acc, u, HG.out, HF.out, by omega, HKK.out, rfl, HO.out⟩, HB⟩
end Go.Proofs.YtlhfdhmmdnkojaaGreatDoor
namespace Go.Proofs.YtlhfdhmmdnkojaaGreatDoor
open Go.RowKit Dg
set_option maxRecDepth 100000
/-- Are bytes the keys of values, one behind the other (in so many steps)? -/
def kvF : Nat → List Nat → Bool
  | 0, l => l.isEmpty
  | f + 1, l => l.isEmpty || (match headF l with | some (_, n) => kvF f (l.drop n) | none => false)
theorem kvF_iff : ∀ (f : Nat) (l : List Nat), (∀ x ∈ l, x < 256) → l.length ≤ 100000 → l.length ≤ f → (kvF f l = true ↔ ∃ L, Good1 L ∧ keys L = l)
  | 0, l, _, _, hf => by
    have : l = [] := List.eq_nil_of_length_eq_zero (by omega)
    subst this
    exact ⟨fun _ => ⟨[], fun _ h => (by cases h), rfl⟩, fun _ => rfl⟩
  | f + 1, l, hb, hl, hf => by
    by_cases h0 : l = []
    · subst h0
      exact ⟨fun _ => ⟨[], fun _ h => (by cases h), rfl⟩, fun _ => rfl⟩
    · have he : l.isEmpty = false := by
        cases l with
        | nil => exact absurd rfl h0
        | cons => rfl
      unfold kvF
      rw [he, Bool.false_or]
      cases hh : headF l with
      | none =>
        refine ⟨fun h => (by cases h), fun ⟨L, hL, hk⟩ => ?_⟩
        rcases L with _ | ⟨v, L⟩
        · exact absurd hk.symm h0
        · have hv := hL v (by simp)
          rw [keys_cons] at hk
          have := head_key v (keys L) hv.1 hv.2
          rw [hk, hh] at this
          cases this
      | some p =>
        obtain ⟨v, n⟩ := p
        obtain ⟨hm, hfi, r, hr, hn⟩ := head_some l hb hl v n hh
        have hp : 0 < v.key.length := List.length_pos_iff.2 (key_ne v)
        have hrl : l.length = v.key.length + r.length := by rw [hr, List.length_append]
        have hd : l.drop n = r := by rw [hn]; conv => lhs; rw [hr]
                                     rw [List.drop_left]
        have ih := kvF_iff f r (fun x hx => hb x (by rw [hr]; exact List.mem_append_right _ hx)) (by omega) (by omega)
        simp only [hd]
        rw [ih]
        constructor
        · rintro ⟨L, hL, hk⟩
          refine ⟨v :: L, fun x hx => ?_, by rw [keys_cons, hk, ← hr]⟩
          rcases List.mem_cons.1 hx with rfl | hx
          · exact ⟨hm, hfi.1⟩
          · exact hL x hx
        · rintro ⟨L, hL, hk⟩
          rcases L with _ | ⟨u, L⟩
          · exact absurd hk.symm h0
          · have hu := hL u (by simp)
            rw [keys_cons, hr] at hk
            obtain ⟨_, e2⟩ := key_unique hu.1 hu.2 hm hfi.1 hk
            exact ⟨L, fun x hx => hL x (by simp [hx]), e2⟩
/-- Is a text the key of one value or more? -/
def isKeyB (s : ByteArray) : Bool := !(s.size == 0) && kvF s.size (sb s)
theorem isKeyB_iff (s : ByteArray) (hs : s.size ≤ 100000) (h0 : ¬ s.size = 0) : isKeyB s = true ↔ ∃ L, Good1 L ∧ keys L = sb s := by
  unfold isKeyB
  rw [← kvF_iff s.size (sb s) (sb_byte s) (by rw [sb_length]; exact hs) (by rw [sb_length]; exact Nat.le_refl _)]
  simp [h0]
theorem isKeyB_empty (s : ByteArray) (h0 : s.size = 0) : isKeyB s = false := by
  unfold isKeyB; simp [h0]
theorem emptyL : (⟨#[]⟩ : ByteArray).toList = [] := by simp [ByteArray.toList_eq]
theorem size_ne (s : ByteArray) : (s.toList == (⟨#[]⟩ : ByteArray).toList) = (s.size == 0) := by
  rw [emptyL]
  cases h : s.size == 0
  · rw [beq_eq_false_iff_ne]
    intro h1
    have : s.size = 0 := by
      have := congrArg List.length h1
      simpa [ByteArray.toList_eq] using this
    simp [this] at h
  · rw [beq_iff_eq] at h ⊢
    apply List.eq_nil_of_length_eq_zero
    rw [ByteArray.toList_eq]
    simpa using h
theorem size_e (s : ByteArray) : s.toList.isEmpty = (s.size == 0) := by
  rw [← size_ne s, emptyL]
  cases s.toList <;> rfl
/-- The key of an Int is one. -/
theorem isKeyB_int (n : Int) (h0 : -9223372036854775808 ≤ n) (h1 : n ≤ 9223372036854775807) : isKeyB (bs (keys [⟨2, n, ⟨#[]⟩⟩])) = true := by
  have hg : Good1 [(⟨2, n, ⟨#[]⟩⟩ : Vl)] := fun x hx => by
    rw [List.mem_singleton.1 hx]
    exact ⟨by simp [Vl.may, mayF], h0, h1, by simp [ByteArray.size]⟩
  have hl : (keys [(⟨2, n, ⟨#[]⟩⟩ : Vl)]).length = 9 := by simp [keys, Vl.key, keyV, hi_len]
  have hb : ∀ x ∈ keys [(⟨2, n, ⟨#[]⟩⟩ : Vl)], x < 256 := by
    intro x hx
    simp [keys, Vl.key, keyV, hi] at hx
    omega
  rw [isKeyB_iff _ (by rw [bs_size, hl]; omega) (by rw [bs_size, hl]; omega)]
  exact ⟨_, hg, (sb_bs _ hb).symm⟩
end Go.Proofs.YtlhfdhmmdnkojaaGreatDoor
namespace Go.Proofs.YtlhfdhmmdnkojaaGreatDoor
open Go.RowKit Dg
/-- May a byte stand at a place of a name? -/
def okAt (c i : Nat) : Bool := (decide (97 ≤ c) && decide (c ≤ 122)) || (!(i == 0) && ((decide (48 ≤ c) && decide (c ≤ 57)) || c == 95))
def byteAt (s : ByteArray) (i : Nat) : Nat := if h : i < s.size then (s[i]'h).toNat else 0
theorem byteAt_eq (s : ByteArray) (i : Nat) (h : i < s.size) : byteAt s i = (s[i]'h).toNat := by unfold byteAt; rw [dif_pos h]
/-- May the first k bytes begin a name? -/
def nameTo (s : ByteArray) (k : Nat) : Bool := (List.range k).all fun i => okAt (byteAt s i) i
theorem nameTo_succ (s : ByteArray) (k : Nat) : nameTo s (k + 1) = (nameTo s k && okAt (byteAt s k) k) := by
  unfold nameTo; rw [List.range_succ, List.all_append]; simp
theorem nameTo_false (s : ByteArray) (k n : Nat) (hk : k < n) (h : okAt (byteAt s k) k = false) : nameTo s n = false := by
  unfold nameTo; rw [List.all_eq_false]
  exact ⟨k, List.mem_range.2 hk, by simp [h]⟩
/-- Is a text a name? -/
def nameF (s : ByteArray) : Bool := decide (1 ≤ s.size) && decide (s.size ≤ 32) && nameTo s s.size
theorem nameF_at {s : ByteArray} (h0 : 1 ≤ s.size) (h1 : s.size ≤ 32) : nameF s = nameTo s s.size := by
  unfold nameF; simp [h0, h1]
theorem nameF_no {s : ByteArray} (h : ¬ (1 ≤ s.size ∧ s.size ≤ 32)) : nameF s = false := by
  unfold nameF
  have e : (decide (1 ≤ s.size) && decide (s.size ≤ 32)) = false := by simp; omega
  rw [e]; rfl
theorem okAt_high {c : Nat} (i : Nat) (h : 128 ≤ c) : okAt c i = false := by
  unfold okAt
  have e1 : decide (c ≤ 122) = false := by simp; omega
  have e2 : decide (c ≤ 57) = false := by simp; omega
  have e3 : (c == 95) = false := by simp; omega
  rw [e1, e2, e3]; simp
set_option maxHeartbeats 2000000 in
set_option maxRecDepth 100000 in
theorem name_any (s : ByteArray) (w : World) (hs : s.size ≤ 140737488355328) :
    Calls Tryz.prog 113 #[.string s] w fun e w' => e = .returned (.bool (nameF s)) ∧ Hid (Below w.heap.size w w') := by
  have HB := fun s pos => Lib.hid ((Below.refl w.heap.size w).alloc (Nat.le_refl _) (.stringIter s pos))
  by_cases hz : 1 ≤ s.size ∧ s.size ≤ 32
  · obtain ⟨hz0, hz1⟩ := hz
    have HN := Lib.hid (nameF_at hz0 hz1)
    go_enter Tryz.func113, Tryz.ntmps113
    go_wp2_with fail
    go_loopw [3] (fun _ wr => ∃ pos : Nat, pos ≤ s.size ∧ Hid (nameTo s pos = true) ∧ wr = w.iter s pos) (fun _ wr => s.size - wr.iterPos w.heap.size)
    case atStart => exact ⟨0, by omega, rfl, rfl⟩
    case round =>
      obtain ⟨pos, hpos, HT, rfl⟩ := hrel
      by_cases hp : pos < s.size
      · have HF := Lib.hid (nameTo_false s pos s.size hp)
        by_cases ha : (s[pos]'hp).toNat < 128
        · have hnx : ∀ ty, (Instr.next (.pointer (some ⟨w.heap.size, 0, none⟩)) true ty).run Tryz.prog (w.iter s pos) = _ := fun ty => run_next_ascii w s pos ty hp ha
          have HE := Lib.hid (byteAt_eq s pos hp)
          have HT2 : Hid (nameTo s (pos + 1) = okAt (byteAt s pos) pos) := by show _ = _; rw [nameTo_succ, HT.out, Bool.true_and]
          generalize (s[pos]'hp).toNat = c at *
          rw [HE.out] at HF HT2
          clear HE
          have hcs : (97 ≤ c ∧ c ≤ 122) ∨ c < 48 ∨ (48 ≤ c ∧ c ≤ 57) ∨ (58 ≤ c ∧ c ≤ 94) ∨ c = 95 ∨ c = 96 ∨ 123 ≤ c := by omega
          rcases hcs with ⟨h1, h2⟩ | h1 | ⟨h1, h2⟩ | ⟨h1, h2⟩ | rfl | rfl | h1
          · have HO : Hid (okAt c pos = true) := by show _ = _; simp [okAt, h1, h2]
            go_wp2_with fail
            go_roundw
            case rel => exact ⟨pos + 1, by omega, by rw [HT2.out]; exact HO, rfl⟩
            case measure => simp; omega
          · have HO : Hid (okAt c pos = false) := by show _ = _; simp [okAt]; omega
            have hq : ((c : Int) == 95) = false := by simp; omega
            go_wp2_with fail
            all_goals first | (go_ret; exact ⟨by rw [HN.out, HF.out HO.out]; rfl, HB _ _⟩) | (exfalso; rename_i hh; simp at hh; omega)
          · by_cases h0 : pos = 0
            · have HO : Hid (okAt c pos = false) := by show _ = _; simp [okAt, h0]; omega
              subst h0
              go_wp2_with fail
              go_ret
              exact ⟨by rw [HN.out, HF.out HO.out]; rfl, HB _ _⟩
            · have HO : Hid (okAt c pos = true) := by show _ = _; simp [okAt, h0, h1, h2]
              have hq : ((pos : Int) == 0) = false := by simp; omega
              go_wp2_with fail
              go_roundw
              case rel => exact ⟨pos + 1, by omega, by rw [HT2.out]; exact HO, rfl⟩
              case measure => simp; omega
          · have HO : Hid (okAt c pos = false) := by show _ = _; simp [okAt]; omega
            have hq : ((c : Int) == 95) = false := by simp; omega
            go_wp2_with fail
            all_goals first | (go_ret; exact ⟨by rw [HN.out, HF.out HO.out]; rfl, HB _ _⟩) | (exfalso; rename_i hh; simp at hh; omega)
          · by_cases h0 : pos = 0
            · have HO : Hid (okAt 95 pos = false) := by show _ = _; simp [okAt, h0]
              subst h0
              go_wp2_with fail
              go_ret
              exact ⟨by rw [HN.out, HF.out HO.out]; rfl, HB _ _⟩
            · have HO : Hid (okAt 95 pos = true) := by show _ = _; simp [okAt, h0]
              have hq : ((pos : Int) == 0) = false := by simp; omega
              go_wp2_with fail
              go_roundw
              case rel => exact ⟨pos + 1, by omega, by rw [HT2.out]; exact HO, rfl⟩
              case measure => simp; omega
          · have HO : Hid (okAt 96 pos = false) := by show _ = _; simp [okAt]
            go_wp2_with fail
            all_goals first | (go_ret; exact ⟨by rw [HN.out, HF.out HO.out]; rfl, HB _ _⟩) | (exfalso; rename_i hh; simp at hh; omega)
          · have HO : Hid (okAt c pos = false) := by show _ = _; simp [okAt]; omega
            have hq : ((c : Int) == 95) = false := by simp; omega
            go_wp2_with fail
            all_goals first | (go_ret; exact ⟨by rw [HN.out, HF.out HO.out]; rfl, HB _ _⟩) | (exfalso; rename_i hh; simp at hh; omega)
        · have hnx : ∀ ty, (Instr.next (.pointer (some ⟨w.heap.size, 0, none⟩)) true ty).run Tryz.prog (w.iter s pos) = _ := fun ty => run_next_any w s pos ty hp
          have hr := (decode_high s pos hp (by omega)).1
          have hr2 := decode_le s pos
          have HO : Hid (okAt (byteAt s pos) pos = false) := by show _ = _; rw [byteAt_eq s pos hp]; exact okAt_high pos (by omega)
          generalize (Utf8.decode s pos).1 = r at *
          generalize (Utf8.decode s pos).2 = d at *
          have hq : ((r : Int) == 95) = false := by simp; omega
          go_wp2_with fail
          all_goals first | (go_ret; exact ⟨by rw [HN.out, HF.out HO.out]; rfl, HB _ _⟩) | (exfalso; rename_i hh; simp at hh; omega)
      · obtain rfl : pos = s.size := by omega
        have hnx : ∀ ty, (Instr.next (.pointer (some ⟨w.heap.size, 0, none⟩)) true ty).run Tryz.prog (w.iter s s.size) = _ := fun ty => run_next_end w s s.size ty hp
        go_wp2_with fail
        go_ret
        exact ⟨by rw [HN.out, HT.out]; rfl, HB _ _⟩
  · have HN := Lib.hid (nameF_no hz)
    have HB0 := Lib.hid (Below.refl w.heap.size w)
    by_cases h1 : 1 ≤ s.size
    · have h2 : 32 < s.size := by omega
      go_enter Tryz.func113, Tryz.ntmps113
      go_wp2_with fail
      go_ret
      exact ⟨by rw [HN.out]; rfl, HB0⟩
    · have h2 : s.size = 0 := by omega
      go_enter Tryz.func113, Tryz.ntmps113
      go_wp2_with fail
      go_ret
      exact ⟨by rw [HN.out]; rfl, HB0⟩
end Go.Proofs.YtlhfdhmmdnkojaaGreatDoor
namespace Go.Proofs.YtlhfdhmmdnkojaaGreatDoor
open Go.RowKit Dg
set_option maxRecDepth 100000
set_option maxHeartbeats 2000000 in
theorem yisKey_any (s : ByteArray) (w : World) (hs : s.size ≤ 900) (hT : Tabs w) :
    Calls Tryz.prog 200 #[.string s] w fun e w' => e = .returned (.bool (isKeyB s)) ∧ Hid (Below w.heap.size w w') := by
  have HC := Lib.hid (values_any s w hs hT)
  have HK : Hid (¬ s.size = 0 → (isKeyB s = true ↔ ∃ L, Good1 L ∧ keys L = sb s)) := isKeyB_iff s (by omega)
  have HE := Lib.hid (isKeyB_empty s)
  have HZ := Lib.hid (size_e s)
  clear hT
  go_enter Tryz.func200, Tryz.ntmps200
  go_wp2_with fail
  refine HC.out.mono ?_
  rintro e w1 ⟨hR, hb⟩
  rcases hR with ⟨L, v, hG, _, _, hk, rfl, _⟩ | ⟨hno, rfl⟩
  · by_cases h0 : s.size = 0
    · have h1 := HE.out h0
      have hz : s.toList.isEmpty = true := by rw [HZ.out]; simp [h0]
      go_wp2_with fail
      go_ret
      exact ⟨by rw [h1]; rfl, hb⟩
    · have h1 := (HK.out h0).2 ⟨L, hG, hk⟩
      have hz : s.toList.isEmpty = false := by rw [HZ.out]; simp [h0]
      go_wp2_with fail
      go_ret
      exact ⟨by rw [h1]; rfl, hb⟩
  · have h1 : isKeyB s = false := by
      by_cases h0 : s.size = 0
      · exact HE.out h0
      · rw [← Bool.not_eq_true, HK.out h0]
        rintro ⟨L, hL, hk⟩
        exact hno L hL hk
    clear hno
    go_wp2_with fail
    go_ret
    exact ⟨by rw [h1]; rfl, hb⟩
/-- The key of an Int. -/
def kI (n : Int) : ByteArray := bs (keys [⟨2, n, ⟨#[]⟩⟩])
end Go.Proofs.YtlhfdhmmdnkojaaGreatDoor
namespace Go.Proofs.YtlhfdhmmdnkojaaGreatDoor
open Go.RowKit Dg
set_option maxRecDepth 100000
theorem atFirstEnd (w' : World) (g : Nat) (c0 c1 c2 : Value) (tmps : Array Value) (hp : tmps.getD 2 undef = .pointer (some ⟨g, 0, none⟩)) (hh : Has w' g 143 #[c0, c1, c2]) :
    (results Tryz.f197 tmps).run Tryz.prog w' = .ok (.agg #[c0, c1, c2]) w' :=
  results_cell_row rfl _ _ g 143 #[c0, c1, c2] (0, 0) _ hp hh Tryz.underlying143 rfl (by kernel_rfl)
set_option maxHeartbeats 1000000 in
theorem atFirst_any (s : ByteArray) (w : World) : Calls Tryz.prog 197 #[.string s] w fun e w' => e = .returned (.agg #[.string s, .bool false, .string ⟨#[]⟩]) ∧ Hid (Below w.heap.size w w') := by
  have HP := Lib.hid (Has.new w 143 #[.string s, .bool false, .string ⟨#[]⟩])
  have HB := Lib.hid ((Below.refl w.heap.size w).alloc (Nat.le_refl _) (.cells #[.string s, .bool false, .string ⟨#[]⟩] 143))
  go_enter Tryz.func197, Tryz.ntmps197
  go_wp2_with fail
  exact bodyPost_ret (atFirstEnd _ w.heap.size _ _ _ _ rfl HP.out) rfl ⟨rfl, HB⟩
theorem atEndEnd (w' : World) (g : Nat) (c0 c1 c2 : Value) (tmps : Array Value) (hp : tmps.getD 2 undef = .pointer (some ⟨g, 0, none⟩)) (hh : Has w' g 143 #[c0, c1, c2]) :
    (results Tryz.f198 tmps).run Tryz.prog w' = .ok (.agg #[c0, c1, c2]) w' :=
  results_cell_row rfl _ _ g 143 #[c0, c1, c2] (0, 0) _ hp hh Tryz.underlying143 rfl (by kernel_rfl)
set_option maxHeartbeats 1000000 in
theorem atEnd_any (s : ByteArray) (w : World) : Calls Tryz.prog 198 #[.string s] w fun e w' => e = .returned (.agg #[.string s, .bool true, .string ⟨#[]⟩]) ∧ Hid (Below w.heap.size w w') := by
  have HP := Lib.hid (Has.new w 143 #[.string s, .bool true, .string ⟨#[]⟩])
  have HB := Lib.hid ((Below.refl w.heap.size w).alloc (Nat.le_refl _) (.cells #[.string s, .bool true, .string ⟨#[]⟩] 143))
  go_enter Tryz.func198, Tryz.ntmps198
  go_wp2_with fail
  exact bodyPost_ret (atEndEnd _ w.heap.size _ _ _ _ rfl HP.out) rfl ⟨rfl, HB⟩
theorem upToEnd (w' : World) (g : Nat) (c0 c1 c2 : Value) (tmps : Array Value) (hp : tmps.getD 4 undef = .pointer (some ⟨g, 0, none⟩)) (hh : Has w' g 143 #[c0, c1, c2]) :
    (results Tryz.f199 tmps).run Tryz.prog w' = .ok (.agg #[c0, c1, c2]) w' :=
  results_cell_row rfl _ _ g 143 #[c0, c1, c2] (0, 0) _ hp hh Tryz.underlying143 rfl (by kernel_rfl)
set_option maxHeartbeats 1000000 in
theorem upTo_any (s k : ByteArray) (w : World) : Calls Tryz.prog 199 #[.string s, .string k] w fun e w' => e = .returned (.agg #[.string s, .bool false, .string k]) ∧ Hid (Below w.heap.size w w') := by
  have HP := Lib.hid (Has.new w 143 #[.string s, .bool false, .string k])
  have HB := Lib.hid ((Below.refl w.heap.size w).alloc (Nat.le_refl _) (.cells #[.string s, .bool false, .string k] 143))
  go_enter Tryz.func199, Tryz.ntmps199
  go_wp2_with fail
  exact bodyPost_ret (upToEnd _ w.heap.size _ _ _ _ rfl HP.out) rfl ⟨rfl, HB⟩
theorem slice_inj {A A' : Option Addr} {n n' c c' : Nat} (h : Value.slice A n c = .slice A' n' c') : A = A' ∧ n = n' ∧ c = c' := by
  injection h with h1 h2 h3
  exact ⟨h1, h2, h3⟩
end Go.Proofs.YtlhfdhmmdnkojaaGreatDoor
namespace Go.Proofs.YtlhfdhmmdnkojaaGreatDoor
open Go.RowKit Dg
set_option maxRecDepth 100000
theorem leq_not {x y : List UInt8} (h : Op.bytesLess y x = true) : Op.bytesLess x y = false ∧ (x == y) = false := by
  refine ⟨yless_asymm _ _ h, ?_⟩
  rw [beq_eq_false_iff_ne]
  rintro rfl
  rw [yless_irrefl] at h; cases h
theorem leq_is {x y : List UInt8} (h : Op.bytesLess y x = false) : Op.bytesLess x y = true ∨ Op.bytesLess x y = false ∧ (x == y) = true := by
  cases h2 : Op.bytesLess x y
  · right
    exact ⟨rfl, by rw [yless_total _ _ h2 h]; simp⟩
  · exact .inl rfl
end Go.Proofs.YtlhfdhmmdnkojaaGreatDoor
