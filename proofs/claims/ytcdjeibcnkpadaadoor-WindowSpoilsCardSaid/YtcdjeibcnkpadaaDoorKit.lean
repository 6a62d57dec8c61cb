/-
  Small words on memory for this seat's walks: a block known whole, a slice that reads as a list of bytes; and numbers as the walk writes them.
-/
import Derived.Test.YtcdjeibcnkpadaaDoorMath
import Derived.WalkKit
import Derived.WalkSpells
import Derived.WalkLawsBesides
import Derived.Lib.Hide
import Derived.Deep.AppendSrc
namespace Go.Proofs.YtcdjeibcnkpadaaDoor
open Go.RowKit Dg

/-! ### numbers -/
theorem or128 : ∀ x : Fin 256, x.val ||| 128 = x.val % 128 + 128 := by decide +kernel
theorem and127 : ∀ x : Fin 256, x.val &&& 127 = x.val % 128 := by decide +kernel
theorem pow7 (k : Nat) : 2 ^ (7 * k) = 128 ^ k := by rw [Nat.pow_mul]
theorem int_div_pow (n k : Nat) : (n : Int) / 2 ^ (7 * k) = ((n / 128 ^ k : Nat) : Int) := by
  rw [← pow7, Int.natCast_ediv, Int.natCast_pow]; rfl
theorem bits_or128 (n k : Nat) : bits .or .u8 ((n : Int) / 2 ^ (7 * k) % 256) 128 = ((n / 128 ^ k % 128 + 128 : Nat) : Int) := by
  rw [int_div_pow]
  have e : ((n / 128 ^ k : Nat) : Int) % 256 = ((n / 128 ^ k % 256 : Nat) : Int) := by omega
  rw [e]
  have h := u8_or_nat (n / 128 ^ k % 256) 128 (by omega) (by omega)
  have o := or128 ⟨n / 128 ^ k % 256, by omega⟩
  simp only at o
  rw [o] at h
  refine h.trans ?_
  omega
theorem bits_and127 (m : Nat) : bits .and .u8 ((m % 128 + 128 : Nat) : Int) 127 = ((m % 128 : Nat) : Int) := by
  have h := u8_and_nat (m % 128 + 128) 127 (by omega) (by omega)
  have o := and127 ⟨m % 128 + 128, by omega⟩
  simp only at o
  rw [o] at h
  refine h.trans ?_
  omega

/-- The number that a signed one stands as. -/
def zig (n : Int) : Nat := if 0 ≤ n then (2 * n).toNat else (-2 * n - 1).toNat
theorem xor_ones (a : Nat) (ha : a < 18446744073709551616) : a ^^^ 18446744073709551615 = 18446744073709551615 - a := by
  have h : (BitVec.ofNat 64 a ^^^ BitVec.allOnes 64).toNat = (~~~ BitVec.ofNat 64 a).toNat := by rw [BitVec.xor_allOnes]
  rw [BitVec.toNat_xor, BitVec.toNat_not, BitVec.toNat_ofNat, BitVec.toNat_allOnes] at h
  rw [Nat.mod_eq_of_lt (by simpa using ha)] at h
  simpa using h
theorem wrap64_even (n : Int) : IntKind.u64.wrap (wrap64 (n * 2)) = (n * 2) % 18446744073709551616 := by
  rw [IntKind.wrap_u64]; unfold wrap64; omega
theorem zig_bits (n : Int) (h0 : -9223372036854775808 ≤ n) (h1 : n ≤ 9223372036854775807) :
    bits .xor .u64 (IntKind.u64.wrap (wrap64 (n * 2))) (IntKind.u64.wrap (n / 9223372036854775808)) = (zig n : Int) := by
  rw [wrap64_even, IntKind.wrap_u64]
  unfold zig
  by_cases h : 0 ≤ n
  · have e1 : n / 9223372036854775808 % 18446744073709551616 = ((0 : Nat) : Int) := by omega
    have e2 : n * 2 % 18446744073709551616 = (((2 * n).toNat : Nat) : Int) := by omega
    rw [if_pos h, e1, e2, u64_xor_nat _ _ (by omega) (by omega), Nat.xor_zero]
  · have e1 : n / 9223372036854775808 % 18446744073709551616 = ((18446744073709551615 : Nat) : Int) := by omega
    have e2 : n * 2 % 18446744073709551616 = (((n * 2 + 18446744073709551616).toNat : Nat) : Int) := by omega
    rw [if_neg h, e1, e2, u64_xor_nat _ _ (by omega) (by omega), xor_ones _ (by omega)]
    omega
theorem zig_lt (n : Int) (h0 : -9223372036854775808 ≤ n) (h1 : n ≤ 9223372036854775807) : zig n < 18446744073709551616 := by
  unfold zig; split <;> omega
/-- The signed number that stands as n. -/
def zag (n : Nat) : Int := if n % 2 = 0 then ((n / 2 : Nat) : Int) else -((n / 2 : Nat) : Int) - 1
theorem zag_zig (n : Int) : zag (zig n) = n := by
  unfold zag zig; split <;> split <;> omega

/-! ### a block that is known whole -/
def Has (w : World) (g : Nat) (t : TypeId) (cs : Array Value) : Prop := w.heap[g]? = some (.cells cs t (0, 0))
section
variable {w w' : World} {g : Nat} {t : TypeId} {cs : Array Value}
theorem Has.lt (h : Has w g t cs) : g < w.heap.size := by
  unfold Has at h
  exact (Array.getElem?_eq_some_iff.1 h).1
theorem Has.cell (h : Has w g t cs) (i : Nat) : w.cell? ⟨g, i, none⟩ = cs[i]? := cell_of_row w g i cs t (0, 0) h
theorem Has.free (h : Has w g t cs) (i : Nat) : w.frozen? ⟨g, i, none⟩ = false := by
  unfold Has at h
  simp [World.frozen?, h]
theorem Has.new (w : World) (t : TypeId) (cs : Array Value) : Has (w.alloc (.cells cs t)) w.heap.size t cs := heap_alloc_new w _
theorem Has.drewN (h : Has w g t cs) (n : Nat) : Has (w.drewN n) g t cs := h
theorem Has.drew (h : Has w g t cs) : Has w.drew g t cs := h
theorem Has.alloc (h : Has w g t cs) (o : Obj) : Has (w.alloc o) g t cs := (Below.heap_alloc w o g h.lt).trans h
theorem Has.put (h : Has w g t cs) (i : Nat) (u : Value) : Has (w.setCell ⟨g, i, none⟩ u) g t (cs.setIfInBounds i u) := by
  unfold Has at h ⊢
  simp [World.setCell, Array.getElem?_modify, h]
theorem Has.far (h : Has w g t cs) {p : Addr} (hp : g ≠ p.block) (u : Value) : Has (w.setCell p u) g t cs := (Below.heap_setCell w p u g hp).trans h
theorem Has.below {B : Nat} (h : Has w g t cs) (hb : Below B w w') (hg : g < B) : Has w' g t cs := (hb.block g hg).trans h
theorem size_set (w : World) (p : Addr) (u : Value) : (w.setCell p u).heap.size = w.heap.size := by simp [World.setCell]
end

/-- A byte as a value. -/
def bv (x : Nat) : Value := .int .u8 (x : Int)

theorem below_drewN {B : Nat} {a w : World} (h : Below B a w) (n : Nat) : Below B a (w.drewN n) := ⟨h.os, h.tape, h.output, h.size, h.block⟩

/-! ### the digits as they are written -/
def arr (n L k : Nat) : Array Value := ((List.range L).map (fun j => if j < k then Value.int .u8 ((n / 128 ^ j % 128 + 128 : Nat) : Int) else .int .u8 0)).toArray
theorem arr_get (n L k j : Nat) (h : j < L) : (arr n L k)[j]? = some (if j < k then Value.int .u8 ((n / 128 ^ j % 128 + 128 : Nat) : Int) else .int .u8 0) := by
  simp [arr, h]
theorem arr_size (n L k : Nat) : (arr n L k).size = L := by simp [arr]
theorem arr_put (n L k : Nat) : (arr n L k).setIfInBounds k (.int .u8 ((n / 128 ^ k % 128 + 128 : Nat) : Int)) = arr n L (k + 1) := by
  apply Array.ext_getElem?
  intro j
  rw [Array.getElem?_setIfInBounds, arr_size]
  by_cases hj : j < L
  · rw [arr_get n L k j hj, arr_get n L (k + 1) j hj]
    by_cases e : k = j
    · subst e; rw [if_pos rfl, if_pos hj, if_pos (by omega)]
    · rw [if_neg e]
      by_cases hjk : j < k
      · rw [if_pos hjk, if_pos (by omega)]
      · rw [if_neg hjk, if_neg (by omega)]
  · have e1 : (arr n L k)[j]? = none := by rw [Array.getElem?_eq_none]; rw [arr_size]; omega
    have e2 : (arr n L (k + 1))[j]? = none := by rw [Array.getElem?_eq_none]; rw [arr_size]; omega
    rw [e1, e2]
    split
    · rw [if_neg (by omega)]
    · rfl
theorem arr_zero (n L : Nat) : madeCells (Value.int .u8 0).cells (L * 1) = arr n L 0 := by
  apply Array.ext_getElem?
  intro j
  by_cases hj : j < L
  · rw [arr_get n L 0 j hj]
    have e0 : j % 1 = 0 := by omega
    simp [madeCells, Value.cells, hj, e0]
  · have e2 : (arr n L 0)[j]? = none := by rw [Array.getElem?_eq_none]; rw [arr_size]; omega
    rw [e2, Array.getElem?_eq_none]
    rw [size_madeCells]; omega
theorem arr_end (n L : Nat) (hL : (digs n).length = L) (hp : 0 < L) :
    (arr n L L).setIfInBounds (L - 1) (.int .u8 ((n / 128 ^ (L - 1) % 128 : Nat) : Int)) = ((digs n).map bv).toArray := by
  have hr := digs_range n
  rw [hL] at hr
  apply Array.ext_getElem?
  intro j
  have ht : ∀ (l : List Value) (i : Nat), l.toArray[i]? = l[i]? := fun l i => by simp
  rw [Array.getElem?_setIfInBounds, arr_size, ht ((digs n).map bv), hr]
  by_cases hj : j < L
  · rw [arr_get n L L j hj]
    simp only [List.map_map, List.getElem?_map, List.getElem?_range hj, Option.map_some, Function.comp, bv, digAt]
    by_cases e : L - 1 = j
    · subst e; rw [if_pos rfl, if_pos hj, if_pos (by omega)]
    · rw [if_neg e, if_pos hj, if_neg (by omega)]
  · have e1 : (arr n L L)[j]? = none := by rw [Array.getElem?_eq_none]; rw [arr_size]; omega
    rw [e1, if_neg (by omega)]
    symm
    rw [List.getElem?_eq_none]
    simp; omega

/-! ### a slice that reads as bytes -/
/-- The cells at A read as the bytes l (nothing is asked where there are none). -/
def Rd (w : World) (A : Option Addr) (l : List Nat) : Prop :=
  l ≠ [] → ∃ b off, A = some ⟨b, off, none⟩ ∧ ∀ i (h : i < l.length), w.cell? ⟨b, off + i, none⟩ = some (bv l[i])
theorem Rd.nil (w : World) (A : Option Addr) : Rd w A [] := fun h => absurd rfl h
theorem Rd.keep {w w' : World} {A : Option Addr} {l : List Nat} (h : Rd w A l) (hk : ∀ (p : Addr) (x : Nat), w.cell? p = some (bv x) → w'.cell? p = w.cell? p) : Rd w' A l := fun hl => by
  obtain ⟨b, off, e, hc⟩ := h hl
  exact ⟨b, off, e, fun i hi => (hk _ _ (hc i hi)).trans (hc i hi)⟩
theorem Rd.below {w w' : World} {A : Option Addr} {l : List Nat} (h : Rd w A l) (hb : Below w.heap.size w w') : Rd w' A l :=
  h.keep fun p _ hp => hb.cell (World.block_lt_of_cell? w p hp)
theorem Rd.of_has {w : World} {g : Nat} {t : TypeId} {cs : Array Value} {l : List Nat} (h : Has w g t cs) (hc : ∀ i (hi : i < l.length), cs[i]? = some (bv l[i])) : Rd w (some ⟨g, 0, none⟩) l := fun _ =>
  ⟨g, 0, rfl, fun i hi => by rw [Nat.zero_add, h.cell]; exact hc i hi⟩
theorem Rd.drop {w : World} {b off : Nat} {l : List Nat} (h : Rd w (some ⟨b, off, none⟩) l) (k : Nat) : Rd w (some ⟨b, off + k, none⟩) (l.drop k) := fun hl => by
  have hk : l ≠ [] := by rintro rfl; simp at hl
  obtain ⟨b', off', e, hc⟩ := h hk
  injection e with e
  injection e with e1 e2
  subst e1; subst e2
  refine ⟨b, off + k, rfl, fun i hi => ?_⟩
  rw [List.length_drop] at hi
  rw [Nat.add_assoc, hc (k + i) (by omega), List.getElem_drop]
theorem Rd.take {w : World} {A : Option Addr} {l : List Nat} (h : Rd w A l) (k : Nat) : Rd w A (l.take k) := fun hl => by
  have hk : l ≠ [] := by rintro rfl; simp at hl
  obtain ⟨b, off, e, hc⟩ := h hk
  refine ⟨b, off, e, fun i hi => ?_⟩
  rw [List.length_take] at hi
  rw [hc i (by omega), List.getElem_take]

section
variable {P : Program}
theorem firstCells_rd (w : World) (A : Option Addr) (l : List Nat) (c : Nat) (h : Rd w A l) :
    (Builtin.firstCells 1 l.length (.slice A l.length c)).run P w = .ok (l.map bv).toArray w := by
  rcases A with _ | a
  · have hl : l = [] := by
      rcases l with _ | ⟨x, l⟩
      · rfl
      · obtain ⟨b, off, e, _⟩ := h (by simp)
        cases e
    subst hl
    exact run_firstCells_none w 1 0 0 c
  · refine run_firstCells_some w 1 l.length a l.length c (l.map bv) (by simp) fun j v hj => ?_
    have hjl : j < l.length := by
      have := (List.getElem?_eq_some_iff.1 hj).1
      simpa using this
    obtain ⟨b, off, e, hc⟩ := h (by rintro rfl; simp at hjl)
    injection e with e
    subst e
    rw [Addr.add_lit, hc j hjl]
    simpa [hjl] using hj
theorem bv_one : ∀ (l : List Nat), ∀ u ∈ l.map bv, u.oneCell' = true := fun l u hu => by
  obtain ⟨x, _, rfl⟩ := List.mem_map.1 hu
  rfl
theorem src_rd (w : World) {tx e' : TypeId} (hk : P.underlying tx = some (.slice e')) (A : Option Addr) (l : List Nat) (c : Nat) (h : Rd w A l) :
    Src P 1 tx (.slice A l.length c) l.length (l.map bv) w :=
  ⟨.inl ⟨e', hk⟩, fun _ => rfl, firstCells_rd w A l c h, firstCells_rd w.drew A l c h, by simp, bv_one l⟩

/-- An append whose run is known, as a step of the walk. -/
theorem wpList_app {ops : Array Oper} {rest : List Oper} {o : Oper} {a : Act} {w : World} {Q : Exit → Act → World → Prop} (hgd : o.guard = none) (s x : Operand) (t tx : TypeId)
    (ho : o.op = .call { callee := .builtin .append, args := #[s, x], argTypes := #[t, tx] }) (v xv : Value) (hs : a.eval s = v) (hx : a.eval x = xv)
    (hrun : ∃ R W', (Builtin.append_ #[t, tx] o.type #[v, xv]).run P w = .ok R W' ∧ wpList P ops Q rest (a.put o.dst R) W') : wpList P ops Q (o :: rest) a w := by
  obtain ⟨R, W', hrun, h⟩ := hrun
  refine wpList_plain hgd fun K hK => ?_
  unfold Oper.wp execOp
  simp only [ho, resolve, invoke, builtin, Sem.run_bind, Sem.run_pure, Result.andThen_ok, List.map_toArray, List.map_cons, List.map_nil, hs, hx, hrun]
  exact hK _ _ h

/-- What is made: a slice with the bytes l, and nothing that was there has turned. -/
def Made (w : World) (l : List Nat) (v : Value) (w' : World) : Prop := ∃ A c, v = .slice A l.length c ∧ l.length ≤ c ∧ Rd w' A l ∧ Below w.heap.size w w'

/-- An append that has no room: all is copied to a new block. -/
theorem run_app_grow (w : World) {t tx e : TypeId} (ty : TypeId) {i : TypeInfo} (ht : P.underlying t = some (.slice e)) (hi : P.info? e = some i) (hz : i.zero = some (.int .u8 0)) (h1 : i.size = 1) (h2 : i.bytes = 1)
    (A : Option Addr) (l : List Nat) (c : Nat) (hl : Rd w A l) (x : Value) (m : List Nat) (hs : Src P 1 tx x m.length (m.map bv) w) (hg : c < l.length + m.length) (hb : l.length + m.length ≤ 1000000) :
    ∃ R W', (Builtin.append_ #[t, tx] ty #[.slice A l.length c, x]).run P w = .ok R W' ∧ Made w (l ++ m) R W' := by
  have hr := run_append_grow_src (P := P) w t tx ty e i (.int .u8 0) ht hi hz A l.length c (l.map bv) (by rw [h1]; exact firstCells_rd w.drew A l c hl) x m.length (m.map bv) (by rw [h1]; exact hs) hg (by omega) (growslice_fits hg (by rw [h2]; omega))
  refine ⟨_, _, hr, ?_⟩
  have hge := grownCap_ge w (l.length + m.length) c e
  refine ⟨_, _, by rw [List.length_append], by rw [List.length_append]; exact hge, ?_, ((Below.refl _ w).drew).alloc (Nat.le_refl _) _⟩
  refine Rd.of_has (Has.new w.drew e _) fun j hj => ?_
  have hj' : j < (l.map bv ++ m.map bv).length := by simpa using hj
  rw [Array.getElem?_append_left (by simpa using hj)]
  have ht : ∀ (l : List Value) (i : Nat), l.toArray[i]? = l[i]? := fun l i => by simp
  rw [ht, ← List.map_append, List.getElem?_map, List.getElem?_eq_getElem hj]
  rfl
/-- An append of nothing. -/
theorem run_app_none (w : World) {t tx e : TypeId} (ty : TypeId) {i : TypeInfo} (ht : P.underlying t = some (.slice e)) (hi : P.info? e = some i) (h1 : i.size = 1)
    (b off n c : Nat) (x : Value) (hs : Src P 1 tx x 0 [] w) (hc : n ≤ c) :
    (Builtin.append_ #[t, tx] ty #[.slice (some ⟨b, off, none⟩) n c, x]).run P w = .ok (.slice (some ⟨b, off, none⟩) n c) w := by
  have hr := run_append_room_src (P := P) w t tx ty e i ht hi b off n c x 0 [] (by rw [h1]; exact hs) (by omega) (by simp) (by simp)
  simpa [World.setCells] using hr
end

end Go.Proofs.YtcdjeibcnkpadaaDoor
