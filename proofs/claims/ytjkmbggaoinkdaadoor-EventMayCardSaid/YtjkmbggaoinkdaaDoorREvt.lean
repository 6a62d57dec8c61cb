/-
  The document's event, made of any.
-/
import Derived.Test.YtjkmbggaoinkdaaDoorRMay
import Derived.Deep.RegionHeld3
namespace Go.Proofs.YtjkmbggaoinkdaaDoor
open Go.RowKit Dg
set_option linter.unusedVariables false
set_option linter.unusedSimpArgs false
set_option maxRecDepth 100000
/-- Whatever was there and is none of X lies as it lay. -/
structure Tur (X : List Nat) (w w' : World) : Prop where
  os : w'.os = w.os
  tape : w'.tape = w.tape
  output : w'.output = w.output
  size : w.heap.size ≤ w'.heap.size
  block : ∀ k, k < w.heap.size → k ∉ X → w'.heap[k]? = w.heap[k]?
/-- What is there now was there, or is new. -/
def Fre (X X' : List Nat) (w : World) : Prop := ∀ b ∈ X', b ∈ X ∨ w.heap.size ≤ b
theorem Tur.refl (X : List Nat) (w : World) : Tur X w w := ⟨rfl, rfl, rfl, Nat.le_refl _, fun _ _ _ => rfl⟩
theorem Fre.refl (X : List Nat) (w : World) : Fre X X w := fun _ h => .inl h
theorem Tur.trans {X X' : List Nat} {a b c : World} (h : Tur X a b) (k : Tur X' b c) (hf : Fre X X' a) : Tur X a c :=
  ⟨k.os.trans h.os, k.tape.trans h.tape, k.output.trans h.output, Nat.le_trans h.size k.size, fun i hi hx => (k.block i (Nat.lt_of_lt_of_le hi h.size) fun hx' => (hf i hx').elim hx (fun hh => by omega)).trans (h.block i hi hx)⟩
theorem Fre.trans {X X' X2 : List Nat} {a b : World} (h : Fre X X' a) (k : Fre X' X2 b) (hs : a.heap.size ≤ b.heap.size) : Fre X X2 a := fun i hi => (k i hi).elim (h i) fun hh => .inr (by omega)
theorem Tur.of_below {X : List Nat} {w w' : World} (h : Below w.heap.size w w') : Tur X w w' := ⟨h.os, h.tape, h.output, h.size, fun k hk _ => h.block k hk⟩
theorem Tur.below {X : List Nat} {w w' : World} {B : Nat} (h : Tur X w w') (hx : ∀ b ∈ X, B ≤ b) (hB : B ≤ w.heap.size) : Below B w w' :=
  ⟨h.os, h.tape, h.output, h.size, fun k hk => h.block k (by omega) fun hh => by have := hx k hh; omega⟩
theorem Tur.setCell {X : List Nat} (w : World) {p : Addr} (hp : p.block ∈ X) (u : Value) : Tur X w (w.setCell p u) :=
  ⟨rfl, rfl, rfl, by simp [World.setCell], fun k _ hx => Below.heap_setCell _ _ _ _ (fun e => hx (e ▸ hp))⟩
theorem Tur.alloc (X : List Nat) (w : World) (o : Obj) : Tur X w (w.alloc o) := Tur.of_below ((Below.refl _ w).alloc (Nat.le_refl _) o)
theorem Tur.drew (X : List Nat) (w : World) : Tur X w w.drew := ⟨rfl, rfl, rfl, Nat.le_refl _, fun _ _ _ => rfl⟩
theorem Tur.grown {X : List Nat} {w w' : World} {row : Option Nat} (hg : w.grownBy w' row) (hr : ∀ k, row = some k → k ∈ X) : Tur X w w' :=
  ⟨hg.os, hg.tape, hg.output, hg.size, fun k hk hx => hg.block k hk fun e => hx (hr k e.symm)⟩
theorem Tur.sub {X Y : List Nat} {w w' : World} (h : Tur X w w') (hs : ∀ b ∈ X, b ∈ Y) : Tur Y w w' := ⟨h.os, h.tape, h.output, h.size, fun k hk hy => h.block k hk fun hx => hy (hs k hx)⟩
theorem Has.tur {X : List Nat} {w w' : World} {g : Nat} {t : TypeId} {cs : Array Value} (h : Has w g t cs) (ht : Tur X w w') (hg : g ∉ X) : Has w' g t cs := (ht.block g h.lt hg).trans h
def put12 (W : World) (g : Nat) (u0 u1 u2 u3 u4 u5 u6 u7 u8 u9 u10 u11 : Value) : World := ((((((((((((W.setCell ⟨g, 0, none⟩ u0).setCell ⟨g, 1, none⟩ u1).setCell ⟨g, 2, none⟩ u2).setCell ⟨g, 3, none⟩ u3).setCell ⟨g, 4, none⟩ u4).setCell ⟨g, 5, none⟩ u5).setCell ⟨g, 6, none⟩ u6).setCell ⟨g, 7, none⟩ u7).setCell ⟨g, 8, none⟩ u8).setCell ⟨g, 9, none⟩ u9).setCell ⟨g, 10, none⟩ u10).setCell ⟨g, 11, none⟩ u11)
theorem put12_has {W : World} {g : Nat} {t : TypeId} {a0 a1 a2 a3 a4 a5 a6 a7 a8 a9 a10 a11 : Value} (h : Has W g t #[a0, a1, a2, a3, a4, a5, a6, a7, a8, a9, a10, a11]) (u0 u1 u2 u3 u4 u5 u6 u7 u8 u9 u10 u11 : Value) : Has (put12 W g u0 u1 u2 u3 u4 u5 u6 u7 u8 u9 u10 u11) g t #[u0, u1, u2, u3, u4, u5, u6, u7, u8, u9, u10, u11] := by
  have h0 : Has (W.setCell ⟨g, 0, none⟩ u0) g t #[u0, a1, a2, a3, a4, a5, a6, a7, a8, a9, a10, a11] := h.put 0 u0
  have h1 : Has ((W.setCell ⟨g, 0, none⟩ u0).setCell ⟨g, 1, none⟩ u1) g t #[u0, u1, a2, a3, a4, a5, a6, a7, a8, a9, a10, a11] := h0.put 1 u1
  have h2 : Has (((W.setCell ⟨g, 0, none⟩ u0).setCell ⟨g, 1, none⟩ u1).setCell ⟨g, 2, none⟩ u2) g t #[u0, u1, u2, a3, a4, a5, a6, a7, a8, a9, a10, a11] := h1.put 2 u2
  have h3 : Has ((((W.setCell ⟨g, 0, none⟩ u0).setCell ⟨g, 1, none⟩ u1).setCell ⟨g, 2, none⟩ u2).setCell ⟨g, 3, none⟩ u3) g t #[u0, u1, u2, u3, a4, a5, a6, a7, a8, a9, a10, a11] := h2.put 3 u3
  have h4 : Has (((((W.setCell ⟨g, 0, none⟩ u0).setCell ⟨g, 1, none⟩ u1).setCell ⟨g, 2, none⟩ u2).setCell ⟨g, 3, none⟩ u3).setCell ⟨g, 4, none⟩ u4) g t #[u0, u1, u2, u3, u4, a5, a6, a7, a8, a9, a10, a11] := h3.put 4 u4
  have h5 : Has ((((((W.setCell ⟨g, 0, none⟩ u0).setCell ⟨g, 1, none⟩ u1).setCell ⟨g, 2, none⟩ u2).setCell ⟨g, 3, none⟩ u3).setCell ⟨g, 4, none⟩ u4).setCell ⟨g, 5, none⟩ u5) g t #[u0, u1, u2, u3, u4, u5, a6, a7, a8, a9, a10, a11] := h4.put 5 u5
  have h6 : Has (((((((W.setCell ⟨g, 0, none⟩ u0).setCell ⟨g, 1, none⟩ u1).setCell ⟨g, 2, none⟩ u2).setCell ⟨g, 3, none⟩ u3).setCell ⟨g, 4, none⟩ u4).setCell ⟨g, 5, none⟩ u5).setCell ⟨g, 6, none⟩ u6) g t #[u0, u1, u2, u3, u4, u5, u6, a7, a8, a9, a10, a11] := h5.put 6 u6
  have h7 : Has ((((((((W.setCell ⟨g, 0, none⟩ u0).setCell ⟨g, 1, none⟩ u1).setCell ⟨g, 2, none⟩ u2).setCell ⟨g, 3, none⟩ u3).setCell ⟨g, 4, none⟩ u4).setCell ⟨g, 5, none⟩ u5).setCell ⟨g, 6, none⟩ u6).setCell ⟨g, 7, none⟩ u7) g t #[u0, u1, u2, u3, u4, u5, u6, u7, a8, a9, a10, a11] := h6.put 7 u7
  have h8 : Has (((((((((W.setCell ⟨g, 0, none⟩ u0).setCell ⟨g, 1, none⟩ u1).setCell ⟨g, 2, none⟩ u2).setCell ⟨g, 3, none⟩ u3).setCell ⟨g, 4, none⟩ u4).setCell ⟨g, 5, none⟩ u5).setCell ⟨g, 6, none⟩ u6).setCell ⟨g, 7, none⟩ u7).setCell ⟨g, 8, none⟩ u8) g t #[u0, u1, u2, u3, u4, u5, u6, u7, u8, a9, a10, a11] := h7.put 8 u8
  have h9 : Has ((((((((((W.setCell ⟨g, 0, none⟩ u0).setCell ⟨g, 1, none⟩ u1).setCell ⟨g, 2, none⟩ u2).setCell ⟨g, 3, none⟩ u3).setCell ⟨g, 4, none⟩ u4).setCell ⟨g, 5, none⟩ u5).setCell ⟨g, 6, none⟩ u6).setCell ⟨g, 7, none⟩ u7).setCell ⟨g, 8, none⟩ u8).setCell ⟨g, 9, none⟩ u9) g t #[u0, u1, u2, u3, u4, u5, u6, u7, u8, u9, a10, a11] := h8.put 9 u9
  have h10 : Has (((((((((((W.setCell ⟨g, 0, none⟩ u0).setCell ⟨g, 1, none⟩ u1).setCell ⟨g, 2, none⟩ u2).setCell ⟨g, 3, none⟩ u3).setCell ⟨g, 4, none⟩ u4).setCell ⟨g, 5, none⟩ u5).setCell ⟨g, 6, none⟩ u6).setCell ⟨g, 7, none⟩ u7).setCell ⟨g, 8, none⟩ u8).setCell ⟨g, 9, none⟩ u9).setCell ⟨g, 10, none⟩ u10) g t #[u0, u1, u2, u3, u4, u5, u6, u7, u8, u9, u10, a11] := h9.put 10 u10
  have h11 : Has ((((((((((((W.setCell ⟨g, 0, none⟩ u0).setCell ⟨g, 1, none⟩ u1).setCell ⟨g, 2, none⟩ u2).setCell ⟨g, 3, none⟩ u3).setCell ⟨g, 4, none⟩ u4).setCell ⟨g, 5, none⟩ u5).setCell ⟨g, 6, none⟩ u6).setCell ⟨g, 7, none⟩ u7).setCell ⟨g, 8, none⟩ u8).setCell ⟨g, 9, none⟩ u9).setCell ⟨g, 10, none⟩ u10).setCell ⟨g, 11, none⟩ u11) g t #[u0, u1, u2, u3, u4, u5, u6, u7, u8, u9, u10, u11] := h10.put 11 u11
  exact h11
theorem put12_tur (W : World) (g : Nat) (u0 u1 u2 u3 u4 u5 u6 u7 u8 u9 u10 u11 : Value) : Tur [g] W (put12 W g u0 u1 u2 u3 u4 u5 u6 u7 u8 u9 u10 u11) := ((((((((((((Tur.refl [g] W).trans (Tur.setCell _ (p := ⟨g, 0, none⟩) (by simp) u0) (Fre.refl _ _)).trans (Tur.setCell _ (p := ⟨g, 1, none⟩) (by simp) u1) (Fre.refl _ _)).trans (Tur.setCell _ (p := ⟨g, 2, none⟩) (by simp) u2) (Fre.refl _ _)).trans (Tur.setCell _ (p := ⟨g, 3, none⟩) (by simp) u3) (Fre.refl _ _)).trans (Tur.setCell _ (p := ⟨g, 4, none⟩) (by simp) u4) (Fre.refl _ _)).trans (Tur.setCell _ (p := ⟨g, 5, none⟩) (by simp) u5) (Fre.refl _ _)).trans (Tur.setCell _ (p := ⟨g, 6, none⟩) (by simp) u6) (Fre.refl _ _)).trans (Tur.setCell _ (p := ⟨g, 7, none⟩) (by simp) u7) (Fre.refl _ _)).trans (Tur.setCell _ (p := ⟨g, 8, none⟩) (by simp) u8) (Fre.refl _ _)).trans (Tur.setCell _ (p := ⟨g, 9, none⟩) (by simp) u9) (Fre.refl _ _)).trans (Tur.setCell _ (p := ⟨g, 10, none⟩) (by simp) u10) (Fre.refl _ _)).trans (Tur.setCell _ (p := ⟨g, 11, none⟩) (by simp) u11) (Fre.refl _ _)
theorem VRow.tur {X : List Nat} {w w' : World} {A : Option Addr} {L : List Vl} (h : VRow w A L) (ht : Tur X w w') (ho : ∀ a, A = some a → a.block ∉ X) : VRow w' A L := fun hne => by
  obtain ⟨b, off, e, hc⟩ := h hne
  have hb := ho _ e
  have k : ∀ (i : Nat) (v : Value), w.cell? ⟨b, i, none⟩ = some v → w'.cell? ⟨b, i, none⟩ = some v := fun i v h => (World.cell?_of_block (ht.block b (World.block_lt_of_cell? w _ h) hb)).trans h
  exact ⟨b, off, e, fun i hi => ⟨k _ _ (hc i hi).1, k _ _ (hc i hi).2.1, k _ _ (hc i hi).2.2⟩⟩
theorem evEnd (w' : World) (g : Nat) (u0 u1 u2 u3 u4 u5 u6 u7 u8 u9 u10 u11 : Value) (tmps : Array Value) (hp : tmps.getD 4 undef = .pointer (some ⟨g, 0, none⟩)) (hh : Has w' g 33 #[u0, u1, u2, u3, u4, u5, u6, u7, u8, u9, u10, u11]) :
    (results Tryd.f8 tmps).run Tryd.prog w' = .ok (.agg #[u0, u1, u2, u3, u4, u5, u6, u7, u8, u9, u10, u11]) w' :=
  results_cell_row rfl _ _ g 33 #[u0, u1, u2, u3, u4, u5, u6, u7, u8, u9, u10, u11] (0, 0) _ hp hh Tryd.underlying33 rfl (by kernel_rfl)
/-- Where a row of values lies. -/
theorem ownV_blk {B : Nat} {w : World} {v : Value} {L : List Vl} (h : OwnV B w v L) : ∃ A n c, v = .slice A n c ∧ Hid (L.length = n) ∧ n ≤ c ∧ c ≤ maxLen ∧ Hid (VRow w A L) ∧ Hid (∀ a, A = some a → B ≤ a.block ∧ a.block < w.heap.size) ∧ Hid (A = none ∨ ∃ b off, A = some ⟨b, off, none⟩) := by
  rcases h.2 with ⟨hv, hn⟩ | ⟨g, cap, cur, hv, hg, hh, hc, hcm, hsz, ht⟩
  · obtain rfl := List.eq_nil_of_length_eq_zero hn
    exact ⟨none, 0, 0, hv, rfl, Nat.le_refl _, Nat.zero_le _, (fun h => absurd rfl h), (fun a e => by cases e), .inl rfl⟩
  · obtain ⟨A, c, e, h1, h2, h3, h4⟩ := ownV_row h
    rw [hv] at e
    injection e with e1 e2 e3
    subst e1 e3
    exact ⟨_, _, _, hv, rfl, hc, hcm, h3, (fun a e => by injection e with e; subst e; exact ⟨hg, Has.lt (t := 101) (cs := cur) hh⟩), .inr ⟨g, 0, rfl⟩⟩
theorem keepW3 {w W : World} {a : Addr} {v : Value} (hb : Below w.heap.size w W) (h : w.cell? a = some v) : W.cell? a = some v := (hb.cell (World.block_lt_of_cell? _ _ h)).trans h
/-- The boxes of the document's Event: the event's, the result's, the schema's, the new one's. -/
structure Sv (w W : World) (g q : Nat) (e : Array Value) (s0 s1 : Value) (o : Array Value) : Prop where
  he : Has W w.heap.size 33 e
  hr : Has W (w.heap.size + 1) 33 #[.int .i64 0, .int .i64 0, .string ⟨#[]⟩, .slice none 0 0, .slice none 0 0, .int .i64 0, .string ⟨#[]⟩, .slice none 0 0, .int .i64 0, .string ⟨#[]⟩, .int .i64 0, .bool false]
  hs : Has W g 27 #[s0, s1]
  ho : Has W q 33 o
  bel : Below w.heap.size w W
  lo : w.heap.size + 1 < g ∧ g < q
theorem Sv.below {w W W' : World} {g q : Nat} {e : Array Value} {s0 s1 : Value} {o : Array Value} (h : Sv w W g q e s0 s1 o) (hb : Below W.heap.size W W') : Sv w W' g q e s0 s1 o :=
  ⟨h.he.below hb h.he.lt, h.hr.below hb h.hr.lt, h.hs.below hb h.hs.lt, h.ho.below hb h.ho.lt, h.bel.trans (hb.mono h.bel.size), h.lo⟩
theorem Sv.put {w W : World} {g q : Nat} {e : Array Value} {s0 s1 : Value} {o : Array Value} (h : Sv w W g q e s0 s1 o) (j : Nat) (u : Value) : Sv w (W.setCell ⟨q, j, none⟩ u) g q e s0 s1 (o.setIfInBounds j u) :=
  ⟨h.he.far (p := ⟨q, j, none⟩) (by have := h.lo; show w.heap.size ≠ q; omega) u, h.hr.far (p := ⟨q, j, none⟩) (by have := h.lo; show w.heap.size + 1 ≠ q; omega) u, h.hs.far (p := ⟨q, j, none⟩) (by have := h.lo; show g ≠ q; omega) u, h.ho.put j u, h.bel.setCell (p := ⟨q, j, none⟩) (by have := h.lo; show w.heap.size ≤ q; omega) u, h.lo⟩
theorem Sv.put12 {w W : World} {g q : Nat} {e : Array Value} {s0 s1 : Value} {a0 a1 a2 a3 a4 a5 a6 a7 a8 a9 a10 a11 : Value} (h : Sv w W g q e s0 s1 #[a0, a1, a2, a3, a4, a5, a6, a7, a8, a9, a10, a11]) (u0 u1 u2 u3 u4 u5 u6 u7 u8 u9 u10 u11 : Value) : Sv w (put12 W q u0 u1 u2 u3 u4 u5 u6 u7 u8 u9 u10 u11) g q e s0 s1 #[u0, u1, u2, u3, u4, u5, u6, u7, u8, u9, u10, u11] := by
  have ht := put12_tur W q u0 u1 u2 u3 u4 u5 u6 u7 u8 u9 u10 u11
  have hl := h.lo
  exact ⟨h.he.tur ht (by simp; omega), h.hr.tur ht (by simp; omega), h.hs.tur ht (by simp; omega), put12_has h.ho _ _ _ _ _ _ _ _ _ _ _ _, (Tur.of_below (X := [q]) h.bel).trans ht (Fre.refl _ _) |>.below (B := w.heap.size) (fun k hk => by simp at hk; omega) (Nat.le_refl _), hl⟩
/-- The same without the new one. -/
structure Su (w W : World) (g : Nat) (e : Array Value) (s0 s1 : Value) : Prop where
  he : Has W w.heap.size 33 e
  hr : Has W (w.heap.size + 1) 33 #[.int .i64 0, .int .i64 0, .string ⟨#[]⟩, .slice none 0 0, .slice none 0 0, .int .i64 0, .string ⟨#[]⟩, .slice none 0 0, .int .i64 0, .string ⟨#[]⟩, .int .i64 0, .bool false]
  hs : Has W g 27 #[s0, s1]
  bel : Below w.heap.size w W
  lo : w.heap.size + 1 < g
theorem Su.out {w W : World} {g : Nat} {e : Array Value} {s0 s1 : Value} (h : Su w W g e s0 s1) (o : Array Value) : Sv w (W.alloc (.cells o 33)) g W.heap.size e s0 s1 o :=
  ⟨h.he.alloc _, h.hr.alloc _, h.hs.alloc _, Has.new _ _ _, h.bel.alloc h.bel.size _, ⟨h.lo, h.hs.lt⟩⟩
theorem Su.pute {w W : World} {g : Nat} {e : Array Value} {s0 s1 : Value} (h : Su w W g e s0 s1) (j : Nat) (u : Value) : Su w (W.setCell ⟨w.heap.size, j, none⟩ u) g (e.setIfInBounds j u) s0 s1 :=
  ⟨h.he.put j u, h.hr.far (p := ⟨w.heap.size, j, none⟩) (by show w.heap.size + 1 ≠ w.heap.size; omega) u, h.hs.far (p := ⟨w.heap.size, j, none⟩) (by have := h.lo; show g ≠ w.heap.size; omega) u, h.bel.setCell (p := ⟨w.heap.size, j, none⟩) (Nat.le_refl _) u, h.lo⟩
theorem Su.puts {w W : World} {g : Nat} {e : Array Value} {s0 s1 : Value} (h : Su w W g e s0 s1) (u0 u1 : Value) : Su w ((W.setCell ⟨g, 0, none⟩ u0).setCell ⟨g, 1, none⟩ u1) g e u0 u1 :=
  ⟨(h.he.far (p := ⟨g, 0, none⟩) (by have := h.lo; show w.heap.size ≠ g; omega) u0).far (p := ⟨g, 1, none⟩) (by have := h.lo; show w.heap.size ≠ g; omega) u1, (h.hr.far (p := ⟨g, 0, none⟩) (by have := h.lo; show w.heap.size + 1 ≠ g; omega) u0).far (p := ⟨g, 1, none⟩) (by have := h.lo; show w.heap.size + 1 ≠ g; omega) u1, (h.hs.put 0 u0).put 1 u1, (h.bel.setCell (p := ⟨g, 0, none⟩) (by have := h.lo; show w.heap.size ≤ g; omega) u0).setCell (p := ⟨g, 1, none⟩) (by have := h.lo; show w.heap.size ≤ g; omega) u1, h.lo⟩
theorem evw_row {P : World} (k n : Int) (t : ByteArray) (Bl Al : List Vl) (Ab : Option Addr) (nb zb : Nat) (Aa : Option Addr) (na za : Nat) (hB : Bl.length = nb ∧ nb ≤ zb ∧ VRow P Ab Bl ∧ ∀ y ∈ Bl, y.fit) (hA : Al.length = na ∧ na ≤ za ∧ VRow P Aa Al ∧ ∀ y ∈ Al, y.fit) (h1 : (nb : Int) ≤ 9223372036854775807) (h2 : (na : Int) ≤ 9223372036854775807) :
    EvW P ⟨k, n, t, Bl, Al, 0, ⟨#[]⟩, [], 0, ⟨⟨#[]⟩, 0, false⟩⟩ Ab nb zb Aa na za none 0 0 :=
  ⟨⟨_, _, _, _, _, _, _, _, _, rfl, ⟨hB.1, h1, hB.2.2.1⟩, ⟨hA.1, h2, hA.2.2.1⟩, rfl, by omega, fun h => absurd rfl h⟩, hB, hA, h1, h2, ⟨rfl, by omega, (fun h => absurd rfl h), (fun y hy => by cases hy)⟩, by show (0 : Nat) ≤ _; omega, ⟨by show (0 : Nat) ≤ _; omega, by show _ ≤ (0 : Int); omega, by show (0 : Int) ≤ _; omega⟩⟩
theorem nilB (P : World) : ([] : List Vl).length = 0 ∧ 0 ≤ 0 ∧ VRow P none [] ∧ ∀ y ∈ ([] : List Vl), y.fit := ⟨rfl, Nat.le_refl _, (fun h => absurd rfl h), (fun y hy => by cases hy)⟩
theorem evw_chg {P : World} (ck : Int) (ct : ByteArray) (A : Option Addr) (n c : Nat) (L : List Cl) (K : Int) (cl : Cl) (hl : L.length = n ∧ n ≤ 1000 ∧ CRow P A L ∧ ∀ y ∈ L, y.fit) (hct : ct.size ≤ 140737488355328) (hcl : cl.fit) :
    EvW P ⟨6, 0, ⟨#[]⟩, [], [], ck, ct, L, K, cl⟩ none 0 0 none 0 0 A n c :=
  ⟨⟨_, _, _, _, _, _, _, _, _, rfl, ⟨rfl, by omega, fun h => absurd rfl h⟩, ⟨rfl, by omega, fun h => absurd rfl h⟩, hl.1, hl.2.1, hl.2.2.1⟩, nilB P, nilB P, by omega, by omega, hl, hct, hcl⟩
/-- What the document's Event comes to: an event, as it lies. -/
def EvOut (w : World) (e : Ending) (w' : World) : Prop := ∃ f Ab' nb' zb' Aa' na' za' A' n' c', e = .returned (.agg #[.int .i64 f.k, .int .i64 f.n, .string f.t, .slice Ab' nb' zb', .slice Aa' na' za', .int .i64 f.ck, .string f.ct, .slice A' n' c', .int .i64 f.K, .string f.cl.nm, .int .i64 f.cl.k, .bool f.cl.no]) ∧ Hid (EvW w' f Ab' nb' zb' Aa' na' za' A' n' c') ∧ Hid (Below w.heap.size w w')
set_option maxHeartbeats 16000000 in
theorem revent_any (x : Ev) (Ab : Option Addr) (nb zb : Nat) (Aa : Option Addr) (na za : Nat) (A : Option Addr) (n c : Nat) (At : Option Addr) (nt ctt : Nat) (T : List Tb) (w : World) (h : EvW w x Ab nb zb Aa na za A n c) (hfB : ∀ y ∈ x.B, y.fits) (hfA : ∀ y ∈ x.A, y.fits) (hzb : zb ≤ maxLen) (hza : za ≤ maxLen) (hT : TbW w At nt ctt T) (hGS : ∀ y ∈ T, ∃ k : Nat, y.K = (k : Int) ∧ GoodS y.L k) (hm : -9223372036854775808 ≤ x.n ∧ x.n ≤ 9223372036854775807) :
    Calls Tryd.prog 8 #[.agg #[.int .i64 x.k, .int .i64 x.n, .string x.t, .slice Ab nb zb, .slice Aa na za, .int .i64 x.ck, .string x.ct, .slice A n c, .int .i64 x.K, .string x.cl.nm, .int .i64 x.cl.k, .bool x.cl.no], .slice At nt ctt] w fun e w' => EvOut w e w' := by
  obtain ⟨w1, hw1⟩ : ∃ W, W = (w.alloc (.cells #[.int .i64 x.k, .int .i64 x.n, .string x.t, .slice Ab nb zb, .slice Aa na za, .int .i64 x.ck, .string x.ct, .slice A n c, .int .i64 x.K, .string x.cl.nm, .int .i64 x.cl.k, .bool x.cl.no] 33)).alloc (.cells #[.int .i64 0, .int .i64 0, .string ⟨#[]⟩, .slice none 0 0, .slice none 0 0, .int .i64 0, .string ⟨#[]⟩, .slice none 0 0, .int .i64 0, .string ⟨#[]⟩, .int .i64 0, .bool false] 33) := ⟨_, rfl⟩
  have hb1 : Below w.heap.size w w1 := by rw [hw1]; exact ((Below.refl w.heap.size w).alloc (Nat.le_refl _) _).alloc (by simp) _
  have HE1 : Hid (Has w1 w.heap.size 33 #[.int .i64 x.k, .int .i64 x.n, .string x.t, .slice Ab nb zb, .slice Aa na za, .int .i64 x.ck, .string x.ct, .slice A n c, .int .i64 x.K, .string x.cl.nm, .int .i64 x.cl.k, .bool x.cl.no]) := by rw [hw1]; exact (Has.new _ _ _).alloc _
  have hr := Has.new (w.alloc (.cells #[.int .i64 x.k, .int .i64 x.n, .string x.t, .slice Ab nb zb, .slice Aa na za, .int .i64 x.ck, .string x.ct, .slice A n c, .int .i64 x.K, .string x.cl.nm, .int .i64 x.cl.k, .bool x.cl.no] 33)) 33 #[.int .i64 0, .int .i64 0, .string ⟨#[]⟩, .slice none 0 0, .slice none 0 0, .int .i64 0, .string ⟨#[]⟩, .slice none 0 0, .int .i64 0, .string ⟨#[]⟩, .int .i64 0, .bool false]
  rw [World.size_alloc, ← hw1] at hr
  have HR1 := Lib.hid hr
  have HB1 := Lib.hid hb1
  have HFD := Lib.hid (find6_any At T nt ctt x.t w1 hT.len hT.few (hT.row.below hb1))
  have HFF : Hid ((∀ y ∈ x.B, y.fits) ∧ (∀ y ∈ x.A, y.fits) ∧ zb ≤ maxLen ∧ za ≤ maxLen) := ⟨hfB, hfA, hzb, hza⟩
  have HGS := Lib.hid hGS
  have HW := Lib.hid h
  have HTT := Lib.hid hT
  have u2 : w1.cell? ⟨w.heap.size, 2, none⟩ = some (.string x.t) := HE1.out.cell 2
  replace hw1 := hw1.symm
  clear hr hb1 h hT hfB hfA hzb hza hGS
  obtain ⟨k, m, t, B, AA, ck, ct, L, K, ⟨cn, cq, cb⟩⟩ := x
  have hsz1 : w.heap.size + 1 < w1.heap.size := HR1.out.lt
  by_cases hk : k = 3 ∨ k = 4 ∨ k = 5 ∨ k = 6
  · rcases hk with rfl | rfl | rfl | rfl
    · cases hp : plF T t
      · go_enter Tryd.func8, Tryd.ntmps8
        go_wp2_with fail
        refine HFD.out.mono ?_
        rintro e w2 ⟨rfl, hb2⟩
        rw [tfV_no HTT.out.sort hp]
        by_cases hnt : 0 < nt
        · have g0 : (0 : Int) < (nt : Int) := by omega
          have h0T : 0 < T.length := by rw [HTT.out.len]; omega
          obtain ⟨bt, ot, rfl, hct⟩ := HTT.out.row (by intro e; rw [e] at h0T; simp at h0T)
          have hct0 := hct 0 h0T
          obtain ⟨y, hy⟩ : ∃ y, T[0] = y := ⟨_, rfl⟩
          have hyT : y ∈ T := hy ▸ List.getElem_mem h0T
          rw [hy] at hct0
          clear hct hy
          obtain ⟨kk, hK, hgs⟩ := HGS.out y hyT
          have hok := HTT.out.ok y hyT
          obtain ⟨ynm, yA, yn, yc, yL, yK⟩ := y
          dsimp only at hK hgs hok hct0
          subst hK
          simp only [Nat.zero_mul, Nat.add_zero] at hct0
          obtain ⟨p0, p1, p2⟩ := hct0
          obtain ⟨W3z, hW3z⟩ : ∃ W, W = w2.alloc (.cells #[.slice none 0 0, .int .i64 0] 27) := ⟨_, rfl⟩
          have hsz2 : w.heap.size + 1 < w2.heap.size := Nat.lt_of_lt_of_le hsz1 hb2.out.size
          have HS3z : Hid (Su w W3z w2.heap.size #[.int .i64 3, .int .i64 m, .string t, .slice Ab nb zb, .slice Aa na za, .int .i64 ck, .string ct, .slice A n c, .int .i64 K, .string cn, .int .i64 cq, .bool cb] (.slice none 0 0) (.int .i64 0)) := by
            rw [hW3z]
            exact ⟨(HE1.out.below hb2.out HE1.out.lt).alloc _, (HR1.out.below hb2.out HR1.out.lt).alloc _, Has.new _ _ _, (HB1.out.trans (hb2.out.mono HB1.out.size)).alloc (HB1.out.trans (hb2.out.mono HB1.out.size)).size _, hsz2⟩
          replace hW3z := hW3z.symm
          obtain ⟨g, hg⟩ : ∃ g, w2.heap.size = g := ⟨_, rfl⟩
          rw [hg] at HS3z hsz2
          clear hb2 HFD HE1 HR1 HB1 u2 hw1
          have zz0 := HS3z.out.hs.cell 0
          have zz1 := HS3z.out.hs.cell 1
          have zzf0 := HS3z.out.hs.free 0
          have zzf1 := HS3z.out.hs.free 1
          simp only [List.getElem?_toArray, List.getElem?_cons_zero, List.getElem?_cons_succ] at zz0 zz1
          obtain ⟨W3, hW3⟩ : ∃ W, W = (W3z.setCell ⟨g, 0, none⟩ (.slice none 0 0)).setCell ⟨g, 1, none⟩ (.int .i64 0) := ⟨_, rfl⟩
          have HS3 : Hid (Su w W3 g #[.int .i64 3, .int .i64 m, .string t, .slice Ab nb zb, .slice Aa na za, .int .i64 ck, .string ct, .slice A n c, .int .i64 K, .string cn, .int .i64 cq, .bool cb] (.slice none 0 0) (.int .i64 0)) := by rw [hW3]; exact HS3z.out.puts _ _
          replace hW3 := hW3.symm
          have hb3w := HS3.out.bel
          have x0 : W3.cell? ⟨bt, ot, none⟩ = some (.string ynm) := keepW3 hb3w p0
          obtain ⟨W3a, hW3a⟩ : ∃ W, W = W3.setCell ⟨w.heap.size, 2, none⟩ (.string ynm) := ⟨_, rfl⟩
          have HS3a : Hid (Su w W3a g #[.int .i64 3, .int .i64 m, .string ynm, .slice Ab nb zb, .slice Aa na za, .int .i64 ck, .string ct, .slice A n c, .int .i64 K, .string cn, .int .i64 cq, .bool cb] (.slice none 0 0) (.int .i64 0)) := by rw [hW3a]; exact HS3.out.pute 2 _
          replace hW3a := hW3a.symm
          have x1 : W3a.cell? ⟨bt, ot + 1, none⟩ = some (.slice yA yn yc) := keepW3 HS3a.out.bel p1
          have x2 : W3a.cell? ⟨bt, ot + 1 + 1, none⟩ = some (.int .i64 (kk : Int)) := keepW3 HS3a.out.bel p2
          have x2b : W3a.cell? ⟨bt, ot + 2, none⟩ = some (.int .i64 (kk : Int)) := keepW3 HS3a.out.bel p2
          obtain ⟨W3b, hW3b⟩ : ∃ W, W = (W3a.setCell ⟨g, 0, none⟩ (.slice yA yn yc)).setCell ⟨g, 1, none⟩ (.int .i64 (kk : Int)) := ⟨_, rfl⟩
          have HS3b : Hid (Su w W3b g #[.int .i64 3, .int .i64 m, .string ynm, .slice Ab nb zb, .slice Aa na za, .int .i64 ck, .string ct, .slice A n c, .int .i64 K, .string cn, .int .i64 cq, .bool cb] (.slice yA yn yc) (.int .i64 (kk : Int))) := by rw [hW3b]; exact HS3a.out.puts _ _
          replace hW3b := hW3b.symm
          have x_e0 := HS3.out.he.cell 0
          have x_e2 := HS3.out.he.cell 2
          have x_ef0 := HS3.out.he.free 0
          have x_ef2 := HS3.out.he.free 2
          simp only [List.getElem?_toArray, List.getElem?_cons_zero, List.getElem?_cons_succ] at x_e0 x_e2
          have x_s0 := HS3a.out.hs.cell 0
          have x_s1 := HS3a.out.hs.cell 1
          have x_sf0 := HS3a.out.hs.free 0
          have x_sf1 := HS3a.out.hs.free 1
          simp only [List.getElem?_toArray, List.getElem?_cons_zero, List.getElem?_cons_succ] at x_s0 x_s1
          obtain ⟨W4z, hW4z⟩ : ∃ W, W = W3b.alloc (.cells #[.int .i64 0, .int .i64 0, .string ⟨#[]⟩, .slice none 0 0, .slice none 0 0, .int .i64 0, .string ⟨#[]⟩, .slice none 0 0, .int .i64 0, .string ⟨#[]⟩, .int .i64 0, .bool false] 33) := ⟨_, rfl⟩
          have s4 := HS3b.out.out #[.int .i64 0, .int .i64 0, .string ⟨#[]⟩, .slice none 0 0, .slice none 0 0, .int .i64 0, .string ⟨#[]⟩, .slice none 0 0, .int .i64 0, .string ⟨#[]⟩, .int .i64 0, .bool false]
          rw [← hW4z] at s4
          replace hW4z := hW4z.symm
          obtain ⟨q, hq⟩ : ∃ q, W3b.heap.size = q := ⟨_, rfl⟩
          rw [hq] at s4
          have HS4z := Lib.hid s4
          have nz0 := HS4z.out.ho.cell 0
          have nz1 := HS4z.out.ho.cell 1
          have nz2 := HS4z.out.ho.cell 2
          have nz3 := HS4z.out.ho.cell 3
          have nz4 := HS4z.out.ho.cell 4
          have nz5 := HS4z.out.ho.cell 5
          have nz6 := HS4z.out.ho.cell 6
          have nz7 := HS4z.out.ho.cell 7
          have nz8 := HS4z.out.ho.cell 8
          have nz9 := HS4z.out.ho.cell 9
          have nz10 := HS4z.out.ho.cell 10
          have nz11 := HS4z.out.ho.cell 11
          have nzf0 := HS4z.out.ho.free 0
          have nzf1 := HS4z.out.ho.free 1
          have nzf2 := HS4z.out.ho.free 2
          have nzf3 := HS4z.out.ho.free 3
          have nzf4 := HS4z.out.ho.free 4
          have nzf5 := HS4z.out.ho.free 5
          have nzf6 := HS4z.out.ho.free 6
          have nzf7 := HS4z.out.ho.free 7
          have nzf8 := HS4z.out.ho.free 8
          have nzf9 := HS4z.out.ho.free 9
          have nzf10 := HS4z.out.ho.free 10
          have nzf11 := HS4z.out.ho.free 11
          simp only [List.getElem?_toArray, List.getElem?_cons_zero, List.getElem?_cons_succ] at nz0 nz1 nz2 nz3 nz4 nz5 nz6 nz7 nz8 nz9 nz10 nz11
          obtain ⟨W4, hW4⟩ : ∃ W, put12 W4z q (.int .i64 3) (.int .i64 0) (.string ⟨#[]⟩) (.slice none 0 0) (.slice none 0 0) (.int .i64 0) (.string ⟨#[]⟩) (.slice none 0 0) (.int .i64 0) (.string ⟨#[]⟩) (.int .i64 0) (.bool false) = W := ⟨_, rfl⟩
          have s4b := s4.put12 (.int .i64 3) (.int .i64 0) (.string ⟨#[]⟩) (.slice none 0 0) (.slice none 0 0) (.int .i64 0) (.string ⟨#[]⟩) (.slice none 0 0) (.int .i64 0) (.string ⟨#[]⟩) (.int .i64 0) (.bool false)
          rw [hW4] at s4b
          have HS4 : Hid (Sv w W4 g q _ _ _ #[.int .i64 3, .int .i64 0, .string ⟨#[]⟩, .slice none 0 0, .slice none 0 0, .int .i64 0, .string ⟨#[]⟩, .slice none 0 0, .int .i64 0, .string ⟨#[]⟩, .int .i64 0, .bool false]) := s4b
          have hW4' : ((((((((((((W4z.setCell ⟨q, 0, none⟩ (.int .i64 3)).setCell ⟨q, 1, none⟩ (.int .i64 0)).setCell ⟨q, 2, none⟩ (.string ⟨#[]⟩)).setCell ⟨q, 3, none⟩ (.slice none 0 0)).setCell ⟨q, 4, none⟩ (.slice none 0 0)).setCell ⟨q, 5, none⟩ (.int .i64 0)).setCell ⟨q, 6, none⟩ (.string ⟨#[]⟩)).setCell ⟨q, 7, none⟩ (.slice none 0 0)).setCell ⟨q, 8, none⟩ (.int .i64 0)).setCell ⟨q, 9, none⟩ (.string ⟨#[]⟩)).setCell ⟨q, 10, none⟩ (.int .i64 0)).setCell ⟨q, 11, none⟩ (.bool false)) = W4 := hW4
          clear s4 s4b hW4
          have hlo := HS4.out.lo
          have e0 := HS3b.out.he.cell 0
          have ef0 := HS3b.out.he.free 0
          simp only [List.getElem?_toArray, List.getElem?_cons_zero, List.getElem?_cons_succ] at e0
          have a0 := HS4.out.he.cell 0
          have a1 := HS4.out.he.cell 1
          have a2 := HS4.out.he.cell 2
          have af0 := HS4.out.he.free 0
          have af1 := HS4.out.he.free 1
          have af2 := HS4.out.he.free 2
          simp only [List.getElem?_toArray, List.getElem?_cons_zero, List.getElem?_cons_succ] at a0 a1 a2
          have b2 := HS4.out.ho.cell 2
          have bf2 := HS4.out.ho.free 2
          simp only [List.getElem?_toArray, List.getElem?_cons_zero, List.getElem?_cons_succ] at b2
          obtain ⟨W5, hW5⟩ : ∃ W, W = (W4.setCell ⟨q, 2, none⟩ (.string ynm)) := ⟨_, rfl⟩
          have HS5 : Hid (Sv w W5 g q #[.int .i64 3, .int .i64 m, .string ynm, .slice Ab nb zb, .slice Aa na za, .int .i64 ck, .string ct, .slice A n c, .int .i64 K, .string cn, .int .i64 cq, .bool cb] (.slice yA yn yc) (.int .i64 (kk : Int)) #[.int .i64 3, .int .i64 0, .string ynm, .slice none 0 0, .slice none 0 0, .int .i64 0, .string ⟨#[]⟩, .slice none 0 0, .int .i64 0, .string ⟨#[]⟩, .int .i64 0, .bool false]) := by rw [hW5]; exact (HS4.out.put 2 (.string ynm))
          replace hW5 := hW5.symm
          have c2 := HS5.out.he.cell 2
          have c3 := HS5.out.he.cell 3
          have c4 := HS5.out.he.cell 4
          have cf2 := HS5.out.he.free 2
          have cf3 := HS5.out.he.free 3
          have cf4 := HS5.out.he.free 4
          simp only [List.getElem?_toArray, List.getElem?_cons_zero, List.getElem?_cons_succ] at c2 c3 c4
          have s0 := HS5.out.hs.cell 0
          have s1 := HS5.out.hs.cell 1
          have sf0 := HS5.out.hs.free 0
          have sf1 := HS5.out.hs.free 1
          simp only [List.getElem?_toArray, List.getElem?_cons_zero, List.getElem?_cons_succ] at s0 s1
          have hbw5 := HS5.out.bel
          have HRW := Lib.hid (row_any yA yL yn yc (kk : Int) Aa AA na za W5 hok.len hok.few (hok.row.below hbw5) (fun y hy => (goodS_fit yL kk hgs y hy).2.2.2) HW.out.a.1 HW.out.a.2.1 HFF.out.2.2.2 (HW.out.a.2.2.1.below hbw5) HFF.out.2.1)
          go_wp2_with fail
          refine HRW.out.mono ?_
          rintro e w6 ⟨v6, rfl, ho6, hb6⟩
          obtain ⟨A6, n6, c6, rfl, hn6, hc6, hm6, hr6, hg6, _⟩ := ownV_blk ho6.out
          have HS6 := Lib.hid (HS5.out.below hb6.out)
          have hq5 : q < W5.heap.size := HS5.out.ho.lt
          clear HRW ho6 hb6 hbw5 c2 cf2 c3 cf3 c4 cf4 s0 sf0 s1 sf1 b2 bf2 a0 af0 a1 af1 a2 af2 e0 ef0 nz0 nzf0 nz1 nzf1 nz2 nzf2 nz3 nzf3 nz4 nzf4 nz5 nzf5 nz6 nzf6 nz7 nzf7 nz8 nzf8 nz9 nzf9 nz10 nzf10 nz11 nzf11
          have b4 := HS6.out.ho.cell 4
          have bf4 := HS6.out.ho.free 4
          simp only [List.getElem?_toArray, List.getElem?_cons_zero, List.getElem?_cons_succ] at b4
          obtain ⟨W7, hW7⟩ : ∃ W, W = (w6.setCell ⟨q, 4, none⟩ (.slice A6 n6 c6)) := ⟨_, rfl⟩
          have HS7 : Hid (Sv w W7 g q #[.int .i64 3, .int .i64 m, .string ynm, .slice Ab nb zb, .slice Aa na za, .int .i64 ck, .string ct, .slice A n c, .int .i64 K, .string cn, .int .i64 cq, .bool cb] (.slice yA yn yc) (.int .i64 (kk : Int)) #[.int .i64 3, .int .i64 0, .string ynm, .slice none 0 0, .slice A6 n6 c6, .int .i64 0, .string ⟨#[]⟩, .slice none 0 0, .int .i64 0, .string ⟨#[]⟩, .int .i64 0, .bool false]) := by rw [hW7]; exact (HS6.out.put 4 (.slice A6 n6 c6))
          replace hW7 := hW7.symm
          have ht7 : Tur [q] w6 W7 := by rw [← hW7]; exact Tur.setCell w6 (p := ⟨q, 4, none⟩) (by simp) _
          have u0 := HS7.out.ho.cell 0
          have u1 := HS7.out.ho.cell 1
          have u2 := HS7.out.ho.cell 2
          have u3 := HS7.out.ho.cell 3
          have u4 := HS7.out.ho.cell 4
          have u5 := HS7.out.ho.cell 5
          have u6 := HS7.out.ho.cell 6
          have u7 := HS7.out.ho.cell 7
          have u8 := HS7.out.ho.cell 8
          have u9 := HS7.out.ho.cell 9
          have u10 := HS7.out.ho.cell 10
          have u11 := HS7.out.ho.cell 11
          have uf0 := HS7.out.ho.free 0
          have uf1 := HS7.out.ho.free 1
          have uf2 := HS7.out.ho.free 2
          have uf3 := HS7.out.ho.free 3
          have uf4 := HS7.out.ho.free 4
          have uf5 := HS7.out.ho.free 5
          have uf6 := HS7.out.ho.free 6
          have uf7 := HS7.out.ho.free 7
          have uf8 := HS7.out.ho.free 8
          have uf9 := HS7.out.ho.free 9
          have uf10 := HS7.out.ho.free 10
          have uf11 := HS7.out.ho.free 11
          simp only [List.getElem?_toArray, List.getElem?_cons_zero, List.getElem?_cons_succ] at u0 u1 u2 u3 u4 u5 u6 u7 u8 u9 u10 u11
          have v0 := HS7.out.hr.cell 0
          have v1 := HS7.out.hr.cell 1
          have v2 := HS7.out.hr.cell 2
          have v3 := HS7.out.hr.cell 3
          have v4 := HS7.out.hr.cell 4
          have v5 := HS7.out.hr.cell 5
          have v6 := HS7.out.hr.cell 6
          have v7 := HS7.out.hr.cell 7
          have v8 := HS7.out.hr.cell 8
          have v9 := HS7.out.hr.cell 9
          have v10 := HS7.out.hr.cell 10
          have v11 := HS7.out.hr.cell 11
          have vf0 := HS7.out.hr.free 0
          have vf1 := HS7.out.hr.free 1
          have vf2 := HS7.out.hr.free 2
          have vf3 := HS7.out.hr.free 3
          have vf4 := HS7.out.hr.free 4
          have vf5 := HS7.out.hr.free 5
          have vf6 := HS7.out.hr.free 6
          have vf7 := HS7.out.hr.free 7
          have vf8 := HS7.out.hr.free 8
          have vf9 := HS7.out.hr.free 9
          have vf10 := HS7.out.hr.free 10
          have vf11 := HS7.out.hr.free 11
          simp only [List.getElem?_toArray, List.getElem?_cons_zero, List.getElem?_cons_succ] at v0 v1 v2 v3 v4 v5 v6 v7 v8 v9 v10 v11
          go_wp2_with fail
          have HF : Hid (Has (put12 W7 (w.heap.size + 1) (.int .i64 3) (.int .i64 0) (.string ynm) (.slice none 0 0) (.slice A6 n6 c6) (.int .i64 0) (.string ⟨#[]⟩) (.slice none 0 0) (.int .i64 0) (.string ⟨#[]⟩) (.int .i64 0) (.bool false)) (w.heap.size + 1) 33 #[.int .i64 3, .int .i64 0, .string ynm, .slice none 0 0, .slice A6 n6 c6, .int .i64 0, .string ⟨#[]⟩, .slice none 0 0, .int .i64 0, .string ⟨#[]⟩, .int .i64 0, .bool false]) := put12_has HS7.out.hr (.int .i64 3) (.int .i64 0) (.string ynm) (.slice none 0 0) (.slice A6 n6 c6) (.int .i64 0) (.string ⟨#[]⟩) (.slice none 0 0) (.int .i64 0) (.string ⟨#[]⟩) (.int .i64 0) (.bool false)
          have ht : Tur [w.heap.size + 1] W7 (put12 W7 (w.heap.size + 1) (.int .i64 3) (.int .i64 0) (.string ynm) (.slice none 0 0) (.slice A6 n6 c6) (.int .i64 0) (.string ⟨#[]⟩) (.slice none 0 0) (.int .i64 0) (.string ⟨#[]⟩) (.int .i64 0) (.bool false)) := put12_tur _ _ (.int .i64 3) (.int .i64 0) (.string ynm) (.slice none 0 0) (.slice A6 n6 c6) (.int .i64 0) (.string ⟨#[]⟩) (.slice none 0 0) (.int .i64 0) (.string ⟨#[]⟩) (.int .i64 0) (.bool false)
          have hbe : Below w.heap.size w (put12 W7 (w.heap.size + 1) (.int .i64 3) (.int .i64 0) (.string ynm) (.slice none 0 0) (.slice A6 n6 c6) (.int .i64 0) (.string ⟨#[]⟩) (.slice none 0 0) (.int .i64 0) (.string ⟨#[]⟩) (.int .i64 0) (.bool false)) := (Tur.of_below (X := [w.heap.size + 1]) HS7.out.bel).trans ht (Fre.refl _ _) |>.below (B := w.heap.size) (fun k hk => by simp at hk; omega) (Nat.le_refl _)
          refine bodyPost_ret (v := .agg #[.int .i64 3, .int .i64 0, .string ynm, .slice none 0 0, .slice A6 n6 c6, .int .i64 0, .string ⟨#[]⟩, .slice none 0 0, .int .i64 0, .string ⟨#[]⟩, .int .i64 0, .bool false]) (evEnd (put12 W7 (w.heap.size + 1) (.int .i64 3) (.int .i64 0) (.string ynm) (.slice none 0 0) (.slice A6 n6 c6) (.int .i64 0) (.string ⟨#[]⟩) (.slice none 0 0) (.int .i64 0) (.string ⟨#[]⟩) (.int .i64 0) (.bool false)) (w.heap.size + 1) (.int .i64 3) (.int .i64 0) (.string ynm) (.slice none 0 0) (.slice A6 n6 c6) (.int .i64 0) (.string ⟨#[]⟩) (.slice none 0 0) (.int .i64 0) (.string ⟨#[]⟩) (.int .i64 0) (.bool false) _ rfl HF.out) rfl ?_
          exact ⟨⟨3, 0, ynm, [], rowF yL AA, 0, ⟨#[]⟩, [], 0, ⟨⟨#[]⟩, 0, false⟩⟩, none, 0, 0, A6, n6, c6, none, 0, 0, rfl, evw_row 3 0 ynm [] (rowF yL AA) none 0 0 A6 n6 c6 (nilB _) ⟨hn6.out, hc6, ((hr6.out.tur ht7 (fun a e hh => by have := (hg6.out a e).1; simp at hh; omega)).tur ht (fun a e hh => by have := (hg6.out a e).1; simp at hh; omega)), fun y hy => (rowF_fit yL AA (fun c hc => ⟨(goodS_fit yL kk hgs c hc).2.1, (goodS_fit yL kk hgs c hc).2.2.1⟩) HFF.out.2.1 y hy).1⟩ (by omega) (by unfold maxLen at hm6; omega), hbe⟩
        · have g0 : ¬ (0 : Int) < (nt : Int) := by omega
          obtain ⟨W3z, hW3z⟩ : ∃ W, W = w2.alloc (.cells #[.slice none 0 0, .int .i64 0] 27) := ⟨_, rfl⟩
          have hsz2 : w.heap.size + 1 < w2.heap.size := Nat.lt_of_lt_of_le hsz1 hb2.out.size
          have HS3z : Hid (Su w W3z w2.heap.size #[.int .i64 3, .int .i64 m, .string t, .slice Ab nb zb, .slice Aa na za, .int .i64 ck, .string ct, .slice A n c, .int .i64 K, .string cn, .int .i64 cq, .bool cb] (.slice none 0 0) (.int .i64 0)) := by
            rw [hW3z]
            exact ⟨(HE1.out.below hb2.out HE1.out.lt).alloc _, (HR1.out.below hb2.out HR1.out.lt).alloc _, Has.new _ _ _, (HB1.out.trans (hb2.out.mono HB1.out.size)).alloc (HB1.out.trans (hb2.out.mono HB1.out.size)).size _, hsz2⟩
          replace hW3z := hW3z.symm
          obtain ⟨g, hg⟩ : ∃ g, w2.heap.size = g := ⟨_, rfl⟩
          rw [hg] at HS3z hsz2
          clear hb2 HFD HE1 HR1 HB1 u2 hw1
          have zz0 := HS3z.out.hs.cell 0
          have zz1 := HS3z.out.hs.cell 1
          have zzf0 := HS3z.out.hs.free 0
          have zzf1 := HS3z.out.hs.free 1
          simp only [List.getElem?_toArray, List.getElem?_cons_zero, List.getElem?_cons_succ] at zz0 zz1
          obtain ⟨W3, hW3⟩ : ∃ W, W = (W3z.setCell ⟨g, 0, none⟩ (.slice none 0 0)).setCell ⟨g, 1, none⟩ (.int .i64 0) := ⟨_, rfl⟩
          have HS3 : Hid (Su w W3 g #[.int .i64 3, .int .i64 m, .string t, .slice Ab nb zb, .slice Aa na za, .int .i64 ck, .string ct, .slice A n c, .int .i64 K, .string cn, .int .i64 cq, .bool cb] (.slice none 0 0) (.int .i64 0)) := by rw [hW3]; exact HS3z.out.puts _ _
          replace hW3 := hW3.symm
          obtain ⟨W4z, hW4z⟩ : ∃ W, W = W3.alloc (.cells #[.int .i64 0, .int .i64 0, .string ⟨#[]⟩, .slice none 0 0, .slice none 0 0, .int .i64 0, .string ⟨#[]⟩, .slice none 0 0, .int .i64 0, .string ⟨#[]⟩, .int .i64 0, .bool false] 33) := ⟨_, rfl⟩
          have s4 := HS3.out.out #[.int .i64 0, .int .i64 0, .string ⟨#[]⟩, .slice none 0 0, .slice none 0 0, .int .i64 0, .string ⟨#[]⟩, .slice none 0 0, .int .i64 0, .string ⟨#[]⟩, .int .i64 0, .bool false]
          rw [← hW4z] at s4
          replace hW4z := hW4z.symm
          obtain ⟨q, hq⟩ : ∃ q, W3.heap.size = q := ⟨_, rfl⟩
          rw [hq] at s4
          have HS4z := Lib.hid s4
          have nz0 := HS4z.out.ho.cell 0
          have nz1 := HS4z.out.ho.cell 1
          have nz2 := HS4z.out.ho.cell 2
          have nz3 := HS4z.out.ho.cell 3
          have nz4 := HS4z.out.ho.cell 4
          have nz5 := HS4z.out.ho.cell 5
          have nz6 := HS4z.out.ho.cell 6
          have nz7 := HS4z.out.ho.cell 7
          have nz8 := HS4z.out.ho.cell 8
          have nz9 := HS4z.out.ho.cell 9
          have nz10 := HS4z.out.ho.cell 10
          have nz11 := HS4z.out.ho.cell 11
          have nzf0 := HS4z.out.ho.free 0
          have nzf1 := HS4z.out.ho.free 1
          have nzf2 := HS4z.out.ho.free 2
          have nzf3 := HS4z.out.ho.free 3
          have nzf4 := HS4z.out.ho.free 4
          have nzf5 := HS4z.out.ho.free 5
          have nzf6 := HS4z.out.ho.free 6
          have nzf7 := HS4z.out.ho.free 7
          have nzf8 := HS4z.out.ho.free 8
          have nzf9 := HS4z.out.ho.free 9
          have nzf10 := HS4z.out.ho.free 10
          have nzf11 := HS4z.out.ho.free 11
          simp only [List.getElem?_toArray, List.getElem?_cons_zero, List.getElem?_cons_succ] at nz0 nz1 nz2 nz3 nz4 nz5 nz6 nz7 nz8 nz9 nz10 nz11
          obtain ⟨W4, hW4⟩ : ∃ W, put12 W4z q (.int .i64 3) (.int .i64 0) (.string ⟨#[]⟩) (.slice none 0 0) (.slice none 0 0) (.int .i64 0) (.string ⟨#[]⟩) (.slice none 0 0) (.int .i64 0) (.string ⟨#[]⟩) (.int .i64 0) (.bool false) = W := ⟨_, rfl⟩
          have s4b := s4.put12 (.int .i64 3) (.int .i64 0) (.string ⟨#[]⟩) (.slice none 0 0) (.slice none 0 0) (.int .i64 0) (.string ⟨#[]⟩) (.slice none 0 0) (.int .i64 0) (.string ⟨#[]⟩) (.int .i64 0) (.bool false)
          rw [hW4] at s4b
          have HS4 : Hid (Sv w W4 g q _ _ _ #[.int .i64 3, .int .i64 0, .string ⟨#[]⟩, .slice none 0 0, .slice none 0 0, .int .i64 0, .string ⟨#[]⟩, .slice none 0 0, .int .i64 0, .string ⟨#[]⟩, .int .i64 0, .bool false]) := s4b
          have hW4' : ((((((((((((W4z.setCell ⟨q, 0, none⟩ (.int .i64 3)).setCell ⟨q, 1, none⟩ (.int .i64 0)).setCell ⟨q, 2, none⟩ (.string ⟨#[]⟩)).setCell ⟨q, 3, none⟩ (.slice none 0 0)).setCell ⟨q, 4, none⟩ (.slice none 0 0)).setCell ⟨q, 5, none⟩ (.int .i64 0)).setCell ⟨q, 6, none⟩ (.string ⟨#[]⟩)).setCell ⟨q, 7, none⟩ (.slice none 0 0)).setCell ⟨q, 8, none⟩ (.int .i64 0)).setCell ⟨q, 9, none⟩ (.string ⟨#[]⟩)).setCell ⟨q, 10, none⟩ (.int .i64 0)).setCell ⟨q, 11, none⟩ (.bool false)) = W4 := hW4
          clear s4 s4b hW4
          have hlo := HS4.out.lo
          have e0 := HS3.out.he.cell 0
          have ef0 := HS3.out.he.free 0
          simp only [List.getElem?_toArray, List.getElem?_cons_zero, List.getElem?_cons_succ] at e0
          have a0 := HS4.out.he.cell 0
          have a1 := HS4.out.he.cell 1
          have a2 := HS4.out.he.cell 2
          have af0 := HS4.out.he.free 0
          have af1 := HS4.out.he.free 1
          have af2 := HS4.out.he.free 2
          simp only [List.getElem?_toArray, List.getElem?_cons_zero, List.getElem?_cons_succ] at a0 a1 a2
          have b2 := HS4.out.ho.cell 2
          have bf2 := HS4.out.ho.free 2
          simp only [List.getElem?_toArray, List.getElem?_cons_zero, List.getElem?_cons_succ] at b2
          obtain ⟨W7, hW7⟩ : ∃ W, W = (W4.setCell ⟨q, 2, none⟩ (.string t)) := ⟨_, rfl⟩
          have HS7 : Hid (Sv w W7 g q #[.int .i64 3, .int .i64 m, .string t, .slice Ab nb zb, .slice Aa na za, .int .i64 ck, .string ct, .slice A n c, .int .i64 K, .string cn, .int .i64 cq, .bool cb] (.slice none 0 0) (.int .i64 0) #[.int .i64 3, .int .i64 0, .string t, .slice none 0 0, .slice none 0 0, .int .i64 0, .string ⟨#[]⟩, .slice none 0 0, .int .i64 0, .string ⟨#[]⟩, .int .i64 0, .bool false]) := by rw [hW7]; exact (HS4.out.put 2 (.string t))
          replace hW7 := hW7.symm
          have u0 := HS7.out.ho.cell 0
          have u1 := HS7.out.ho.cell 1
          have u2 := HS7.out.ho.cell 2
          have u3 := HS7.out.ho.cell 3
          have u4 := HS7.out.ho.cell 4
          have u5 := HS7.out.ho.cell 5
          have u6 := HS7.out.ho.cell 6
          have u7 := HS7.out.ho.cell 7
          have u8 := HS7.out.ho.cell 8
          have u9 := HS7.out.ho.cell 9
          have u10 := HS7.out.ho.cell 10
          have u11 := HS7.out.ho.cell 11
          have uf0 := HS7.out.ho.free 0
          have uf1 := HS7.out.ho.free 1
          have uf2 := HS7.out.ho.free 2
          have uf3 := HS7.out.ho.free 3
          have uf4 := HS7.out.ho.free 4
          have uf5 := HS7.out.ho.free 5
          have uf6 := HS7.out.ho.free 6
          have uf7 := HS7.out.ho.free 7
          have uf8 := HS7.out.ho.free 8
          have uf9 := HS7.out.ho.free 9
          have uf10 := HS7.out.ho.free 10
          have uf11 := HS7.out.ho.free 11
          simp only [List.getElem?_toArray, List.getElem?_cons_zero, List.getElem?_cons_succ] at u0 u1 u2 u3 u4 u5 u6 u7 u8 u9 u10 u11
          have v0 := HS7.out.hr.cell 0
          have v1 := HS7.out.hr.cell 1
          have v2 := HS7.out.hr.cell 2
          have v3 := HS7.out.hr.cell 3
          have v4 := HS7.out.hr.cell 4
          have v5 := HS7.out.hr.cell 5
          have v6 := HS7.out.hr.cell 6
          have v7 := HS7.out.hr.cell 7
          have v8 := HS7.out.hr.cell 8
          have v9 := HS7.out.hr.cell 9
          have v10 := HS7.out.hr.cell 10
          have v11 := HS7.out.hr.cell 11
          have vf0 := HS7.out.hr.free 0
          have vf1 := HS7.out.hr.free 1
          have vf2 := HS7.out.hr.free 2
          have vf3 := HS7.out.hr.free 3
          have vf4 := HS7.out.hr.free 4
          have vf5 := HS7.out.hr.free 5
          have vf6 := HS7.out.hr.free 6
          have vf7 := HS7.out.hr.free 7
          have vf8 := HS7.out.hr.free 8
          have vf9 := HS7.out.hr.free 9
          have vf10 := HS7.out.hr.free 10
          have vf11 := HS7.out.hr.free 11
          simp only [List.getElem?_toArray, List.getElem?_cons_zero, List.getElem?_cons_succ] at v0 v1 v2 v3 v4 v5 v6 v7 v8 v9 v10 v11
          go_wp2_with fail
          have HF : Hid (Has (put12 W7 (w.heap.size + 1) (.int .i64 3) (.int .i64 0) (.string t) (.slice none 0 0) (.slice none 0 0) (.int .i64 0) (.string ⟨#[]⟩) (.slice none 0 0) (.int .i64 0) (.string ⟨#[]⟩) (.int .i64 0) (.bool false)) (w.heap.size + 1) 33 #[.int .i64 3, .int .i64 0, .string t, .slice none 0 0, .slice none 0 0, .int .i64 0, .string ⟨#[]⟩, .slice none 0 0, .int .i64 0, .string ⟨#[]⟩, .int .i64 0, .bool false]) := put12_has HS7.out.hr (.int .i64 3) (.int .i64 0) (.string t) (.slice none 0 0) (.slice none 0 0) (.int .i64 0) (.string ⟨#[]⟩) (.slice none 0 0) (.int .i64 0) (.string ⟨#[]⟩) (.int .i64 0) (.bool false)
          have ht : Tur [w.heap.size + 1] W7 (put12 W7 (w.heap.size + 1) (.int .i64 3) (.int .i64 0) (.string t) (.slice none 0 0) (.slice none 0 0) (.int .i64 0) (.string ⟨#[]⟩) (.slice none 0 0) (.int .i64 0) (.string ⟨#[]⟩) (.int .i64 0) (.bool false)) := put12_tur _ _ (.int .i64 3) (.int .i64 0) (.string t) (.slice none 0 0) (.slice none 0 0) (.int .i64 0) (.string ⟨#[]⟩) (.slice none 0 0) (.int .i64 0) (.string ⟨#[]⟩) (.int .i64 0) (.bool false)
          have hbe : Below w.heap.size w (put12 W7 (w.heap.size + 1) (.int .i64 3) (.int .i64 0) (.string t) (.slice none 0 0) (.slice none 0 0) (.int .i64 0) (.string ⟨#[]⟩) (.slice none 0 0) (.int .i64 0) (.string ⟨#[]⟩) (.int .i64 0) (.bool false)) := (Tur.of_below (X := [w.heap.size + 1]) HS7.out.bel).trans ht (Fre.refl _ _) |>.below (B := w.heap.size) (fun k hk => by simp at hk; omega) (Nat.le_refl _)
          refine bodyPost_ret (v := .agg #[.int .i64 3, .int .i64 0, .string t, .slice none 0 0, .slice none 0 0, .int .i64 0, .string ⟨#[]⟩, .slice none 0 0, .int .i64 0, .string ⟨#[]⟩, .int .i64 0, .bool false]) (evEnd (put12 W7 (w.heap.size + 1) (.int .i64 3) (.int .i64 0) (.string t) (.slice none 0 0) (.slice none 0 0) (.int .i64 0) (.string ⟨#[]⟩) (.slice none 0 0) (.int .i64 0) (.string ⟨#[]⟩) (.int .i64 0) (.bool false)) (w.heap.size + 1) (.int .i64 3) (.int .i64 0) (.string t) (.slice none 0 0) (.slice none 0 0) (.int .i64 0) (.string ⟨#[]⟩) (.slice none 0 0) (.int .i64 0) (.string ⟨#[]⟩) (.int .i64 0) (.bool false) _ rfl HF.out) rfl ?_
          exact ⟨⟨3, 0, t, [], [], 0, ⟨#[]⟩, [], 0, ⟨⟨#[]⟩, 0, false⟩⟩, none, 0, 0, none, 0, 0, none, 0, 0, rfl, evw_row 3 0 t [] [] none 0 0 none 0 0 (nilB _) (nilB _) (by omega) (by omega), hbe⟩
      · obtain ⟨hl, _⟩ := plF_tat hp
        go_enter Tryd.func8, Tryd.ntmps8
        go_wp2_with fail
        refine HFD.out.mono ?_
        rintro e w2 ⟨rfl, hb2⟩
        rw [tfV_yes hp hl]
        obtain ⟨y, hy⟩ : ∃ y, T[lbN T t] = y := ⟨_, rfl⟩
        have hyT : y ∈ T := hy ▸ List.getElem_mem hl
        rw [hy]
        clear hy
        obtain ⟨kk, hK, hgs⟩ := HGS.out y hyT
        have hok := HTT.out.ok y hyT
        obtain ⟨ynm, yA, yn, yc, yL, yK⟩ := y
        dsimp only at hK hgs hok ⊢
        subst hK
        obtain ⟨W3, hW3⟩ : ∃ W, W = w2.alloc (.cells #[.slice yA yn yc, .int .i64 (kk : Int)] 27) := ⟨_, rfl⟩
        have hsz2 : w.heap.size + 1 < w2.heap.size := Nat.lt_of_lt_of_le hsz1 hb2.out.size
        have HS3 : Hid (Su w W3 w2.heap.size #[.int .i64 3, .int .i64 m, .string t, .slice Ab nb zb, .slice Aa na za, .int .i64 ck, .string ct, .slice A n c, .int .i64 K, .string cn, .int .i64 cq, .bool cb] (.slice yA yn yc) (.int .i64 (kk : Int))) := by
          rw [hW3]
          exact ⟨(HE1.out.below hb2.out HE1.out.lt).alloc _, (HR1.out.below hb2.out HR1.out.lt).alloc _, Has.new _ _ _, (HB1.out.trans (hb2.out.mono HB1.out.size)).alloc (HB1.out.trans (hb2.out.mono HB1.out.size)).size _, hsz2⟩
        replace hW3 := hW3.symm
        obtain ⟨g, hg⟩ : ∃ g, w2.heap.size = g := ⟨_, rfl⟩
        rw [hg] at HS3 hsz2
        clear hb2 HFD HE1 HR1 HB1 u2 hw1
        obtain ⟨W4z, hW4z⟩ : ∃ W, W = W3.alloc (.cells #[.int .i64 0, .int .i64 0, .string ⟨#[]⟩, .slice none 0 0, .slice none 0 0, .int .i64 0, .string ⟨#[]⟩, .slice none 0 0, .int .i64 0, .string ⟨#[]⟩, .int .i64 0, .bool false] 33) := ⟨_, rfl⟩
        have s4 := HS3.out.out #[.int .i64 0, .int .i64 0, .string ⟨#[]⟩, .slice none 0 0, .slice none 0 0, .int .i64 0, .string ⟨#[]⟩, .slice none 0 0, .int .i64 0, .string ⟨#[]⟩, .int .i64 0, .bool false]
        rw [← hW4z] at s4
        replace hW4z := hW4z.symm
        obtain ⟨q, hq⟩ : ∃ q, W3.heap.size = q := ⟨_, rfl⟩
        rw [hq] at s4
        have HS4z := Lib.hid s4
        have nz0 := HS4z.out.ho.cell 0
        have nz1 := HS4z.out.ho.cell 1
        have nz2 := HS4z.out.ho.cell 2
        have nz3 := HS4z.out.ho.cell 3
        have nz4 := HS4z.out.ho.cell 4
        have nz5 := HS4z.out.ho.cell 5
        have nz6 := HS4z.out.ho.cell 6
        have nz7 := HS4z.out.ho.cell 7
        have nz8 := HS4z.out.ho.cell 8
        have nz9 := HS4z.out.ho.cell 9
        have nz10 := HS4z.out.ho.cell 10
        have nz11 := HS4z.out.ho.cell 11
        have nzf0 := HS4z.out.ho.free 0
        have nzf1 := HS4z.out.ho.free 1
        have nzf2 := HS4z.out.ho.free 2
        have nzf3 := HS4z.out.ho.free 3
        have nzf4 := HS4z.out.ho.free 4
        have nzf5 := HS4z.out.ho.free 5
        have nzf6 := HS4z.out.ho.free 6
        have nzf7 := HS4z.out.ho.free 7
        have nzf8 := HS4z.out.ho.free 8
        have nzf9 := HS4z.out.ho.free 9
        have nzf10 := HS4z.out.ho.free 10
        have nzf11 := HS4z.out.ho.free 11
        simp only [List.getElem?_toArray, List.getElem?_cons_zero, List.getElem?_cons_succ] at nz0 nz1 nz2 nz3 nz4 nz5 nz6 nz7 nz8 nz9 nz10 nz11
        obtain ⟨W4, hW4⟩ : ∃ W, put12 W4z q (.int .i64 3) (.int .i64 0) (.string ⟨#[]⟩) (.slice none 0 0) (.slice none 0 0) (.int .i64 0) (.string ⟨#[]⟩) (.slice none 0 0) (.int .i64 0) (.string ⟨#[]⟩) (.int .i64 0) (.bool false) = W := ⟨_, rfl⟩
        have s4b := s4.put12 (.int .i64 3) (.int .i64 0) (.string ⟨#[]⟩) (.slice none 0 0) (.slice none 0 0) (.int .i64 0) (.string ⟨#[]⟩) (.slice none 0 0) (.int .i64 0) (.string ⟨#[]⟩) (.int .i64 0) (.bool false)
        rw [hW4] at s4b
        have HS4 : Hid (Sv w W4 g q _ _ _ #[.int .i64 3, .int .i64 0, .string ⟨#[]⟩, .slice none 0 0, .slice none 0 0, .int .i64 0, .string ⟨#[]⟩, .slice none 0 0, .int .i64 0, .string ⟨#[]⟩, .int .i64 0, .bool false]) := s4b
        have hW4' : ((((((((((((W4z.setCell ⟨q, 0, none⟩ (.int .i64 3)).setCell ⟨q, 1, none⟩ (.int .i64 0)).setCell ⟨q, 2, none⟩ (.string ⟨#[]⟩)).setCell ⟨q, 3, none⟩ (.slice none 0 0)).setCell ⟨q, 4, none⟩ (.slice none 0 0)).setCell ⟨q, 5, none⟩ (.int .i64 0)).setCell ⟨q, 6, none⟩ (.string ⟨#[]⟩)).setCell ⟨q, 7, none⟩ (.slice none 0 0)).setCell ⟨q, 8, none⟩ (.int .i64 0)).setCell ⟨q, 9, none⟩ (.string ⟨#[]⟩)).setCell ⟨q, 10, none⟩ (.int .i64 0)).setCell ⟨q, 11, none⟩ (.bool false)) = W4 := hW4
        clear s4 s4b hW4
        have hlo := HS4.out.lo
        have e0 := HS3.out.he.cell 0
        have ef0 := HS3.out.he.free 0
        simp only [List.getElem?_toArray, List.getElem?_cons_zero, List.getElem?_cons_succ] at e0
        have a0 := HS4.out.he.cell 0
        have a1 := HS4.out.he.cell 1
        have a2 := HS4.out.he.cell 2
        have af0 := HS4.out.he.free 0
        have af1 := HS4.out.he.free 1
        have af2 := HS4.out.he.free 2
        simp only [List.getElem?_toArray, List.getElem?_cons_zero, List.getElem?_cons_succ] at a0 a1 a2
        have b2 := HS4.out.ho.cell 2
        have bf2 := HS4.out.ho.free 2
        simp only [List.getElem?_toArray, List.getElem?_cons_zero, List.getElem?_cons_succ] at b2
        obtain ⟨W5, hW5⟩ : ∃ W, W = (W4.setCell ⟨q, 2, none⟩ (.string t)) := ⟨_, rfl⟩
        have HS5 : Hid (Sv w W5 g q #[.int .i64 3, .int .i64 m, .string t, .slice Ab nb zb, .slice Aa na za, .int .i64 ck, .string ct, .slice A n c, .int .i64 K, .string cn, .int .i64 cq, .bool cb] (.slice yA yn yc) (.int .i64 (kk : Int)) #[.int .i64 3, .int .i64 0, .string t, .slice none 0 0, .slice none 0 0, .int .i64 0, .string ⟨#[]⟩, .slice none 0 0, .int .i64 0, .string ⟨#[]⟩, .int .i64 0, .bool false]) := by rw [hW5]; exact (HS4.out.put 2 (.string t))
        replace hW5 := hW5.symm
        have c2 := HS5.out.he.cell 2
        have c3 := HS5.out.he.cell 3
        have c4 := HS5.out.he.cell 4
        have cf2 := HS5.out.he.free 2
        have cf3 := HS5.out.he.free 3
        have cf4 := HS5.out.he.free 4
        simp only [List.getElem?_toArray, List.getElem?_cons_zero, List.getElem?_cons_succ] at c2 c3 c4
        have s0 := HS5.out.hs.cell 0
        have s1 := HS5.out.hs.cell 1
        have sf0 := HS5.out.hs.free 0
        have sf1 := HS5.out.hs.free 1
        simp only [List.getElem?_toArray, List.getElem?_cons_zero, List.getElem?_cons_succ] at s0 s1
        have hbw5 := HS5.out.bel
        have HRW := Lib.hid (row_any yA yL yn yc (kk : Int) Aa AA na za W5 hok.len hok.few (hok.row.below hbw5) (fun y hy => (goodS_fit yL kk hgs y hy).2.2.2) HW.out.a.1 HW.out.a.2.1 HFF.out.2.2.2 (HW.out.a.2.2.1.below hbw5) HFF.out.2.1)
        go_wp2_with fail
        refine HRW.out.mono ?_
        rintro e w6 ⟨v6, rfl, ho6, hb6⟩
        obtain ⟨A6, n6, c6, rfl, hn6, hc6, hm6, hr6, hg6, _⟩ := ownV_blk ho6.out
        have HS6 := Lib.hid (HS5.out.below hb6.out)
        have hq5 : q < W5.heap.size := HS5.out.ho.lt
        clear HRW ho6 hb6 hbw5 c2 cf2 c3 cf3 c4 cf4 s0 sf0 s1 sf1 b2 bf2 a0 af0 a1 af1 a2 af2 e0 ef0 nz0 nzf0 nz1 nzf1 nz2 nzf2 nz3 nzf3 nz4 nzf4 nz5 nzf5 nz6 nzf6 nz7 nzf7 nz8 nzf8 nz9 nzf9 nz10 nzf10 nz11 nzf11
        have b4 := HS6.out.ho.cell 4
        have bf4 := HS6.out.ho.free 4
        simp only [List.getElem?_toArray, List.getElem?_cons_zero, List.getElem?_cons_succ] at b4
        obtain ⟨W7, hW7⟩ : ∃ W, W = (w6.setCell ⟨q, 4, none⟩ (.slice A6 n6 c6)) := ⟨_, rfl⟩
        have HS7 : Hid (Sv w W7 g q #[.int .i64 3, .int .i64 m, .string t, .slice Ab nb zb, .slice Aa na za, .int .i64 ck, .string ct, .slice A n c, .int .i64 K, .string cn, .int .i64 cq, .bool cb] (.slice yA yn yc) (.int .i64 (kk : Int)) #[.int .i64 3, .int .i64 0, .string t, .slice none 0 0, .slice A6 n6 c6, .int .i64 0, .string ⟨#[]⟩, .slice none 0 0, .int .i64 0, .string ⟨#[]⟩, .int .i64 0, .bool false]) := by rw [hW7]; exact (HS6.out.put 4 (.slice A6 n6 c6))
        replace hW7 := hW7.symm
        have ht7 : Tur [q] w6 W7 := by rw [← hW7]; exact Tur.setCell w6 (p := ⟨q, 4, none⟩) (by simp) _
        have u0 := HS7.out.ho.cell 0
        have u1 := HS7.out.ho.cell 1
        have u2 := HS7.out.ho.cell 2
        have u3 := HS7.out.ho.cell 3
        have u4 := HS7.out.ho.cell 4
        have u5 := HS7.out.ho.cell 5
        have u6 := HS7.out.ho.cell 6
        have u7 := HS7.out.ho.cell 7
        have u8 := HS7.out.ho.cell 8
        have u9 := HS7.out.ho.cell 9
        have u10 := HS7.out.ho.cell 10
        have u11 := HS7.out.ho.cell 11
        have uf0 := HS7.out.ho.free 0
        have uf1 := HS7.out.ho.free 1
        have uf2 := HS7.out.ho.free 2
        have uf3 := HS7.out.ho.free 3
        have uf4 := HS7.out.ho.free 4
        have uf5 := HS7.out.ho.free 5
        have uf6 := HS7.out.ho.free 6
        have uf7 := HS7.out.ho.free 7
        have uf8 := HS7.out.ho.free 8
        have uf9 := HS7.out.ho.free 9
        have uf10 := HS7.out.ho.free 10
        have uf11 := HS7.out.ho.free 11
        simp only [List.getElem?_toArray, List.getElem?_cons_zero, List.getElem?_cons_succ] at u0 u1 u2 u3 u4 u5 u6 u7 u8 u9 u10 u11
        have v0 := HS7.out.hr.cell 0
        have v1 := HS7.out.hr.cell 1
        have v2 := HS7.out.hr.cell 2
        have v3 := HS7.out.hr.cell 3
        have v4 := HS7.out.hr.cell 4
        have v5 := HS7.out.hr.cell 5
        have v6 := HS7.out.hr.cell 6
        have v7 := HS7.out.hr.cell 7
        have v8 := HS7.out.hr.cell 8
        have v9 := HS7.out.hr.cell 9
        have v10 := HS7.out.hr.cell 10
        have v11 := HS7.out.hr.cell 11
        have vf0 := HS7.out.hr.free 0
        have vf1 := HS7.out.hr.free 1
        have vf2 := HS7.out.hr.free 2
        have vf3 := HS7.out.hr.free 3
        have vf4 := HS7.out.hr.free 4
        have vf5 := HS7.out.hr.free 5
        have vf6 := HS7.out.hr.free 6
        have vf7 := HS7.out.hr.free 7
        have vf8 := HS7.out.hr.free 8
        have vf9 := HS7.out.hr.free 9
        have vf10 := HS7.out.hr.free 10
        have vf11 := HS7.out.hr.free 11
        simp only [List.getElem?_toArray, List.getElem?_cons_zero, List.getElem?_cons_succ] at v0 v1 v2 v3 v4 v5 v6 v7 v8 v9 v10 v11
        go_wp2_with fail
        have HF : Hid (Has (put12 W7 (w.heap.size + 1) (.int .i64 3) (.int .i64 0) (.string t) (.slice none 0 0) (.slice A6 n6 c6) (.int .i64 0) (.string ⟨#[]⟩) (.slice none 0 0) (.int .i64 0) (.string ⟨#[]⟩) (.int .i64 0) (.bool false)) (w.heap.size + 1) 33 #[.int .i64 3, .int .i64 0, .string t, .slice none 0 0, .slice A6 n6 c6, .int .i64 0, .string ⟨#[]⟩, .slice none 0 0, .int .i64 0, .string ⟨#[]⟩, .int .i64 0, .bool false]) := put12_has HS7.out.hr (.int .i64 3) (.int .i64 0) (.string t) (.slice none 0 0) (.slice A6 n6 c6) (.int .i64 0) (.string ⟨#[]⟩) (.slice none 0 0) (.int .i64 0) (.string ⟨#[]⟩) (.int .i64 0) (.bool false)
        have ht : Tur [w.heap.size + 1] W7 (put12 W7 (w.heap.size + 1) (.int .i64 3) (.int .i64 0) (.string t) (.slice none 0 0) (.slice A6 n6 c6) (.int .i64 0) (.string ⟨#[]⟩) (.slice none 0 0) (.int .i64 0) (.string ⟨#[]⟩) (.int .i64 0) (.bool false)) := put12_tur _ _ (.int .i64 3) (.int .i64 0) (.string t) (.slice none 0 0) (.slice A6 n6 c6) (.int .i64 0) (.string ⟨#[]⟩) (.slice none 0 0) (.int .i64 0) (.string ⟨#[]⟩) (.int .i64 0) (.bool false)
        have hbe : Below w.heap.size w (put12 W7 (w.heap.size + 1) (.int .i64 3) (.int .i64 0) (.string t) (.slice none 0 0) (.slice A6 n6 c6) (.int .i64 0) (.string ⟨#[]⟩) (.slice none 0 0) (.int .i64 0) (.string ⟨#[]⟩) (.int .i64 0) (.bool false)) := (Tur.of_below (X := [w.heap.size + 1]) HS7.out.bel).trans ht (Fre.refl _ _) |>.below (B := w.heap.size) (fun k hk => by simp at hk; omega) (Nat.le_refl _)
        refine bodyPost_ret (v := .agg #[.int .i64 3, .int .i64 0, .string t, .slice none 0 0, .slice A6 n6 c6, .int .i64 0, .string ⟨#[]⟩, .slice none 0 0, .int .i64 0, .string ⟨#[]⟩, .int .i64 0, .bool false]) (evEnd (put12 W7 (w.heap.size + 1) (.int .i64 3) (.int .i64 0) (.string t) (.slice none 0 0) (.slice A6 n6 c6) (.int .i64 0) (.string ⟨#[]⟩) (.slice none 0 0) (.int .i64 0) (.string ⟨#[]⟩) (.int .i64 0) (.bool false)) (w.heap.size + 1) (.int .i64 3) (.int .i64 0) (.string t) (.slice none 0 0) (.slice A6 n6 c6) (.int .i64 0) (.string ⟨#[]⟩) (.slice none 0 0) (.int .i64 0) (.string ⟨#[]⟩) (.int .i64 0) (.bool false) _ rfl HF.out) rfl ?_
        exact ⟨⟨3, 0, t, [], rowF yL AA, 0, ⟨#[]⟩, [], 0, ⟨⟨#[]⟩, 0, false⟩⟩, none, 0, 0, A6, n6, c6, none, 0, 0, rfl, evw_row 3 0 t [] (rowF yL AA) none 0 0 A6 n6 c6 (nilB _) ⟨hn6.out, hc6, ((hr6.out.tur ht7 (fun a e hh => by have := (hg6.out a e).1; simp at hh; omega)).tur ht (fun a e hh => by have := (hg6.out a e).1; simp at hh; omega)), fun y hy => (rowF_fit yL AA (fun c hc => ⟨(goodS_fit yL kk hgs c hc).2.1, (goodS_fit yL kk hgs c hc).2.2.1⟩) HFF.out.2.1 y hy).1⟩ (by omega) (by unfold maxLen at hm6; omega), hbe⟩
    · cases hp : plF T t
      · go_enter Tryd.func8, Tryd.ntmps8
        go_wp2_with fail
        refine HFD.out.mono ?_
        rintro e w2 ⟨rfl, hb2⟩
        rw [tfV_no HTT.out.sort hp]
        by_cases hnt : 0 < nt
        · have g0 : (0 : Int) < (nt : Int) := by omega
          have h0T : 0 < T.length := by rw [HTT.out.len]; omega
          obtain ⟨bt, ot, rfl, hct⟩ := HTT.out.row (by intro e; rw [e] at h0T; simp at h0T)
          have hct0 := hct 0 h0T
          obtain ⟨y, hy⟩ : ∃ y, T[0] = y := ⟨_, rfl⟩
          have hyT : y ∈ T := hy ▸ List.getElem_mem h0T
          rw [hy] at hct0
          clear hct hy
          obtain ⟨kk, hK, hgs⟩ := HGS.out y hyT
          have hok := HTT.out.ok y hyT
          obtain ⟨ynm, yA, yn, yc, yL, yK⟩ := y
          dsimp only at hK hgs hok hct0
          subst hK
          simp only [Nat.zero_mul, Nat.add_zero] at hct0
          obtain ⟨p0, p1, p2⟩ := hct0
          obtain ⟨W3z, hW3z⟩ : ∃ W, W = w2.alloc (.cells #[.slice none 0 0, .int .i64 0] 27) := ⟨_, rfl⟩
          have hsz2 : w.heap.size + 1 < w2.heap.size := Nat.lt_of_lt_of_le hsz1 hb2.out.size
          have HS3z : Hid (Su w W3z w2.heap.size #[.int .i64 4, .int .i64 m, .string t, .slice Ab nb zb, .slice Aa na za, .int .i64 ck, .string ct, .slice A n c, .int .i64 K, .string cn, .int .i64 cq, .bool cb] (.slice none 0 0) (.int .i64 0)) := by
            rw [hW3z]
            exact ⟨(HE1.out.below hb2.out HE1.out.lt).alloc _, (HR1.out.below hb2.out HR1.out.lt).alloc _, Has.new _ _ _, (HB1.out.trans (hb2.out.mono HB1.out.size)).alloc (HB1.out.trans (hb2.out.mono HB1.out.size)).size _, hsz2⟩
          replace hW3z := hW3z.symm
          obtain ⟨g, hg⟩ : ∃ g, w2.heap.size = g := ⟨_, rfl⟩
          rw [hg] at HS3z hsz2
          clear hb2 HFD HE1 HR1 HB1 u2 hw1
          have zz0 := HS3z.out.hs.cell 0
          have zz1 := HS3z.out.hs.cell 1
          have zzf0 := HS3z.out.hs.free 0
          have zzf1 := HS3z.out.hs.free 1
          simp only [List.getElem?_toArray, List.getElem?_cons_zero, List.getElem?_cons_succ] at zz0 zz1
          obtain ⟨W3, hW3⟩ : ∃ W, W = (W3z.setCell ⟨g, 0, none⟩ (.slice none 0 0)).setCell ⟨g, 1, none⟩ (.int .i64 0) := ⟨_, rfl⟩
          have HS3 : Hid (Su w W3 g #[.int .i64 4, .int .i64 m, .string t, .slice Ab nb zb, .slice Aa na za, .int .i64 ck, .string ct, .slice A n c, .int .i64 K, .string cn, .int .i64 cq, .bool cb] (.slice none 0 0) (.int .i64 0)) := by rw [hW3]; exact HS3z.out.puts _ _
          replace hW3 := hW3.symm
          have hb3w := HS3.out.bel
          have x0 : W3.cell? ⟨bt, ot, none⟩ = some (.string ynm) := keepW3 hb3w p0
          obtain ⟨W3a, hW3a⟩ : ∃ W, W = W3.setCell ⟨w.heap.size, 2, none⟩ (.string ynm) := ⟨_, rfl⟩
          have HS3a : Hid (Su w W3a g #[.int .i64 4, .int .i64 m, .string ynm, .slice Ab nb zb, .slice Aa na za, .int .i64 ck, .string ct, .slice A n c, .int .i64 K, .string cn, .int .i64 cq, .bool cb] (.slice none 0 0) (.int .i64 0)) := by rw [hW3a]; exact HS3.out.pute 2 _
          replace hW3a := hW3a.symm
          have x1 : W3a.cell? ⟨bt, ot + 1, none⟩ = some (.slice yA yn yc) := keepW3 HS3a.out.bel p1
          have x2 : W3a.cell? ⟨bt, ot + 1 + 1, none⟩ = some (.int .i64 (kk : Int)) := keepW3 HS3a.out.bel p2
          have x2b : W3a.cell? ⟨bt, ot + 2, none⟩ = some (.int .i64 (kk : Int)) := keepW3 HS3a.out.bel p2
          obtain ⟨W3b, hW3b⟩ : ∃ W, W = (W3a.setCell ⟨g, 0, none⟩ (.slice yA yn yc)).setCell ⟨g, 1, none⟩ (.int .i64 (kk : Int)) := ⟨_, rfl⟩
          have HS3b : Hid (Su w W3b g #[.int .i64 4, .int .i64 m, .string ynm, .slice Ab nb zb, .slice Aa na za, .int .i64 ck, .string ct, .slice A n c, .int .i64 K, .string cn, .int .i64 cq, .bool cb] (.slice yA yn yc) (.int .i64 (kk : Int))) := by rw [hW3b]; exact HS3a.out.puts _ _
          replace hW3b := hW3b.symm
          have x_e0 := HS3.out.he.cell 0
          have x_e2 := HS3.out.he.cell 2
          have x_ef0 := HS3.out.he.free 0
          have x_ef2 := HS3.out.he.free 2
          simp only [List.getElem?_toArray, List.getElem?_cons_zero, List.getElem?_cons_succ] at x_e0 x_e2
          have x_s0 := HS3a.out.hs.cell 0
          have x_s1 := HS3a.out.hs.cell 1
          have x_sf0 := HS3a.out.hs.free 0
          have x_sf1 := HS3a.out.hs.free 1
          simp only [List.getElem?_toArray, List.getElem?_cons_zero, List.getElem?_cons_succ] at x_s0 x_s1
          obtain ⟨W4z, hW4z⟩ : ∃ W, W = W3b.alloc (.cells #[.int .i64 0, .int .i64 0, .string ⟨#[]⟩, .slice none 0 0, .slice none 0 0, .int .i64 0, .string ⟨#[]⟩, .slice none 0 0, .int .i64 0, .string ⟨#[]⟩, .int .i64 0, .bool false] 33) := ⟨_, rfl⟩
          have s4 := HS3b.out.out #[.int .i64 0, .int .i64 0, .string ⟨#[]⟩, .slice none 0 0, .slice none 0 0, .int .i64 0, .string ⟨#[]⟩, .slice none 0 0, .int .i64 0, .string ⟨#[]⟩, .int .i64 0, .bool false]
          rw [← hW4z] at s4
          replace hW4z := hW4z.symm
          obtain ⟨q, hq⟩ : ∃ q, W3b.heap.size = q := ⟨_, rfl⟩
          rw [hq] at s4
          have HS4z := Lib.hid s4
          have nz0 := HS4z.out.ho.cell 0
          have nz1 := HS4z.out.ho.cell 1
          have nz2 := HS4z.out.ho.cell 2
          have nz3 := HS4z.out.ho.cell 3
          have nz4 := HS4z.out.ho.cell 4
          have nz5 := HS4z.out.ho.cell 5
          have nz6 := HS4z.out.ho.cell 6
          have nz7 := HS4z.out.ho.cell 7
          have nz8 := HS4z.out.ho.cell 8
          have nz9 := HS4z.out.ho.cell 9
          have nz10 := HS4z.out.ho.cell 10
          have nz11 := HS4z.out.ho.cell 11
          have nzf0 := HS4z.out.ho.free 0
          have nzf1 := HS4z.out.ho.free 1
          have nzf2 := HS4z.out.ho.free 2
          have nzf3 := HS4z.out.ho.free 3
          have nzf4 := HS4z.out.ho.free 4
          have nzf5 := HS4z.out.ho.free 5
          have nzf6 := HS4z.out.ho.free 6
          have nzf7 := HS4z.out.ho.free 7
          have nzf8 := HS4z.out.ho.free 8
          have nzf9 := HS4z.out.ho.free 9
          have nzf10 := HS4z.out.ho.free 10
          have nzf11 := HS4z.out.ho.free 11
          simp only [List.getElem?_toArray, List.getElem?_cons_zero, List.getElem?_cons_succ] at nz0 nz1 nz2 nz3 nz4 nz5 nz6 nz7 nz8 nz9 nz10 nz11
          obtain ⟨W4, hW4⟩ : ∃ W, put12 W4z q (.int .i64 4) (.int .i64 0) (.string ⟨#[]⟩) (.slice none 0 0) (.slice none 0 0) (.int .i64 0) (.string ⟨#[]⟩) (.slice none 0 0) (.int .i64 0) (.string ⟨#[]⟩) (.int .i64 0) (.bool false) = W := ⟨_, rfl⟩
          have s4b := s4.put12 (.int .i64 4) (.int .i64 0) (.string ⟨#[]⟩) (.slice none 0 0) (.slice none 0 0) (.int .i64 0) (.string ⟨#[]⟩) (.slice none 0 0) (.int .i64 0) (.string ⟨#[]⟩) (.int .i64 0) (.bool false)
          rw [hW4] at s4b
          have HS4 : Hid (Sv w W4 g q _ _ _ #[.int .i64 4, .int .i64 0, .string ⟨#[]⟩, .slice none 0 0, .slice none 0 0, .int .i64 0, .string ⟨#[]⟩, .slice none 0 0, .int .i64 0, .string ⟨#[]⟩, .int .i64 0, .bool false]) := s4b
          have hW4' : ((((((((((((W4z.setCell ⟨q, 0, none⟩ (.int .i64 4)).setCell ⟨q, 1, none⟩ (.int .i64 0)).setCell ⟨q, 2, none⟩ (.string ⟨#[]⟩)).setCell ⟨q, 3, none⟩ (.slice none 0 0)).setCell ⟨q, 4, none⟩ (.slice none 0 0)).setCell ⟨q, 5, none⟩ (.int .i64 0)).setCell ⟨q, 6, none⟩ (.string ⟨#[]⟩)).setCell ⟨q, 7, none⟩ (.slice none 0 0)).setCell ⟨q, 8, none⟩ (.int .i64 0)).setCell ⟨q, 9, none⟩ (.string ⟨#[]⟩)).setCell ⟨q, 10, none⟩ (.int .i64 0)).setCell ⟨q, 11, none⟩ (.bool false)) = W4 := hW4
          clear s4 s4b hW4
          have hlo := HS4.out.lo
          have e0 := HS3b.out.he.cell 0
          have ef0 := HS3b.out.he.free 0
          simp only [List.getElem?_toArray, List.getElem?_cons_zero, List.getElem?_cons_succ] at e0
          have a0 := HS4.out.he.cell 0
          have a1 := HS4.out.he.cell 1
          have a2 := HS4.out.he.cell 2
          have af0 := HS4.out.he.free 0
          have af1 := HS4.out.he.free 1
          have af2 := HS4.out.he.free 2
          simp only [List.getElem?_toArray, List.getElem?_cons_zero, List.getElem?_cons_succ] at a0 a1 a2
          have b2 := HS4.out.ho.cell 2
          have bf2 := HS4.out.ho.free 2
          simp only [List.getElem?_toArray, List.getElem?_cons_zero, List.getElem?_cons_succ] at b2
          obtain ⟨W5, hW5⟩ : ∃ W, W = (W4.setCell ⟨q, 2, none⟩ (.string ynm)) := ⟨_, rfl⟩
          have HS5 : Hid (Sv w W5 g q #[.int .i64 4, .int .i64 m, .string ynm, .slice Ab nb zb, .slice Aa na za, .int .i64 ck, .string ct, .slice A n c, .int .i64 K, .string cn, .int .i64 cq, .bool cb] (.slice yA yn yc) (.int .i64 (kk : Int)) #[.int .i64 4, .int .i64 0, .string ynm, .slice none 0 0, .slice none 0 0, .int .i64 0, .string ⟨#[]⟩, .slice none 0 0, .int .i64 0, .string ⟨#[]⟩, .int .i64 0, .bool false]) := by rw [hW5]; exact (HS4.out.put 2 (.string ynm))
          replace hW5 := hW5.symm
          have c2 := HS5.out.he.cell 2
          have c3 := HS5.out.he.cell 3
          have c4 := HS5.out.he.cell 4
          have cf2 := HS5.out.he.free 2
          have cf3 := HS5.out.he.free 3
          have cf4 := HS5.out.he.free 4
          simp only [List.getElem?_toArray, List.getElem?_cons_zero, List.getElem?_cons_succ] at c2 c3 c4
          have s0 := HS5.out.hs.cell 0
          have s1 := HS5.out.hs.cell 1
          have sf0 := HS5.out.hs.free 0
          have sf1 := HS5.out.hs.free 1
          simp only [List.getElem?_toArray, List.getElem?_cons_zero, List.getElem?_cons_succ] at s0 s1
          have hbw5 := HS5.out.bel
          have HRW := Lib.hid (row_any yA yL yn yc (kk : Int) Aa AA na za W5 hok.len hok.few (hok.row.below hbw5) (fun y hy => (goodS_fit yL kk hgs y hy).2.2.2) HW.out.a.1 HW.out.a.2.1 HFF.out.2.2.2 (HW.out.a.2.2.1.below hbw5) HFF.out.2.1)
          go_wp2_with fail
          refine HRW.out.mono ?_
          rintro e w6 ⟨v6, rfl, ho6, hb6⟩
          obtain ⟨A6, n6, c6, rfl, hn6, hc6, hm6, hr6, hg6, _⟩ := ownV_blk ho6.out
          have HS6 := Lib.hid (HS5.out.below hb6.out)
          have hq5 : q < W5.heap.size := HS5.out.ho.lt
          clear HRW ho6 hb6 hbw5 c2 cf2 c3 cf3 c4 cf4 s0 sf0 s1 sf1 b2 bf2 a0 af0 a1 af1 a2 af2 e0 ef0 nz0 nzf0 nz1 nzf1 nz2 nzf2 nz3 nzf3 nz4 nzf4 nz5 nzf5 nz6 nzf6 nz7 nzf7 nz8 nzf8 nz9 nzf9 nz10 nzf10 nz11 nzf11
          have b4 := HS6.out.ho.cell 4
          have bf4 := HS6.out.ho.free 4
          simp only [List.getElem?_toArray, List.getElem?_cons_zero, List.getElem?_cons_succ] at b4
          obtain ⟨W7, hW7⟩ : ∃ W, W = (w6.setCell ⟨q, 4, none⟩ (.slice A6 n6 c6)) := ⟨_, rfl⟩
          have HS7 : Hid (Sv w W7 g q #[.int .i64 4, .int .i64 m, .string ynm, .slice Ab nb zb, .slice Aa na za, .int .i64 ck, .string ct, .slice A n c, .int .i64 K, .string cn, .int .i64 cq, .bool cb] (.slice yA yn yc) (.int .i64 (kk : Int)) #[.int .i64 4, .int .i64 0, .string ynm, .slice none 0 0, .slice A6 n6 c6, .int .i64 0, .string ⟨#[]⟩, .slice none 0 0, .int .i64 0, .string ⟨#[]⟩, .int .i64 0, .bool false]) := by rw [hW7]; exact (HS6.out.put 4 (.slice A6 n6 c6))
          replace hW7 := hW7.symm
          have ht7 : Tur [q] w6 W7 := by rw [← hW7]; exact Tur.setCell w6 (p := ⟨q, 4, none⟩) (by simp) _
          have u0 := HS7.out.ho.cell 0
          have u1 := HS7.out.ho.cell 1
          have u2 := HS7.out.ho.cell 2
          have u3 := HS7.out.ho.cell 3
          have u4 := HS7.out.ho.cell 4
          have u5 := HS7.out.ho.cell 5
          have u6 := HS7.out.ho.cell 6
          have u7 := HS7.out.ho.cell 7
          have u8 := HS7.out.ho.cell 8
          have u9 := HS7.out.ho.cell 9
          have u10 := HS7.out.ho.cell 10
          have u11 := HS7.out.ho.cell 11
          have uf0 := HS7.out.ho.free 0
          have uf1 := HS7.out.ho.free 1
          have uf2 := HS7.out.ho.free 2
          have uf3 := HS7.out.ho.free 3
          have uf4 := HS7.out.ho.free 4
          have uf5 := HS7.out.ho.free 5
          have uf6 := HS7.out.ho.free 6
          have uf7 := HS7.out.ho.free 7
          have uf8 := HS7.out.ho.free 8
          have uf9 := HS7.out.ho.free 9
          have uf10 := HS7.out.ho.free 10
          have uf11 := HS7.out.ho.free 11
          simp only [List.getElem?_toArray, List.getElem?_cons_zero, List.getElem?_cons_succ] at u0 u1 u2 u3 u4 u5 u6 u7 u8 u9 u10 u11
          have v0 := HS7.out.hr.cell 0
          have v1 := HS7.out.hr.cell 1
          have v2 := HS7.out.hr.cell 2
          have v3 := HS7.out.hr.cell 3
          have v4 := HS7.out.hr.cell 4
          have v5 := HS7.out.hr.cell 5
          have v6 := HS7.out.hr.cell 6
          have v7 := HS7.out.hr.cell 7
          have v8 := HS7.out.hr.cell 8
          have v9 := HS7.out.hr.cell 9
          have v10 := HS7.out.hr.cell 10
          have v11 := HS7.out.hr.cell 11
          have vf0 := HS7.out.hr.free 0
          have vf1 := HS7.out.hr.free 1
          have vf2 := HS7.out.hr.free 2
          have vf3 := HS7.out.hr.free 3
          have vf4 := HS7.out.hr.free 4
          have vf5 := HS7.out.hr.free 5
          have vf6 := HS7.out.hr.free 6
          have vf7 := HS7.out.hr.free 7
          have vf8 := HS7.out.hr.free 8
          have vf9 := HS7.out.hr.free 9
          have vf10 := HS7.out.hr.free 10
          have vf11 := HS7.out.hr.free 11
          simp only [List.getElem?_toArray, List.getElem?_cons_zero, List.getElem?_cons_succ] at v0 v1 v2 v3 v4 v5 v6 v7 v8 v9 v10 v11
          go_wp2_with fail
          have HF : Hid (Has (put12 W7 (w.heap.size + 1) (.int .i64 4) (.int .i64 0) (.string ynm) (.slice none 0 0) (.slice A6 n6 c6) (.int .i64 0) (.string ⟨#[]⟩) (.slice none 0 0) (.int .i64 0) (.string ⟨#[]⟩) (.int .i64 0) (.bool false)) (w.heap.size + 1) 33 #[.int .i64 4, .int .i64 0, .string ynm, .slice none 0 0, .slice A6 n6 c6, .int .i64 0, .string ⟨#[]⟩, .slice none 0 0, .int .i64 0, .string ⟨#[]⟩, .int .i64 0, .bool false]) := put12_has HS7.out.hr (.int .i64 4) (.int .i64 0) (.string ynm) (.slice none 0 0) (.slice A6 n6 c6) (.int .i64 0) (.string ⟨#[]⟩) (.slice none 0 0) (.int .i64 0) (.string ⟨#[]⟩) (.int .i64 0) (.bool false)
          have ht : Tur [w.heap.size + 1] W7 (put12 W7 (w.heap.size + 1) (.int .i64 4) (.int .i64 0) (.string ynm) (.slice none 0 0) (.slice A6 n6 c6) (.int .i64 0) (.string ⟨#[]⟩) (.slice none 0 0) (.int .i64 0) (.string ⟨#[]⟩) (.int .i64 0) (.bool false)) := put12_tur _ _ (.int .i64 4) (.int .i64 0) (.string ynm) (.slice none 0 0) (.slice A6 n6 c6) (.int .i64 0) (.string ⟨#[]⟩) (.slice none 0 0) (.int .i64 0) (.string ⟨#[]⟩) (.int .i64 0) (.bool false)
          have hbe : Below w.heap.size w (put12 W7 (w.heap.size + 1) (.int .i64 4) (.int .i64 0) (.string ynm) (.slice none 0 0) (.slice A6 n6 c6) (.int .i64 0) (.string ⟨#[]⟩) (.slice none 0 0) (.int .i64 0) (.string ⟨#[]⟩) (.int .i64 0) (.bool false)) := (Tur.of_below (X := [w.heap.size + 1]) HS7.out.bel).trans ht (Fre.refl _ _) |>.below (B := w.heap.size) (fun k hk => by simp at hk; omega) (Nat.le_refl _)
          refine bodyPost_ret (v := .agg #[.int .i64 4, .int .i64 0, .string ynm, .slice none 0 0, .slice A6 n6 c6, .int .i64 0, .string ⟨#[]⟩, .slice none 0 0, .int .i64 0, .string ⟨#[]⟩, .int .i64 0, .bool false]) (evEnd (put12 W7 (w.heap.size + 1) (.int .i64 4) (.int .i64 0) (.string ynm) (.slice none 0 0) (.slice A6 n6 c6) (.int .i64 0) (.string ⟨#[]⟩) (.slice none 0 0) (.int .i64 0) (.string ⟨#[]⟩) (.int .i64 0) (.bool false)) (w.heap.size + 1) (.int .i64 4) (.int .i64 0) (.string ynm) (.slice none 0 0) (.slice A6 n6 c6) (.int .i64 0) (.string ⟨#[]⟩) (.slice none 0 0) (.int .i64 0) (.string ⟨#[]⟩) (.int .i64 0) (.bool false) _ rfl HF.out) rfl ?_
          exact ⟨⟨4, 0, ynm, [], rowF yL AA, 0, ⟨#[]⟩, [], 0, ⟨⟨#[]⟩, 0, false⟩⟩, none, 0, 0, A6, n6, c6, none, 0, 0, rfl, evw_row 4 0 ynm [] (rowF yL AA) none 0 0 A6 n6 c6 (nilB _) ⟨hn6.out, hc6, ((hr6.out.tur ht7 (fun a e hh => by have := (hg6.out a e).1; simp at hh; omega)).tur ht (fun a e hh => by have := (hg6.out a e).1; simp at hh; omega)), fun y hy => (rowF_fit yL AA (fun c hc => ⟨(goodS_fit yL kk hgs c hc).2.1, (goodS_fit yL kk hgs c hc).2.2.1⟩) HFF.out.2.1 y hy).1⟩ (by omega) (by unfold maxLen at hm6; omega), hbe⟩
        · have g0 : ¬ (0 : Int) < (nt : Int) := by omega
          obtain ⟨W3z, hW3z⟩ : ∃ W, W = w2.alloc (.cells #[.slice none 0 0, .int .i64 0] 27) := ⟨_, rfl⟩
          have hsz2 : w.heap.size + 1 < w2.heap.size := Nat.lt_of_lt_of_le hsz1 hb2.out.size
          have HS3z : Hid (Su w W3z w2.heap.size #[.int .i64 4, .int .i64 m, .string t, .slice Ab nb zb, .slice Aa na za, .int .i64 ck, .string ct, .slice A n c, .int .i64 K, .string cn, .int .i64 cq, .bool cb] (.slice none 0 0) (.int .i64 0)) := by
            rw [hW3z]
            exact ⟨(HE1.out.below hb2.out HE1.out.lt).alloc _, (HR1.out.below hb2.out HR1.out.lt).alloc _, Has.new _ _ _, (HB1.out.trans (hb2.out.mono HB1.out.size)).alloc (HB1.out.trans (hb2.out.mono HB1.out.size)).size _, hsz2⟩
          replace hW3z := hW3z.symm
          obtain ⟨g, hg⟩ : ∃ g, w2.heap.size = g := ⟨_, rfl⟩
          rw [hg] at HS3z hsz2
          clear hb2 HFD HE1 HR1 HB1 u2 hw1
          have zz0 := HS3z.out.hs.cell 0
          have zz1 := HS3z.out.hs.cell 1
          have zzf0 := HS3z.out.hs.free 0
          have zzf1 := HS3z.out.hs.free 1
          simp only [List.getElem?_toArray, List.getElem?_cons_zero, List.getElem?_cons_succ] at zz0 zz1
          obtain ⟨W3, hW3⟩ : ∃ W, W = (W3z.setCell ⟨g, 0, none⟩ (.slice none 0 0)).setCell ⟨g, 1, none⟩ (.int .i64 0) := ⟨_, rfl⟩
          have HS3 : Hid (Su w W3 g #[.int .i64 4, .int .i64 m, .string t, .slice Ab nb zb, .slice Aa na za, .int .i64 ck, .string ct, .slice A n c, .int .i64 K, .string cn, .int .i64 cq, .bool cb] (.slice none 0 0) (.int .i64 0)) := by rw [hW3]; exact HS3z.out.puts _ _
          replace hW3 := hW3.symm
          obtain ⟨W4z, hW4z⟩ : ∃ W, W = W3.alloc (.cells #[.int .i64 0, .int .i64 0, .string ⟨#[]⟩, .slice none 0 0, .slice none 0 0, .int .i64 0, .string ⟨#[]⟩, .slice none 0 0, .int .i64 0, .string ⟨#[]⟩, .int .i64 0, .bool false] 33) := ⟨_, rfl⟩
          have s4 := HS3.out.out #[.int .i64 0, .int .i64 0, .string ⟨#[]⟩, .slice none 0 0, .slice none 0 0, .int .i64 0, .string ⟨#[]⟩, .slice none 0 0, .int .i64 0, .string ⟨#[]⟩, .int .i64 0, .bool false]
          rw [← hW4z] at s4
          replace hW4z := hW4z.symm
          obtain ⟨q, hq⟩ : ∃ q, W3.heap.size = q := ⟨_, rfl⟩
          rw [hq] at s4
          have HS4z := Lib.hid s4
          have nz0 := HS4z.out.ho.cell 0
          have nz1 := HS4z.out.ho.cell 1
          have nz2 := HS4z.out.ho.cell 2
          have nz3 := HS4z.out.ho.cell 3
          have nz4 := HS4z.out.ho.cell 4
          have nz5 := HS4z.out.ho.cell 5
          have nz6 := HS4z.out.ho.cell 6
          have nz7 := HS4z.out.ho.cell 7
          have nz8 := HS4z.out.ho.cell 8
          have nz9 := HS4z.out.ho.cell 9
          have nz10 := HS4z.out.ho.cell 10
          have nz11 := HS4z.out.ho.cell 11
          have nzf0 := HS4z.out.ho.free 0
          have nzf1 := HS4z.out.ho.free 1
          have nzf2 := HS4z.out.ho.free 2
          have nzf3 := HS4z.out.ho.free 3
          have nzf4 := HS4z.out.ho.free 4
          have nzf5 := HS4z.out.ho.free 5
          have nzf6 := HS4z.out.ho.free 6
          have nzf7 := HS4z.out.ho.free 7
          have nzf8 := HS4z.out.ho.free 8
          have nzf9 := HS4z.out.ho.free 9
          have nzf10 := HS4z.out.ho.free 10
          have nzf11 := HS4z.out.ho.free 11
          simp only [List.getElem?_toArray, List.getElem?_cons_zero, List.getElem?_cons_succ] at nz0 nz1 nz2 nz3 nz4 nz5 nz6 nz7 nz8 nz9 nz10 nz11
          obtain ⟨W4, hW4⟩ : ∃ W, put12 W4z q (.int .i64 4) (.int .i64 0) (.string ⟨#[]⟩) (.slice none 0 0) (.slice none 0 0) (.int .i64 0) (.string ⟨#[]⟩) (.slice none 0 0) (.int .i64 0) (.string ⟨#[]⟩) (.int .i64 0) (.bool false) = W := ⟨_, rfl⟩
          have s4b := s4.put12 (.int .i64 4) (.int .i64 0) (.string ⟨#[]⟩) (.slice none 0 0) (.slice none 0 0) (.int .i64 0) (.string ⟨#[]⟩) (.slice none 0 0) (.int .i64 0) (.string ⟨#[]⟩) (.int .i64 0) (.bool false)
          rw [hW4] at s4b
          have HS4 : Hid (Sv w W4 g q _ _ _ #[.int .i64 4, .int .i64 0, .string ⟨#[]⟩, .slice none 0 0, .slice none 0 0, .int .i64 0, .string ⟨#[]⟩, .slice none 0 0, .int .i64 0, .string ⟨#[]⟩, .int .i64 0, .bool false]) := s4b
          have hW4' : ((((((((((((W4z.setCell ⟨q, 0, none⟩ (.int .i64 4)).setCell ⟨q, 1, none⟩ (.int .i64 0)).setCell ⟨q, 2, none⟩ (.string ⟨#[]⟩)).setCell ⟨q, 3, none⟩ (.slice none 0 0)).setCell ⟨q, 4, none⟩ (.slice none 0 0)).setCell ⟨q, 5, none⟩ (.int .i64 0)).setCell ⟨q, 6, none⟩ (.string ⟨#[]⟩)).setCell ⟨q, 7, none⟩ (.slice none 0 0)).setCell ⟨q, 8, none⟩ (.int .i64 0)).setCell ⟨q, 9, none⟩ (.string ⟨#[]⟩)).setCell ⟨q, 10, none⟩ (.int .i64 0)).setCell ⟨q, 11, none⟩ (.bool false)) = W4 := hW4
          clear s4 s4b hW4
          have hlo := HS4.out.lo
          have e0 := HS3.out.he.cell 0
          have ef0 := HS3.out.he.free 0
          simp only [List.getElem?_toArray, List.getElem?_cons_zero, List.getElem?_cons_succ] at e0
          have a0 := HS4.out.he.cell 0
          have a1 := HS4.out.he.cell 1
          have a2 := HS4.out.he.cell 2
          have af0 := HS4.out.he.free 0
          have af1 := HS4.out.he.free 1
          have af2 := HS4.out.he.free 2
          simp only [List.getElem?_toArray, List.getElem?_cons_zero, List.getElem?_cons_succ] at a0 a1 a2
          have b2 := HS4.out.ho.cell 2
          have bf2 := HS4.out.ho.free 2
          simp only [List.getElem?_toArray, List.getElem?_cons_zero, List.getElem?_cons_succ] at b2
          obtain ⟨W7, hW7⟩ : ∃ W, W = (W4.setCell ⟨q, 2, none⟩ (.string t)) := ⟨_, rfl⟩
          have HS7 : Hid (Sv w W7 g q #[.int .i64 4, .int .i64 m, .string t, .slice Ab nb zb, .slice Aa na za, .int .i64 ck, .string ct, .slice A n c, .int .i64 K, .string cn, .int .i64 cq, .bool cb] (.slice none 0 0) (.int .i64 0) #[.int .i64 4, .int .i64 0, .string t, .slice none 0 0, .slice none 0 0, .int .i64 0, .string ⟨#[]⟩, .slice none 0 0, .int .i64 0, .string ⟨#[]⟩, .int .i64 0, .bool false]) := by rw [hW7]; exact (HS4.out.put 2 (.string t))
          replace hW7 := hW7.symm
          have u0 := HS7.out.ho.cell 0
          have u1 := HS7.out.ho.cell 1
          have u2 := HS7.out.ho.cell 2
          have u3 := HS7.out.ho.cell 3
          have u4 := HS7.out.ho.cell 4
          have u5 := HS7.out.ho.cell 5
          have u6 := HS7.out.ho.cell 6
          have u7 := HS7.out.ho.cell 7
          have u8 := HS7.out.ho.cell 8
          have u9 := HS7.out.ho.cell 9
          have u10 := HS7.out.ho.cell 10
          have u11 := HS7.out.ho.cell 11
          have uf0 := HS7.out.ho.free 0
          have uf1 := HS7.out.ho.free 1
          have uf2 := HS7.out.ho.free 2
          have uf3 := HS7.out.ho.free 3
          have uf4 := HS7.out.ho.free 4
          have uf5 := HS7.out.ho.free 5
          have uf6 := HS7.out.ho.free 6
          have uf7 := HS7.out.ho.free 7
          have uf8 := HS7.out.ho.free 8
          have uf9 := HS7.out.ho.free 9
          have uf10 := HS7.out.ho.free 10
          have uf11 := HS7.out.ho.free 11
          simp only [List.getElem?_toArray, List.getElem?_cons_zero, List.getElem?_cons_succ] at u0 u1 u2 u3 u4 u5 u6 u7 u8 u9 u10 u11
          have v0 := HS7.out.hr.cell 0
          have v1 := HS7.out.hr.cell 1
          have v2 := HS7.out.hr.cell 2
          have v3 := HS7.out.hr.cell 3
          have v4 := HS7.out.hr.cell 4
          have v5 := HS7.out.hr.cell 5
          have v6 := HS7.out.hr.cell 6
          have v7 := HS7.out.hr.cell 7
          have v8 := HS7.out.hr.cell 8
          have v9 := HS7.out.hr.cell 9
          have v10 := HS7.out.hr.cell 10
          have v11 := HS7.out.hr.cell 11
          have vf0 := HS7.out.hr.free 0
          have vf1 := HS7.out.hr.free 1
          have vf2 := HS7.out.hr.free 2
          have vf3 := HS7.out.hr.free 3
          have vf4 := HS7.out.hr.free 4
          have vf5 := HS7.out.hr.free 5
          have vf6 := HS7.out.hr.free 6
          have vf7 := HS7.out.hr.free 7
          have vf8 := HS7.out.hr.free 8
          have vf9 := HS7.out.hr.free 9
          have vf10 := HS7.out.hr.free 10
          have vf11 := HS7.out.hr.free 11
          simp only [List.getElem?_toArray, List.getElem?_cons_zero, List.getElem?_cons_succ] at v0 v1 v2 v3 v4 v5 v6 v7 v8 v9 v10 v11
          go_wp2_with fail
          have HF : Hid (Has (put12 W7 (w.heap.size + 1) (.int .i64 4) (.int .i64 0) (.string t) (.slice none 0 0) (.slice none 0 0) (.int .i64 0) (.string ⟨#[]⟩) (.slice none 0 0) (.int .i64 0) (.string ⟨#[]⟩) (.int .i64 0) (.bool false)) (w.heap.size + 1) 33 #[.int .i64 4, .int .i64 0, .string t, .slice none 0 0, .slice none 0 0, .int .i64 0, .string ⟨#[]⟩, .slice none 0 0, .int .i64 0, .string ⟨#[]⟩, .int .i64 0, .bool false]) := put12_has HS7.out.hr (.int .i64 4) (.int .i64 0) (.string t) (.slice none 0 0) (.slice none 0 0) (.int .i64 0) (.string ⟨#[]⟩) (.slice none 0 0) (.int .i64 0) (.string ⟨#[]⟩) (.int .i64 0) (.bool false)
          have ht : Tur [w.heap.size + 1] W7 (put12 W7 (w.heap.size + 1) (.int .i64 4) (.int .i64 0) (.string t) (.slice none 0 0) (.slice none 0 0) (.int .i64 0) (.string ⟨#[]⟩) (.slice none 0 0) (.int .i64 0) (.string ⟨#[]⟩) (.int .i64 0) (.bool false)) := put12_tur _ _ (.int .i64 4) (.int .i64 0) (.string t) (.slice none 0 0) (.slice none 0 0) (.int .i64 0) (.string ⟨#[]⟩) (.slice none 0 0) (.int .i64 0) (.string ⟨#[]⟩) (.int .i64 0) (.bool false)
          have hbe : Below w.heap.size w (put12 W7 (w.heap.size + 1) (.int .i64 4) (.int .i64 0) (.string t) (.slice none 0 0) (.slice none 0 0) (.int .i64 0) (.string ⟨#[]⟩) (.slice none 0 0) (.int .i64 0) (.string ⟨#[]⟩) (.int .i64 0) (.bool false)) := (Tur.of_below (X := [w.heap.size + 1]) HS7.out.bel).trans ht (Fre.refl _ _) |>.below (B := w.heap.size) (fun k hk => by simp at hk; omega) (Nat.le_refl _)
          refine bodyPost_ret (v := .agg #[.int .i64 4, .int .i64 0, .string t, .slice none 0 0, .slice none 0 0, .int .i64 0, .string ⟨#[]⟩, .slice none 0 0, .int .i64 0, .string ⟨#[]⟩, .int .i64 0, .bool false]) (evEnd (put12 W7 (w.heap.size + 1) (.int .i64 4) (.int .i64 0) (.string t) (.slice none 0 0) (.slice none 0 0) (.int .i64 0) (.string ⟨#[]⟩) (.slice none 0 0) (.int .i64 0) (.string ⟨#[]⟩) (.int .i64 0) (.bool false)) (w.heap.size + 1) (.int .i64 4) (.int .i64 0) (.string t) (.slice none 0 0) (.slice none 0 0) (.int .i64 0) (.string ⟨#[]⟩) (.slice none 0 0) (.int .i64 0) (.string ⟨#[]⟩) (.int .i64 0) (.bool false) _ rfl HF.out) rfl ?_
          exact ⟨⟨4, 0, t, [], [], 0, ⟨#[]⟩, [], 0, ⟨⟨#[]⟩, 0, false⟩⟩, none, 0, 0, none, 0, 0, none, 0, 0, rfl, evw_row 4 0 t [] [] none 0 0 none 0 0 (nilB _) (nilB _) (by omega) (by omega), hbe⟩
      · obtain ⟨hl, _⟩ := plF_tat hp
        go_enter Tryd.func8, Tryd.ntmps8
        go_wp2_with fail
        refine HFD.out.mono ?_
        rintro e w2 ⟨rfl, hb2⟩
        rw [tfV_yes hp hl]
        obtain ⟨y, hy⟩ : ∃ y, T[lbN T t] = y := ⟨_, rfl⟩
        have hyT : y ∈ T := hy ▸ List.getElem_mem hl
        rw [hy]
        clear hy
        obtain ⟨kk, hK, hgs⟩ := HGS.out y hyT
        have hok := HTT.out.ok y hyT
        obtain ⟨ynm, yA, yn, yc, yL, yK⟩ := y
        dsimp only at hK hgs hok ⊢
        subst hK
        obtain ⟨W3, hW3⟩ : ∃ W, W = w2.alloc (.cells #[.slice yA yn yc, .int .i64 (kk : Int)] 27) := ⟨_, rfl⟩
        have hsz2 : w.heap.size + 1 < w2.heap.size := Nat.lt_of_lt_of_le hsz1 hb2.out.size
        have HS3 : Hid (Su w W3 w2.heap.size #[.int .i64 4, .int .i64 m, .string t, .slice Ab nb zb, .slice Aa na za, .int .i64 ck, .string ct, .slice A n c, .int .i64 K, .string cn, .int .i64 cq, .bool cb] (.slice yA yn yc) (.int .i64 (kk : Int))) := by
          rw [hW3]
          exact ⟨(HE1.out.below hb2.out HE1.out.lt).alloc _, (HR1.out.below hb2.out HR1.out.lt).alloc _, Has.new _ _ _, (HB1.out.trans (hb2.out.mono HB1.out.size)).alloc (HB1.out.trans (hb2.out.mono HB1.out.size)).size _, hsz2⟩
        replace hW3 := hW3.symm
        obtain ⟨g, hg⟩ : ∃ g, w2.heap.size = g := ⟨_, rfl⟩
        rw [hg] at HS3 hsz2
        clear hb2 HFD HE1 HR1 HB1 u2 hw1
        obtain ⟨W4z, hW4z⟩ : ∃ W, W = W3.alloc (.cells #[.int .i64 0, .int .i64 0, .string ⟨#[]⟩, .slice none 0 0, .slice none 0 0, .int .i64 0, .string ⟨#[]⟩, .slice none 0 0, .int .i64 0, .string ⟨#[]⟩, .int .i64 0, .bool false] 33) := ⟨_, rfl⟩
        have s4 := HS3.out.out #[.int .i64 0, .int .i64 0, .string ⟨#[]⟩, .slice none 0 0, .slice none 0 0, .int .i64 0, .string ⟨#[]⟩, .slice none 0 0, .int .i64 0, .string ⟨#[]⟩, .int .i64 0, .bool false]
        rw [← hW4z] at s4
        replace hW4z := hW4z.symm
        obtain ⟨q, hq⟩ : ∃ q, W3.heap.size = q := ⟨_, rfl⟩
        rw [hq] at s4
        have HS4z := Lib.hid s4
        have nz0 := HS4z.out.ho.cell 0
        have nz1 := HS4z.out.ho.cell 1
        have nz2 := HS4z.out.ho.cell 2
        have nz3 := HS4z.out.ho.cell 3
        have nz4 := HS4z.out.ho.cell 4
        have nz5 := HS4z.out.ho.cell 5
        have nz6 := HS4z.out.ho.cell 6
        have nz7 := HS4z.out.ho.cell 7
        have nz8 := HS4z.out.ho.cell 8
        have nz9 := HS4z.out.ho.cell 9
        have nz10 := HS4z.out.ho.cell 10
        have nz11 := HS4z.out.ho.cell 11
        have nzf0 := HS4z.out.ho.free 0
        have nzf1 := HS4z.out.ho.free 1
        have nzf2 := HS4z.out.ho.free 2
        have nzf3 := HS4z.out.ho.free 3
        have nzf4 := HS4z.out.ho.free 4
        have nzf5 := HS4z.out.ho.free 5
        have nzf6 := HS4z.out.ho.free 6
        have nzf7 := HS4z.out.ho.free 7
        have nzf8 := HS4z.out.ho.free 8
        have nzf9 := HS4z.out.ho.free 9
        have nzf10 := HS4z.out.ho.free 10
        have nzf11 := HS4z.out.ho.free 11
        simp only [List.getElem?_toArray, List.getElem?_cons_zero, List.getElem?_cons_succ] at nz0 nz1 nz2 nz3 nz4 nz5 nz6 nz7 nz8 nz9 nz10 nz11
        obtain ⟨W4, hW4⟩ : ∃ W, put12 W4z q (.int .i64 4) (.int .i64 0) (.string ⟨#[]⟩) (.slice none 0 0) (.slice none 0 0) (.int .i64 0) (.string ⟨#[]⟩) (.slice none 0 0) (.int .i64 0) (.string ⟨#[]⟩) (.int .i64 0) (.bool false) = W := ⟨_, rfl⟩
        have s4b := s4.put12 (.int .i64 4) (.int .i64 0) (.string ⟨#[]⟩) (.slice none 0 0) (.slice none 0 0) (.int .i64 0) (.string ⟨#[]⟩) (.slice none 0 0) (.int .i64 0) (.string ⟨#[]⟩) (.int .i64 0) (.bool false)
        rw [hW4] at s4b
        have HS4 : Hid (Sv w W4 g q _ _ _ #[.int .i64 4, .int .i64 0, .string ⟨#[]⟩, .slice none 0 0, .slice none 0 0, .int .i64 0, .string ⟨#[]⟩, .slice none 0 0, .int .i64 0, .string ⟨#[]⟩, .int .i64 0, .bool false]) := s4b
        have hW4' : ((((((((((((W4z.setCell ⟨q, 0, none⟩ (.int .i64 4)).setCell ⟨q, 1, none⟩ (.int .i64 0)).setCell ⟨q, 2, none⟩ (.string ⟨#[]⟩)).setCell ⟨q, 3, none⟩ (.slice none 0 0)).setCell ⟨q, 4, none⟩ (.slice none 0 0)).setCell ⟨q, 5, none⟩ (.int .i64 0)).setCell ⟨q, 6, none⟩ (.string ⟨#[]⟩)).setCell ⟨q, 7, none⟩ (.slice none 0 0)).setCell ⟨q, 8, none⟩ (.int .i64 0)).setCell ⟨q, 9, none⟩ (.string ⟨#[]⟩)).setCell ⟨q, 10, none⟩ (.int .i64 0)).setCell ⟨q, 11, none⟩ (.bool false)) = W4 := hW4
        clear s4 s4b hW4
        have hlo := HS4.out.lo
        have e0 := HS3.out.he.cell 0
        have ef0 := HS3.out.he.free 0
        simp only [List.getElem?_toArray, List.getElem?_cons_zero, List.getElem?_cons_succ] at e0
        have a0 := HS4.out.he.cell 0
        have a1 := HS4.out.he.cell 1
        have a2 := HS4.out.he.cell 2
        have af0 := HS4.out.he.free 0
        have af1 := HS4.out.he.free 1
        have af2 := HS4.out.he.free 2
        simp only [List.getElem?_toArray, List.getElem?_cons_zero, List.getElem?_cons_succ] at a0 a1 a2
        have b2 := HS4.out.ho.cell 2
        have bf2 := HS4.out.ho.free 2
        simp only [List.getElem?_toArray, List.getElem?_cons_zero, List.getElem?_cons_succ] at b2
        obtain ⟨W5, hW5⟩ : ∃ W, W = (W4.setCell ⟨q, 2, none⟩ (.string t)) := ⟨_, rfl⟩
        have HS5 : Hid (Sv w W5 g q #[.int .i64 4, .int .i64 m, .string t, .slice Ab nb zb, .slice Aa na za, .int .i64 ck, .string ct, .slice A n c, .int .i64 K, .string cn, .int .i64 cq, .bool cb] (.slice yA yn yc) (.int .i64 (kk : Int)) #[.int .i64 4, .int .i64 0, .string t, .slice none 0 0, .slice none 0 0, .int .i64 0, .string ⟨#[]⟩, .slice none 0 0, .int .i64 0, .string ⟨#[]⟩, .int .i64 0, .bool false]) := by rw [hW5]; exact (HS4.out.put 2 (.string t))
        replace hW5 := hW5.symm
        have c2 := HS5.out.he.cell 2
        have c3 := HS5.out.he.cell 3
        have c4 := HS5.out.he.cell 4
        have cf2 := HS5.out.he.free 2
        have cf3 := HS5.out.he.free 3
        have cf4 := HS5.out.he.free 4
        simp only [List.getElem?_toArray, List.getElem?_cons_zero, List.getElem?_cons_succ] at c2 c3 c4
        have s0 := HS5.out.hs.cell 0
        have s1 := HS5.out.hs.cell 1
        have sf0 := HS5.out.hs.free 0
        have sf1 := HS5.out.hs.free 1
        simp only [List.getElem?_toArray, List.getElem?_cons_zero, List.getElem?_cons_succ] at s0 s1
        have hbw5 := HS5.out.bel
        have HRW := Lib.hid (row_any yA yL yn yc (kk : Int) Aa AA na za W5 hok.len hok.few (hok.row.below hbw5) (fun y hy => (goodS_fit yL kk hgs y hy).2.2.2) HW.out.a.1 HW.out.a.2.1 HFF.out.2.2.2 (HW.out.a.2.2.1.below hbw5) HFF.out.2.1)
        go_wp2_with fail
        refine HRW.out.mono ?_
        rintro e w6 ⟨v6, rfl, ho6, hb6⟩
        obtain ⟨A6, n6, c6, rfl, hn6, hc6, hm6, hr6, hg6, _⟩ := ownV_blk ho6.out
        have HS6 := Lib.hid (HS5.out.below hb6.out)
        have hq5 : q < W5.heap.size := HS5.out.ho.lt
        clear HRW ho6 hb6 hbw5 c2 cf2 c3 cf3 c4 cf4 s0 sf0 s1 sf1 b2 bf2 a0 af0 a1 af1 a2 af2 e0 ef0 nz0 nzf0 nz1 nzf1 nz2 nzf2 nz3 nzf3 nz4 nzf4 nz5 nzf5 nz6 nzf6 nz7 nzf7 nz8 nzf8 nz9 nzf9 nz10 nzf10 nz11 nzf11
        have b4 := HS6.out.ho.cell 4
        have bf4 := HS6.out.ho.free 4
        simp only [List.getElem?_toArray, List.getElem?_cons_zero, List.getElem?_cons_succ] at b4
        obtain ⟨W7, hW7⟩ : ∃ W, W = (w6.setCell ⟨q, 4, none⟩ (.slice A6 n6 c6)) := ⟨_, rfl⟩
        have HS7 : Hid (Sv w W7 g q #[.int .i64 4, .int .i64 m, .string t, .slice Ab nb zb, .slice Aa na za, .int .i64 ck, .string ct, .slice A n c, .int .i64 K, .string cn, .int .i64 cq, .bool cb] (.slice yA yn yc) (.int .i64 (kk : Int)) #[.int .i64 4, .int .i64 0, .string t, .slice none 0 0, .slice A6 n6 c6, .int .i64 0, .string ⟨#[]⟩, .slice none 0 0, .int .i64 0, .string ⟨#[]⟩, .int .i64 0, .bool false]) := by rw [hW7]; exact (HS6.out.put 4 (.slice A6 n6 c6))
        replace hW7 := hW7.symm
        have ht7 : Tur [q] w6 W7 := by rw [← hW7]; exact Tur.setCell w6 (p := ⟨q, 4, none⟩) (by simp) _
        have u0 := HS7.out.ho.cell 0
        have u1 := HS7.out.ho.cell 1
        have u2 := HS7.out.ho.cell 2
        have u3 := HS7.out.ho.cell 3
        have u4 := HS7.out.ho.cell 4
        have u5 := HS7.out.ho.cell 5
        have u6 := HS7.out.ho.cell 6
        have u7 := HS7.out.ho.cell 7
        have u8 := HS7.out.ho.cell 8
        have u9 := HS7.out.ho.cell 9
        have u10 := HS7.out.ho.cell 10
        have u11 := HS7.out.ho.cell 11
        have uf0 := HS7.out.ho.free 0
        have uf1 := HS7.out.ho.free 1
        have uf2 := HS7.out.ho.free 2
        have uf3 := HS7.out.ho.free 3
        have uf4 := HS7.out.ho.free 4
        have uf5 := HS7.out.ho.free 5
        have uf6 := HS7.out.ho.free 6
        have uf7 := HS7.out.ho.free 7
        have uf8 := HS7.out.ho.free 8
        have uf9 := HS7.out.ho.free 9
        have uf10 := HS7.out.ho.free 10
        have uf11 := HS7.out.ho.free 11
        simp only [List.getElem?_toArray, List.getElem?_cons_zero, List.getElem?_cons_succ] at u0 u1 u2 u3 u4 u5 u6 u7 u8 u9 u10 u11
        have v0 := HS7.out.hr.cell 0
        have v1 := HS7.out.hr.cell 1
        have v2 := HS7.out.hr.cell 2
        have v3 := HS7.out.hr.cell 3
        have v4 := HS7.out.hr.cell 4
        have v5 := HS7.out.hr.cell 5
        have v6 := HS7.out.hr.cell 6
        have v7 := HS7.out.hr.cell 7
        have v8 := HS7.out.hr.cell 8
        have v9 := HS7.out.hr.cell 9
        have v10 := HS7.out.hr.cell 10
        have v11 := HS7.out.hr.cell 11
        have vf0 := HS7.out.hr.free 0
        have vf1 := HS7.out.hr.free 1
        have vf2 := HS7.out.hr.free 2
        have vf3 := HS7.out.hr.free 3
        have vf4 := HS7.out.hr.free 4
        have vf5 := HS7.out.hr.free 5
        have vf6 := HS7.out.hr.free 6
        have vf7 := HS7.out.hr.free 7
        have vf8 := HS7.out.hr.free 8
        have vf9 := HS7.out.hr.free 9
        have vf10 := HS7.out.hr.free 10
        have vf11 := HS7.out.hr.free 11
        simp only [List.getElem?_toArray, List.getElem?_cons_zero, List.getElem?_cons_succ] at v0 v1 v2 v3 v4 v5 v6 v7 v8 v9 v10 v11
        go_wp2_with fail
        have HF : Hid (Has (put12 W7 (w.heap.size + 1) (.int .i64 4) (.int .i64 0) (.string t) (.slice none 0 0) (.slice A6 n6 c6) (.int .i64 0) (.string ⟨#[]⟩) (.slice none 0 0) (.int .i64 0) (.string ⟨#[]⟩) (.int .i64 0) (.bool false)) (w.heap.size + 1) 33 #[.int .i64 4, .int .i64 0, .string t, .slice none 0 0, .slice A6 n6 c6, .int .i64 0, .string ⟨#[]⟩, .slice none 0 0, .int .i64 0, .string ⟨#[]⟩, .int .i64 0, .bool false]) := put12_has HS7.out.hr (.int .i64 4) (.int .i64 0) (.string t) (.slice none 0 0) (.slice A6 n6 c6) (.int .i64 0) (.string ⟨#[]⟩) (.slice none 0 0) (.int .i64 0) (.string ⟨#[]⟩) (.int .i64 0) (.bool false)
        have ht : Tur [w.heap.size + 1] W7 (put12 W7 (w.heap.size + 1) (.int .i64 4) (.int .i64 0) (.string t) (.slice none 0 0) (.slice A6 n6 c6) (.int .i64 0) (.string ⟨#[]⟩) (.slice none 0 0) (.int .i64 0) (.string ⟨#[]⟩) (.int .i64 0) (.bool false)) := put12_tur _ _ (.int .i64 4) (.int .i64 0) (.string t) (.slice none 0 0) (.slice A6 n6 c6) (.int .i64 0) (.string ⟨#[]⟩) (.slice none 0 0) (.int .i64 0) (.string ⟨#[]⟩) (.int .i64 0) (.bool false)
        have hbe : Below w.heap.size w (put12 W7 (w.heap.size + 1) (.int .i64 4) (.int .i64 0) (.string t) (.slice none 0 0) (.slice A6 n6 c6) (.int .i64 0) (.string ⟨#[]⟩) (.slice none 0 0) (.int .i64 0) (.string ⟨#[]⟩) (.int .i64 0) (.bool false)) := (Tur.of_below (X := [w.heap.size + 1]) HS7.out.bel).trans ht (Fre.refl _ _) |>.below (B := w.heap.size) (fun k hk => by simp at hk; omega) (Nat.le_refl _)
        refine bodyPost_ret (v := .agg #[.int .i64 4, .int .i64 0, .string t, .slice none 0 0, .slice A6 n6 c6, .int .i64 0, .string ⟨#[]⟩, .slice none 0 0, .int .i64 0, .string ⟨#[]⟩, .int .i64 0, .bool false]) (evEnd (put12 W7 (w.heap.size + 1) (.int .i64 4) (.int .i64 0) (.string t) (.slice none 0 0) (.slice A6 n6 c6) (.int .i64 0) (.string ⟨#[]⟩) (.slice none 0 0) (.int .i64 0) (.string ⟨#[]⟩) (.int .i64 0) (.bool false)) (w.heap.size + 1) (.int .i64 4) (.int .i64 0) (.string t) (.slice none 0 0) (.slice A6 n6 c6) (.int .i64 0) (.string ⟨#[]⟩) (.slice none 0 0) (.int .i64 0) (.string ⟨#[]⟩) (.int .i64 0) (.bool false) _ rfl HF.out) rfl ?_
        exact ⟨⟨4, 0, t, [], rowF yL AA, 0, ⟨#[]⟩, [], 0, ⟨⟨#[]⟩, 0, false⟩⟩, none, 0, 0, A6, n6, c6, none, 0, 0, rfl, evw_row 4 0 t [] (rowF yL AA) none 0 0 A6 n6 c6 (nilB _) ⟨hn6.out, hc6, ((hr6.out.tur ht7 (fun a e hh => by have := (hg6.out a e).1; simp at hh; omega)).tur ht (fun a e hh => by have := (hg6.out a e).1; simp at hh; omega)), fun y hy => (rowF_fit yL AA (fun c hc => ⟨(goodS_fit yL kk hgs c hc).2.1, (goodS_fit yL kk hgs c hc).2.2.1⟩) HFF.out.2.1 y hy).1⟩ (by omega) (by unfold maxLen at hm6; omega), hbe⟩
    · cases hp : plF T t
      · go_enter Tryd.func8, Tryd.ntmps8
        go_wp2_with fail
        refine HFD.out.mono ?_
        rintro e w2 ⟨rfl, hb2⟩
        rw [tfV_no HTT.out.sort hp]
        by_cases hnt : 0 < nt
        · have g0 : (0 : Int) < (nt : Int) := by omega
          have h0T : 0 < T.length := by rw [HTT.out.len]; omega
          obtain ⟨bt, ot, rfl, hct⟩ := HTT.out.row (by intro e; rw [e] at h0T; simp at h0T)
          have hct0 := hct 0 h0T
          obtain ⟨y, hy⟩ : ∃ y, T[0] = y := ⟨_, rfl⟩
          have hyT : y ∈ T := hy ▸ List.getElem_mem h0T
          rw [hy] at hct0
          clear hct hy
          obtain ⟨kk, hK, hgs⟩ := HGS.out y hyT
          have hok := HTT.out.ok y hyT
          obtain ⟨ynm, yA, yn, yc, yL, yK⟩ := y
          dsimp only at hK hgs hok hct0
          subst hK
          simp only [Nat.zero_mul, Nat.add_zero] at hct0
          obtain ⟨p0, p1, p2⟩ := hct0
          obtain ⟨W3z, hW3z⟩ : ∃ W, W = w2.alloc (.cells #[.slice none 0 0, .int .i64 0] 27) := ⟨_, rfl⟩
          have hsz2 : w.heap.size + 1 < w2.heap.size := Nat.lt_of_lt_of_le hsz1 hb2.out.size
          have HS3z : Hid (Su w W3z w2.heap.size #[.int .i64 5, .int .i64 m, .string t, .slice Ab nb zb, .slice Aa na za, .int .i64 ck, .string ct, .slice A n c, .int .i64 K, .string cn, .int .i64 cq, .bool cb] (.slice none 0 0) (.int .i64 0)) := by
            rw [hW3z]
            exact ⟨(HE1.out.below hb2.out HE1.out.lt).alloc _, (HR1.out.below hb2.out HR1.out.lt).alloc _, Has.new _ _ _, (HB1.out.trans (hb2.out.mono HB1.out.size)).alloc (HB1.out.trans (hb2.out.mono HB1.out.size)).size _, hsz2⟩
          replace hW3z := hW3z.symm
          obtain ⟨g, hg⟩ : ∃ g, w2.heap.size = g := ⟨_, rfl⟩
          rw [hg] at HS3z hsz2
          clear hb2 HFD HE1 HR1 HB1 u2 hw1
          have zz0 := HS3z.out.hs.cell 0
          have zz1 := HS3z.out.hs.cell 1
          have zzf0 := HS3z.out.hs.free 0
          have zzf1 := HS3z.out.hs.free 1
          simp only [List.getElem?_toArray, List.getElem?_cons_zero, List.getElem?_cons_succ] at zz0 zz1
          obtain ⟨W3, hW3⟩ : ∃ W, W = (W3z.setCell ⟨g, 0, none⟩ (.slice none 0 0)).setCell ⟨g, 1, none⟩ (.int .i64 0) := ⟨_, rfl⟩
          have HS3 : Hid (Su w W3 g #[.int .i64 5, .int .i64 m, .string t, .slice Ab nb zb, .slice Aa na za, .int .i64 ck, .string ct, .slice A n c, .int .i64 K, .string cn, .int .i64 cq, .bool cb] (.slice none 0 0) (.int .i64 0)) := by rw [hW3]; exact HS3z.out.puts _ _
          replace hW3 := hW3.symm
          have hb3w := HS3.out.bel
          have x0 : W3.cell? ⟨bt, ot, none⟩ = some (.string ynm) := keepW3 hb3w p0
          obtain ⟨W3a, hW3a⟩ : ∃ W, W = W3.setCell ⟨w.heap.size, 2, none⟩ (.string ynm) := ⟨_, rfl⟩
          have HS3a : Hid (Su w W3a g #[.int .i64 5, .int .i64 m, .string ynm, .slice Ab nb zb, .slice Aa na za, .int .i64 ck, .string ct, .slice A n c, .int .i64 K, .string cn, .int .i64 cq, .bool cb] (.slice none 0 0) (.int .i64 0)) := by rw [hW3a]; exact HS3.out.pute 2 _
          replace hW3a := hW3a.symm
          have x1 : W3a.cell? ⟨bt, ot + 1, none⟩ = some (.slice yA yn yc) := keepW3 HS3a.out.bel p1
          have x2 : W3a.cell? ⟨bt, ot + 1 + 1, none⟩ = some (.int .i64 (kk : Int)) := keepW3 HS3a.out.bel p2
          have x2b : W3a.cell? ⟨bt, ot + 2, none⟩ = some (.int .i64 (kk : Int)) := keepW3 HS3a.out.bel p2
          obtain ⟨W3b, hW3b⟩ : ∃ W, W = (W3a.setCell ⟨g, 0, none⟩ (.slice yA yn yc)).setCell ⟨g, 1, none⟩ (.int .i64 (kk : Int)) := ⟨_, rfl⟩
          have HS3b : Hid (Su w W3b g #[.int .i64 5, .int .i64 m, .string ynm, .slice Ab nb zb, .slice Aa na za, .int .i64 ck, .string ct, .slice A n c, .int .i64 K, .string cn, .int .i64 cq, .bool cb] (.slice yA yn yc) (.int .i64 (kk : Int))) := by rw [hW3b]; exact HS3a.out.puts _ _
          replace hW3b := hW3b.symm
          have x_e0 := HS3.out.he.cell 0
          have x_e2 := HS3.out.he.cell 2
          have x_ef0 := HS3.out.he.free 0
          have x_ef2 := HS3.out.he.free 2
          simp only [List.getElem?_toArray, List.getElem?_cons_zero, List.getElem?_cons_succ] at x_e0 x_e2
          have x_s0 := HS3a.out.hs.cell 0
          have x_s1 := HS3a.out.hs.cell 1
          have x_sf0 := HS3a.out.hs.free 0
          have x_sf1 := HS3a.out.hs.free 1
          simp only [List.getElem?_toArray, List.getElem?_cons_zero, List.getElem?_cons_succ] at x_s0 x_s1
          obtain ⟨W4z, hW4z⟩ : ∃ W, W = W3b.alloc (.cells #[.int .i64 0, .int .i64 0, .string ⟨#[]⟩, .slice none 0 0, .slice none 0 0, .int .i64 0, .string ⟨#[]⟩, .slice none 0 0, .int .i64 0, .string ⟨#[]⟩, .int .i64 0, .bool false] 33) := ⟨_, rfl⟩
          have s4 := HS3b.out.out #[.int .i64 0, .int .i64 0, .string ⟨#[]⟩, .slice none 0 0, .slice none 0 0, .int .i64 0, .string ⟨#[]⟩, .slice none 0 0, .int .i64 0, .string ⟨#[]⟩, .int .i64 0, .bool false]
          rw [← hW4z] at s4
          replace hW4z := hW4z.symm
          obtain ⟨q, hq⟩ : ∃ q, W3b.heap.size = q := ⟨_, rfl⟩
          rw [hq] at s4
          have HS4z := Lib.hid s4
          have nz0 := HS4z.out.ho.cell 0
          have nz1 := HS4z.out.ho.cell 1
          have nz2 := HS4z.out.ho.cell 2
          have nz3 := HS4z.out.ho.cell 3
          have nz4 := HS4z.out.ho.cell 4
          have nz5 := HS4z.out.ho.cell 5
          have nz6 := HS4z.out.ho.cell 6
          have nz7 := HS4z.out.ho.cell 7
          have nz8 := HS4z.out.ho.cell 8
          have nz9 := HS4z.out.ho.cell 9
          have nz10 := HS4z.out.ho.cell 10
          have nz11 := HS4z.out.ho.cell 11
          have nzf0 := HS4z.out.ho.free 0
          have nzf1 := HS4z.out.ho.free 1
          have nzf2 := HS4z.out.ho.free 2
          have nzf3 := HS4z.out.ho.free 3
          have nzf4 := HS4z.out.ho.free 4
          have nzf5 := HS4z.out.ho.free 5
          have nzf6 := HS4z.out.ho.free 6
          have nzf7 := HS4z.out.ho.free 7
          have nzf8 := HS4z.out.ho.free 8
          have nzf9 := HS4z.out.ho.free 9
          have nzf10 := HS4z.out.ho.free 10
          have nzf11 := HS4z.out.ho.free 11
          simp only [List.getElem?_toArray, List.getElem?_cons_zero, List.getElem?_cons_succ] at nz0 nz1 nz2 nz3 nz4 nz5 nz6 nz7 nz8 nz9 nz10 nz11
          obtain ⟨W4, hW4⟩ : ∃ W, put12 W4z q (.int .i64 5) (.int .i64 0) (.string ⟨#[]⟩) (.slice none 0 0) (.slice none 0 0) (.int .i64 0) (.string ⟨#[]⟩) (.slice none 0 0) (.int .i64 0) (.string ⟨#[]⟩) (.int .i64 0) (.bool false) = W := ⟨_, rfl⟩
          have s4b := s4.put12 (.int .i64 5) (.int .i64 0) (.string ⟨#[]⟩) (.slice none 0 0) (.slice none 0 0) (.int .i64 0) (.string ⟨#[]⟩) (.slice none 0 0) (.int .i64 0) (.string ⟨#[]⟩) (.int .i64 0) (.bool false)
          rw [hW4] at s4b
          have HS4 : Hid (Sv w W4 g q _ _ _ #[.int .i64 5, .int .i64 0, .string ⟨#[]⟩, .slice none 0 0, .slice none 0 0, .int .i64 0, .string ⟨#[]⟩, .slice none 0 0, .int .i64 0, .string ⟨#[]⟩, .int .i64 0, .bool false]) := s4b
          have hW4' : ((((((((((((W4z.setCell ⟨q, 0, none⟩ (.int .i64 5)).setCell ⟨q, 1, none⟩ (.int .i64 0)).setCell ⟨q, 2, none⟩ (.string ⟨#[]⟩)).setCell ⟨q, 3, none⟩ (.slice none 0 0)).setCell ⟨q, 4, none⟩ (.slice none 0 0)).setCell ⟨q, 5, none⟩ (.int .i64 0)).setCell ⟨q, 6, none⟩ (.string ⟨#[]⟩)).setCell ⟨q, 7, none⟩ (.slice none 0 0)).setCell ⟨q, 8, none⟩ (.int .i64 0)).setCell ⟨q, 9, none⟩ (.string ⟨#[]⟩)).setCell ⟨q, 10, none⟩ (.int .i64 0)).setCell ⟨q, 11, none⟩ (.bool false)) = W4 := hW4
          clear s4 s4b hW4
          have hlo := HS4.out.lo
          have e0 := HS3b.out.he.cell 0
          have ef0 := HS3b.out.he.free 0
          simp only [List.getElem?_toArray, List.getElem?_cons_zero, List.getElem?_cons_succ] at e0
          have a0 := HS4.out.he.cell 0
          have a1 := HS4.out.he.cell 1
          have a2 := HS4.out.he.cell 2
          have af0 := HS4.out.he.free 0
          have af1 := HS4.out.he.free 1
          have af2 := HS4.out.he.free 2
          simp only [List.getElem?_toArray, List.getElem?_cons_zero, List.getElem?_cons_succ] at a0 a1 a2
          have b2 := HS4.out.ho.cell 2
          have bf2 := HS4.out.ho.free 2
          simp only [List.getElem?_toArray, List.getElem?_cons_zero, List.getElem?_cons_succ] at b2
          obtain ⟨W5, hW5⟩ : ∃ W, W = (W4.setCell ⟨q, 2, none⟩ (.string ynm)) := ⟨_, rfl⟩
          have HS5 : Hid (Sv w W5 g q #[.int .i64 5, .int .i64 m, .string ynm, .slice Ab nb zb, .slice Aa na za, .int .i64 ck, .string ct, .slice A n c, .int .i64 K, .string cn, .int .i64 cq, .bool cb] (.slice yA yn yc) (.int .i64 (kk : Int)) #[.int .i64 5, .int .i64 0, .string ynm, .slice none 0 0, .slice none 0 0, .int .i64 0, .string ⟨#[]⟩, .slice none 0 0, .int .i64 0, .string ⟨#[]⟩, .int .i64 0, .bool false]) := by rw [hW5]; exact (HS4.out.put 2 (.string ynm))
          replace hW5 := hW5.symm
          have c2 := HS5.out.he.cell 2
          have c3 := HS5.out.he.cell 3
          have c4 := HS5.out.he.cell 4
          have cf2 := HS5.out.he.free 2
          have cf3 := HS5.out.he.free 3
          have cf4 := HS5.out.he.free 4
          simp only [List.getElem?_toArray, List.getElem?_cons_zero, List.getElem?_cons_succ] at c2 c3 c4
          have s0 := HS5.out.hs.cell 0
          have s1 := HS5.out.hs.cell 1
          have sf0 := HS5.out.hs.free 0
          have sf1 := HS5.out.hs.free 1
          simp only [List.getElem?_toArray, List.getElem?_cons_zero, List.getElem?_cons_succ] at s0 s1
          have hbw5 := HS5.out.bel
          have HRW := Lib.hid (row_any yA yL yn yc (kk : Int) Ab B nb zb W5.drew hok.len hok.few (hok.row.below (show Below w.heap.size w W5.drew from hbw5.drew)) (fun y hy => (goodS_fit yL kk hgs y hy).2.2.2) HW.out.b.1 HW.out.b.2.1 HFF.out.2.2.1 (HW.out.b.2.2.1.below (show Below w.heap.size w W5.drew from hbw5.drew)) HFF.out.1)
          have hq5 : q < W5.heap.size := HS5.out.ho.lt
          go_wp2_with fail
          refine wp_region_held_drew (S := (fun X : World => X.cell? ⟨w.heap.size, 3, none⟩ = some (.slice Ab nb zb) ∧ X.cell? ⟨g, 0, none⟩ = some (.slice yA yn yc) ∧ X.cell? ⟨g, 1, none⟩ = some (.int .i64 (kk : Int)))) (by kernel_rfl) ⟨c3, s0, s1⟩ (fun _ => ?_)
          (refine wpAnyH_take (i := 0) (v := ?_) rfl (by kernel_rfl) (by kernel_rfl) (by kernel_rfl) (fun _ _ _ h => h) (Or.inl ⟨by rfl, ?_⟩) (by assumption) ?_; rotate_left; (intro w hSw; (try dsimp only at hSw); go_simp; try with_reducible rfl); ((try simp only [List.getElem_toArray]); (try simp only [List.getElem_cons_succ]); (try simp only [List.getElem_cons_zero]); (try simp only [Act.put]); (try simp only [List.setIfInBounds_toArray]); (try simp only [List.set_cons_succ]); (try simp only [List.set_cons_zero])))
          (refine wpAnyH_take (i := 1) (v := ?_) rfl (by kernel_rfl) (by kernel_rfl) (by kernel_rfl) (fun _ _ _ h => h) (Or.inl ⟨by rfl, ?_⟩) (by assumption) ?_; rotate_left; (intro w hSw; (try dsimp only at hSw); go_simp; try with_reducible rfl); ((try simp only [List.getElem_toArray]); (try simp only [List.getElem_cons_succ]); (try simp only [List.getElem_cons_zero]); (try simp only [Act.put]); (try simp only [List.setIfInBounds_toArray]); (try simp only [List.set_cons_succ]); (try simp only [List.set_cons_zero])))
          (refine wpAnyH_take (i := 2) (v := ?_) rfl (by kernel_rfl) (by kernel_rfl) (by kernel_rfl) (fun _ _ _ h => h) (Or.inl ⟨by rfl, ?_⟩) (by assumption) ?_; rotate_left; (intro w hSw; (try dsimp only at hSw); go_simp; try with_reducible rfl); ((try simp only [List.getElem_toArray]); (try simp only [List.getElem_cons_succ]); (try simp only [List.getElem_cons_zero]); (try simp only [Act.put]); (try simp only [List.setIfInBounds_toArray]); (try simp only [List.set_cons_succ]); (try simp only [List.set_cons_zero])))
          (refine wpAnyH_take (i := 4) (v := ?_) rfl (by kernel_rfl) (by kernel_rfl) (by kernel_rfl) (fun _ _ _ h => h) (Or.inl ⟨by rfl, ?_⟩) (by assumption) ?_; rotate_left; (intro w hSw; (try dsimp only at hSw); go_simp; try with_reducible rfl); ((try simp only [List.getElem_toArray]); (try simp only [List.getElem_cons_succ]); (try simp only [List.getElem_cons_zero]); (try simp only [Act.put]); (try simp only [List.setIfInBounds_toArray]); (try simp only [List.set_cons_succ]); (try simp only [List.set_cons_zero])))
          (refine wpAnyH_take (i := 5) (v := ?_) rfl (by kernel_rfl) (by kernel_rfl) (by kernel_rfl) (fun _ _ _ h => h) (Or.inl ⟨by rfl, ?_⟩) (by assumption) ?_; rotate_left; (intro w hSw; (try dsimp only at hSw); go_simp; try with_reducible rfl); ((try simp only [List.getElem_toArray]); (try simp only [List.getElem_cons_succ]); (try simp only [List.getElem_cons_zero]); (try simp only [Act.put]); (try simp only [List.setIfInBounds_toArray]); (try simp only [List.set_cons_succ]); (try simp only [List.set_cons_zero])))
          refine wpAnyH_ready (rs := [3]) (by kernel_rfl) (by simp) ?_
          refine AllReadyH.cons rfl (fun K2 hK2 => ?_) AllReadyH.nil
          go_simp
          refine (HRW.out).mono ?_
          rintro e w6 ⟨v6, rfl, ho6, hb6⟩
          obtain ⟨A6, n6, c6, rfl, hn6, hc6, hm6, hr6, hg6, hA6⟩ := ownV_blk ho6.out
          have HS6 := Lib.hid ((show Sv w W5.drew g q _ _ _ _ from ⟨HS5.out.he, HS5.out.hr, HS5.out.hs, HS5.out.ho, HS5.out.bel.drew, HS5.out.lo⟩ : Sv w W5.drew g q #[.int .i64 5, .int .i64 m, .string ynm, .slice Ab nb zb, .slice Aa na za, .int .i64 ck, .string ct, .slice A n c, .int .i64 K, .string cn, .int .i64 cq, .bool cb] (.slice yA yn yc) (.int .i64 (kk : Int)) #[.int .i64 5, .int .i64 0, .string ynm, .slice none 0 0, .slice none 0 0, .int .i64 0, .string ⟨#[]⟩, .slice none 0 0, .int .i64 0, .string ⟨#[]⟩, .int .i64 0, .bool false]).below hb6.out)
          go_wp2_with fail
          refine hK2.out _ _ (by (try dsimp only); exact ⟨HS6.out.he.cell 3, HS6.out.hs.cell 0, HS6.out.hs.cell 1⟩) (fun _ => ?_)
          clear hK2 K2
          (try simp only [List.getElem_toArray]); (try simp only [List.getElem_cons_succ]); (try simp only [List.getElem_cons_zero]); (try simp only [Act.put]); (try simp only [List.setIfInBounds_toArray]); (try simp only [List.set_cons_succ]); (try simp only [List.set_cons_zero])
          have hkl : kk ≤ n6 := by have h1 := hgs.keys.2.1; have h2 := hn6.out; rw [rowF_len] at h2; omega
          have hk1 : 1 ≤ kk := hgs.keys.1
          unfold maxLen at hm6
          have hkc : (kk : Int) ≤ (c6 : Int) := by omega
          have hk0 : (0 : Int) ≤ (kk : Int) := by omega
          rcases hA6.out with rfl | ⟨bb6, oo6, rfl⟩
          · exact absurd (hr6.out (by intro e; have := hn6.out; rw [e] at this; simp at this; omega)) (fun ⟨_, _, e, _⟩ => by cases e)
          · refine wpAnyH_ready (rs := [6]) (by kernel_rfl) (by simp) ?_
            refine AllReadyH.cons rfl (fun K2 hK2 => ?_) (AllReadyH.nil)
            go_simp
            refine hK2.out _ _ (by (try dsimp only); exact ⟨HS6.out.he.cell 3, HS6.out.hs.cell 0, HS6.out.hs.cell 1⟩) (fun _ => ?_)
            clear hK2 K2
            (try simp only [List.getElem_toArray]); (try simp only [List.getElem_cons_succ]); (try simp only [List.getElem_cons_zero]); (try simp only [Act.put]); (try simp only [List.setIfInBounds_toArray]); (try simp only [List.set_cons_succ]); (try simp only [List.set_cons_zero])
            (refine wpAnyH_take (i := 7) (v := ?_) rfl (by kernel_rfl) (by kernel_rfl) (by kernel_rfl) (fun _ _ _ h => h) (Or.inl ⟨by rfl, ?_⟩) (by assumption) ?_; rotate_left; (intro w hSw; (try dsimp only at hSw); go_simp; try with_reducible rfl); ((try simp only [List.getElem_toArray]); (try simp only [List.getElem_cons_succ]); (try simp only [List.getElem_cons_zero]); (try simp only [Act.put]); (try simp only [List.setIfInBounds_toArray]); (try simp only [List.set_cons_succ]); (try simp only [List.set_cons_zero])))
            have b3 := HS6.out.ho.cell 3
            have bf3 := HS6.out.ho.free 3
            simp only [List.getElem?_toArray, List.getElem?_cons_zero, List.getElem?_cons_succ] at b3
            obtain ⟨W7, hW7⟩ : ∃ W, W = (w6.setCell ⟨q, 3, none⟩ (.slice (some ⟨bb6, oo6, none⟩) kk c6)) := ⟨_, rfl⟩
            have HS7 : Hid (Sv w W7 g q #[.int .i64 5, .int .i64 m, .string ynm, .slice Ab nb zb, .slice Aa na za, .int .i64 ck, .string ct, .slice A n c, .int .i64 K, .string cn, .int .i64 cq, .bool cb] (.slice yA yn yc) (.int .i64 (kk : Int)) #[.int .i64 5, .int .i64 0, .string ynm, .slice (some ⟨bb6, oo6, none⟩) kk c6, .slice none 0 0, .int .i64 0, .string ⟨#[]⟩, .slice none 0 0, .int .i64 0, .string ⟨#[]⟩, .int .i64 0, .bool false]) := by rw [hW7]; exact (HS6.out.put 3 (.slice (some ⟨bb6, oo6, none⟩) kk c6))
            replace hW7 := hW7.symm
            have ht7 : Tur [q] w6 W7 := by rw [← hW7]; exact Tur.setCell w6 (p := ⟨q, 3, none⟩) (by simp) _
            refine wpAnyH_ready (rs := [8]) (by kernel_rfl) (by simp) ?_
            refine AllReadyH.cons rfl (fun K2 hK2 => ?_) (AllReadyH.nil)
            go_simp
            refine hK2.out _ _ (by (try dsimp only); exact ⟨HS7.out.he.cell 3, HS7.out.hs.cell 0, HS7.out.hs.cell 1⟩) (fun _ => ?_)
            clear hK2 K2
            (try simp only [List.getElem_toArray]); (try simp only [List.getElem_cons_succ]); (try simp only [List.getElem_cons_zero]); (try simp only [Act.put]); (try simp only [List.setIfInBounds_toArray]); (try simp only [List.set_cons_succ]); (try simp only [List.set_cons_zero])
            refine wpAnyH_done (by kernel_rfl) ?_ _
            clear HRW ho6 hb6 hbw5 c2 cf2 c3 cf3 c4 cf4 s0 sf0 s1 sf1 b2 bf2 b3 bf3 a0 af0 a1 af1 a2 af2 e0 ef0 nz0 nzf0 nz1 nzf1 nz2 nzf2 nz3 nzf3 nz4 nzf4 nz5 nzf5 nz6 nzf6 nz7 nzf7 nz8 nzf8 nz9 nzf9 nz10 nzf10 nz11 nzf11
            have u0 := HS7.out.ho.cell 0
            have u1 := HS7.out.ho.cell 1
            have u2 := HS7.out.ho.cell 2
            have u3 := HS7.out.ho.cell 3
            have u4 := HS7.out.ho.cell 4
            have u5 := HS7.out.ho.cell 5
            have u6 := HS7.out.ho.cell 6
            have u7 := HS7.out.ho.cell 7
            have u8 := HS7.out.ho.cell 8
            have u9 := HS7.out.ho.cell 9
            have u10 := HS7.out.ho.cell 10
            have u11 := HS7.out.ho.cell 11
            have uf0 := HS7.out.ho.free 0
            have uf1 := HS7.out.ho.free 1
            have uf2 := HS7.out.ho.free 2
            have uf3 := HS7.out.ho.free 3
            have uf4 := HS7.out.ho.free 4
            have uf5 := HS7.out.ho.free 5
            have uf6 := HS7.out.ho.free 6
            have uf7 := HS7.out.ho.free 7
            have uf8 := HS7.out.ho.free 8
            have uf9 := HS7.out.ho.free 9
            have uf10 := HS7.out.ho.free 10
            have uf11 := HS7.out.ho.free 11
            simp only [List.getElem?_toArray, List.getElem?_cons_zero, List.getElem?_cons_succ] at u0 u1 u2 u3 u4 u5 u6 u7 u8 u9 u10 u11
            have v0 := HS7.out.hr.cell 0
            have v1 := HS7.out.hr.cell 1
            have v2 := HS7.out.hr.cell 2
            have v3 := HS7.out.hr.cell 3
            have v4 := HS7.out.hr.cell 4
            have v5 := HS7.out.hr.cell 5
            have v6 := HS7.out.hr.cell 6
            have v7 := HS7.out.hr.cell 7
            have v8 := HS7.out.hr.cell 8
            have v9 := HS7.out.hr.cell 9
            have v10 := HS7.out.hr.cell 10
            have v11 := HS7.out.hr.cell 11
            have vf0 := HS7.out.hr.free 0
            have vf1 := HS7.out.hr.free 1
            have vf2 := HS7.out.hr.free 2
            have vf3 := HS7.out.hr.free 3
            have vf4 := HS7.out.hr.free 4
            have vf5 := HS7.out.hr.free 5
            have vf6 := HS7.out.hr.free 6
            have vf7 := HS7.out.hr.free 7
            have vf8 := HS7.out.hr.free 8
            have vf9 := HS7.out.hr.free 9
            have vf10 := HS7.out.hr.free 10
            have vf11 := HS7.out.hr.free 11
            simp only [List.getElem?_toArray, List.getElem?_cons_zero, List.getElem?_cons_succ] at v0 v1 v2 v3 v4 v5 v6 v7 v8 v9 v10 v11
            go_wp2_with fail
            have HF : Hid (Has (put12 W7 (w.heap.size + 1) (.int .i64 5) (.int .i64 0) (.string ynm) (.slice (some ⟨bb6, oo6, none⟩) kk c6) (.slice none 0 0) (.int .i64 0) (.string ⟨#[]⟩) (.slice none 0 0) (.int .i64 0) (.string ⟨#[]⟩) (.int .i64 0) (.bool false)) (w.heap.size + 1) 33 #[.int .i64 5, .int .i64 0, .string ynm, .slice (some ⟨bb6, oo6, none⟩) kk c6, .slice none 0 0, .int .i64 0, .string ⟨#[]⟩, .slice none 0 0, .int .i64 0, .string ⟨#[]⟩, .int .i64 0, .bool false]) := put12_has HS7.out.hr (.int .i64 5) (.int .i64 0) (.string ynm) (.slice (some ⟨bb6, oo6, none⟩) kk c6) (.slice none 0 0) (.int .i64 0) (.string ⟨#[]⟩) (.slice none 0 0) (.int .i64 0) (.string ⟨#[]⟩) (.int .i64 0) (.bool false)
            have ht : Tur [w.heap.size + 1] W7 (put12 W7 (w.heap.size + 1) (.int .i64 5) (.int .i64 0) (.string ynm) (.slice (some ⟨bb6, oo6, none⟩) kk c6) (.slice none 0 0) (.int .i64 0) (.string ⟨#[]⟩) (.slice none 0 0) (.int .i64 0) (.string ⟨#[]⟩) (.int .i64 0) (.bool false)) := put12_tur _ _ (.int .i64 5) (.int .i64 0) (.string ynm) (.slice (some ⟨bb6, oo6, none⟩) kk c6) (.slice none 0 0) (.int .i64 0) (.string ⟨#[]⟩) (.slice none 0 0) (.int .i64 0) (.string ⟨#[]⟩) (.int .i64 0) (.bool false)
            have hbe : Below w.heap.size w (put12 W7 (w.heap.size + 1) (.int .i64 5) (.int .i64 0) (.string ynm) (.slice (some ⟨bb6, oo6, none⟩) kk c6) (.slice none 0 0) (.int .i64 0) (.string ⟨#[]⟩) (.slice none 0 0) (.int .i64 0) (.string ⟨#[]⟩) (.int .i64 0) (.bool false)) := (Tur.of_below (X := [w.heap.size + 1]) HS7.out.bel).trans ht (Fre.refl _ _) |>.below (B := w.heap.size) (fun k hk => by simp at hk; omega) (Nat.le_refl _)
            refine bodyPost_ret (v := .agg #[.int .i64 5, .int .i64 0, .string ynm, .slice (some ⟨bb6, oo6, none⟩) kk c6, .slice none 0 0, .int .i64 0, .string ⟨#[]⟩, .slice none 0 0, .int .i64 0, .string ⟨#[]⟩, .int .i64 0, .bool false]) (evEnd (put12 W7 (w.heap.size + 1) (.int .i64 5) (.int .i64 0) (.string ynm) (.slice (some ⟨bb6, oo6, none⟩) kk c6) (.slice none 0 0) (.int .i64 0) (.string ⟨#[]⟩) (.slice none 0 0) (.int .i64 0) (.string ⟨#[]⟩) (.int .i64 0) (.bool false)) (w.heap.size + 1) (.int .i64 5) (.int .i64 0) (.string ynm) (.slice (some ⟨bb6, oo6, none⟩) kk c6) (.slice none 0 0) (.int .i64 0) (.string ⟨#[]⟩) (.slice none 0 0) (.int .i64 0) (.string ⟨#[]⟩) (.int .i64 0) (.bool false) _ rfl HF.out) rfl ?_
            exact ⟨⟨5, 0, ynm, (rowF yL B).take kk, [], 0, ⟨#[]⟩, [], 0, ⟨⟨#[]⟩, 0, false⟩⟩, some ⟨bb6, oo6, none⟩, kk, c6, none, 0, 0, none, 0, 0, rfl, evw_row 5 0 ynm ((rowF yL B).take kk) [] (some ⟨bb6, oo6, none⟩) kk c6 none 0 0 ⟨by rw [List.length_take, hn6.out]; omega, by omega, ((hr6.out.takeK kk |>.tur ht7 (fun a e hh => by have := (hg6.out a e).1; simp at hh; have h5 : W5.drew.heap.size = W5.heap.size := rfl; omega)).tur ht (fun a e hh => by have := (hg6.out a e).1; simp at hh; have h5 : W5.drew.heap.size = W5.heap.size := rfl; omega)), fun y hy => (rowF_fit yL B (fun c hc => ⟨(goodS_fit yL kk hgs c hc).2.1, (goodS_fit yL kk hgs c hc).2.2.1⟩) HFF.out.1 y (List.mem_of_mem_take hy)).1⟩ (nilB _) (by omega) (by omega), hbe⟩
        · have g0 : ¬ (0 : Int) < (nt : Int) := by omega
          obtain ⟨W3z, hW3z⟩ : ∃ W, W = w2.alloc (.cells #[.slice none 0 0, .int .i64 0] 27) := ⟨_, rfl⟩
          have hsz2 : w.heap.size + 1 < w2.heap.size := Nat.lt_of_lt_of_le hsz1 hb2.out.size
          have HS3z : Hid (Su w W3z w2.heap.size #[.int .i64 5, .int .i64 m, .string t, .slice Ab nb zb, .slice Aa na za, .int .i64 ck, .string ct, .slice A n c, .int .i64 K, .string cn, .int .i64 cq, .bool cb] (.slice none 0 0) (.int .i64 0)) := by
            rw [hW3z]
            exact ⟨(HE1.out.below hb2.out HE1.out.lt).alloc _, (HR1.out.below hb2.out HR1.out.lt).alloc _, Has.new _ _ _, (HB1.out.trans (hb2.out.mono HB1.out.size)).alloc (HB1.out.trans (hb2.out.mono HB1.out.size)).size _, hsz2⟩
          replace hW3z := hW3z.symm
          obtain ⟨g, hg⟩ : ∃ g, w2.heap.size = g := ⟨_, rfl⟩
          rw [hg] at HS3z hsz2
          clear hb2 HFD HE1 HR1 HB1 u2 hw1
          have zz0 := HS3z.out.hs.cell 0
          have zz1 := HS3z.out.hs.cell 1
          have zzf0 := HS3z.out.hs.free 0
          have zzf1 := HS3z.out.hs.free 1
          simp only [List.getElem?_toArray, List.getElem?_cons_zero, List.getElem?_cons_succ] at zz0 zz1
          obtain ⟨W3, hW3⟩ : ∃ W, W = (W3z.setCell ⟨g, 0, none⟩ (.slice none 0 0)).setCell ⟨g, 1, none⟩ (.int .i64 0) := ⟨_, rfl⟩
          have HS3 : Hid (Su w W3 g #[.int .i64 5, .int .i64 m, .string t, .slice Ab nb zb, .slice Aa na za, .int .i64 ck, .string ct, .slice A n c, .int .i64 K, .string cn, .int .i64 cq, .bool cb] (.slice none 0 0) (.int .i64 0)) := by rw [hW3]; exact HS3z.out.puts _ _
          replace hW3 := hW3.symm
          obtain ⟨W4z, hW4z⟩ : ∃ W, W = W3.alloc (.cells #[.int .i64 0, .int .i64 0, .string ⟨#[]⟩, .slice none 0 0, .slice none 0 0, .int .i64 0, .string ⟨#[]⟩, .slice none 0 0, .int .i64 0, .string ⟨#[]⟩, .int .i64 0, .bool false] 33) := ⟨_, rfl⟩
          have s4 := HS3.out.out #[.int .i64 0, .int .i64 0, .string ⟨#[]⟩, .slice none 0 0, .slice none 0 0, .int .i64 0, .string ⟨#[]⟩, .slice none 0 0, .int .i64 0, .string ⟨#[]⟩, .int .i64 0, .bool false]
          rw [← hW4z] at s4
          replace hW4z := hW4z.symm
          obtain ⟨q, hq⟩ : ∃ q, W3.heap.size = q := ⟨_, rfl⟩
          rw [hq] at s4
          have HS4z := Lib.hid s4
          have nz0 := HS4z.out.ho.cell 0
          have nz1 := HS4z.out.ho.cell 1
          have nz2 := HS4z.out.ho.cell 2
          have nz3 := HS4z.out.ho.cell 3
          have nz4 := HS4z.out.ho.cell 4
          have nz5 := HS4z.out.ho.cell 5
          have nz6 := HS4z.out.ho.cell 6
          have nz7 := HS4z.out.ho.cell 7
          have nz8 := HS4z.out.ho.cell 8
          have nz9 := HS4z.out.ho.cell 9
          have nz10 := HS4z.out.ho.cell 10
          have nz11 := HS4z.out.ho.cell 11
          have nzf0 := HS4z.out.ho.free 0
          have nzf1 := HS4z.out.ho.free 1
          have nzf2 := HS4z.out.ho.free 2
          have nzf3 := HS4z.out.ho.free 3
          have nzf4 := HS4z.out.ho.free 4
          have nzf5 := HS4z.out.ho.free 5
          have nzf6 := HS4z.out.ho.free 6
          have nzf7 := HS4z.out.ho.free 7
          have nzf8 := HS4z.out.ho.free 8
          have nzf9 := HS4z.out.ho.free 9
          have nzf10 := HS4z.out.ho.free 10
          have nzf11 := HS4z.out.ho.free 11
          simp only [List.getElem?_toArray, List.getElem?_cons_zero, List.getElem?_cons_succ] at nz0 nz1 nz2 nz3 nz4 nz5 nz6 nz7 nz8 nz9 nz10 nz11
          obtain ⟨W4, hW4⟩ : ∃ W, put12 W4z q (.int .i64 5) (.int .i64 0) (.string ⟨#[]⟩) (.slice none 0 0) (.slice none 0 0) (.int .i64 0) (.string ⟨#[]⟩) (.slice none 0 0) (.int .i64 0) (.string ⟨#[]⟩) (.int .i64 0) (.bool false) = W := ⟨_, rfl⟩
          have s4b := s4.put12 (.int .i64 5) (.int .i64 0) (.string ⟨#[]⟩) (.slice none 0 0) (.slice none 0 0) (.int .i64 0) (.string ⟨#[]⟩) (.slice none 0 0) (.int .i64 0) (.string ⟨#[]⟩) (.int .i64 0) (.bool false)
          rw [hW4] at s4b
          have HS4 : Hid (Sv w W4 g q _ _ _ #[.int .i64 5, .int .i64 0, .string ⟨#[]⟩, .slice none 0 0, .slice none 0 0, .int .i64 0, .string ⟨#[]⟩, .slice none 0 0, .int .i64 0, .string ⟨#[]⟩, .int .i64 0, .bool false]) := s4b
          have hW4' : ((((((((((((W4z.setCell ⟨q, 0, none⟩ (.int .i64 5)).setCell ⟨q, 1, none⟩ (.int .i64 0)).setCell ⟨q, 2, none⟩ (.string ⟨#[]⟩)).setCell ⟨q, 3, none⟩ (.slice none 0 0)).setCell ⟨q, 4, none⟩ (.slice none 0 0)).setCell ⟨q, 5, none⟩ (.int .i64 0)).setCell ⟨q, 6, none⟩ (.string ⟨#[]⟩)).setCell ⟨q, 7, none⟩ (.slice none 0 0)).setCell ⟨q, 8, none⟩ (.int .i64 0)).setCell ⟨q, 9, none⟩ (.string ⟨#[]⟩)).setCell ⟨q, 10, none⟩ (.int .i64 0)).setCell ⟨q, 11, none⟩ (.bool false)) = W4 := hW4
          clear s4 s4b hW4
          have hlo := HS4.out.lo
          have e0 := HS3.out.he.cell 0
          have ef0 := HS3.out.he.free 0
          simp only [List.getElem?_toArray, List.getElem?_cons_zero, List.getElem?_cons_succ] at e0
          have a0 := HS4.out.he.cell 0
          have a1 := HS4.out.he.cell 1
          have a2 := HS4.out.he.cell 2
          have af0 := HS4.out.he.free 0
          have af1 := HS4.out.he.free 1
          have af2 := HS4.out.he.free 2
          simp only [List.getElem?_toArray, List.getElem?_cons_zero, List.getElem?_cons_succ] at a0 a1 a2
          have b2 := HS4.out.ho.cell 2
          have bf2 := HS4.out.ho.free 2
          simp only [List.getElem?_toArray, List.getElem?_cons_zero, List.getElem?_cons_succ] at b2
          obtain ⟨W7, hW7⟩ : ∃ W, W = (W4.setCell ⟨q, 2, none⟩ (.string t)) := ⟨_, rfl⟩
          have HS7 : Hid (Sv w W7 g q #[.int .i64 5, .int .i64 m, .string t, .slice Ab nb zb, .slice Aa na za, .int .i64 ck, .string ct, .slice A n c, .int .i64 K, .string cn, .int .i64 cq, .bool cb] (.slice none 0 0) (.int .i64 0) #[.int .i64 5, .int .i64 0, .string t, .slice none 0 0, .slice none 0 0, .int .i64 0, .string ⟨#[]⟩, .slice none 0 0, .int .i64 0, .string ⟨#[]⟩, .int .i64 0, .bool false]) := by rw [hW7]; exact (HS4.out.put 2 (.string t))
          replace hW7 := hW7.symm
          have u0 := HS7.out.ho.cell 0
          have u1 := HS7.out.ho.cell 1
          have u2 := HS7.out.ho.cell 2
          have u3 := HS7.out.ho.cell 3
          have u4 := HS7.out.ho.cell 4
          have u5 := HS7.out.ho.cell 5
          have u6 := HS7.out.ho.cell 6
          have u7 := HS7.out.ho.cell 7
          have u8 := HS7.out.ho.cell 8
          have u9 := HS7.out.ho.cell 9
          have u10 := HS7.out.ho.cell 10
          have u11 := HS7.out.ho.cell 11
          have uf0 := HS7.out.ho.free 0
          have uf1 := HS7.out.ho.free 1
          have uf2 := HS7.out.ho.free 2
          have uf3 := HS7.out.ho.free 3
          have uf4 := HS7.out.ho.free 4
          have uf5 := HS7.out.ho.free 5
          have uf6 := HS7.out.ho.free 6
          have uf7 := HS7.out.ho.free 7
          have uf8 := HS7.out.ho.free 8
          have uf9 := HS7.out.ho.free 9
          have uf10 := HS7.out.ho.free 10
          have uf11 := HS7.out.ho.free 11
          simp only [List.getElem?_toArray, List.getElem?_cons_zero, List.getElem?_cons_succ] at u0 u1 u2 u3 u4 u5 u6 u7 u8 u9 u10 u11
          have v0 := HS7.out.hr.cell 0
          have v1 := HS7.out.hr.cell 1
          have v2 := HS7.out.hr.cell 2
          have v3 := HS7.out.hr.cell 3
          have v4 := HS7.out.hr.cell 4
          have v5 := HS7.out.hr.cell 5
          have v6 := HS7.out.hr.cell 6
          have v7 := HS7.out.hr.cell 7
          have v8 := HS7.out.hr.cell 8
          have v9 := HS7.out.hr.cell 9
          have v10 := HS7.out.hr.cell 10
          have v11 := HS7.out.hr.cell 11
          have vf0 := HS7.out.hr.free 0
          have vf1 := HS7.out.hr.free 1
          have vf2 := HS7.out.hr.free 2
          have vf3 := HS7.out.hr.free 3
          have vf4 := HS7.out.hr.free 4
          have vf5 := HS7.out.hr.free 5
          have vf6 := HS7.out.hr.free 6
          have vf7 := HS7.out.hr.free 7
          have vf8 := HS7.out.hr.free 8
          have vf9 := HS7.out.hr.free 9
          have vf10 := HS7.out.hr.free 10
          have vf11 := HS7.out.hr.free 11
          simp only [List.getElem?_toArray, List.getElem?_cons_zero, List.getElem?_cons_succ] at v0 v1 v2 v3 v4 v5 v6 v7 v8 v9 v10 v11
          go_wp2_with fail
          have HF : Hid (Has (put12 W7 (w.heap.size + 1) (.int .i64 5) (.int .i64 0) (.string t) (.slice none 0 0) (.slice none 0 0) (.int .i64 0) (.string ⟨#[]⟩) (.slice none 0 0) (.int .i64 0) (.string ⟨#[]⟩) (.int .i64 0) (.bool false)) (w.heap.size + 1) 33 #[.int .i64 5, .int .i64 0, .string t, .slice none 0 0, .slice none 0 0, .int .i64 0, .string ⟨#[]⟩, .slice none 0 0, .int .i64 0, .string ⟨#[]⟩, .int .i64 0, .bool false]) := put12_has HS7.out.hr (.int .i64 5) (.int .i64 0) (.string t) (.slice none 0 0) (.slice none 0 0) (.int .i64 0) (.string ⟨#[]⟩) (.slice none 0 0) (.int .i64 0) (.string ⟨#[]⟩) (.int .i64 0) (.bool false)
          have ht : Tur [w.heap.size + 1] W7 (put12 W7 (w.heap.size + 1) (.int .i64 5) (.int .i64 0) (.string t) (.slice none 0 0) (.slice none 0 0) (.int .i64 0) (.string ⟨#[]⟩) (.slice none 0 0) (.int .i64 0) (.string ⟨#[]⟩) (.int .i64 0) (.bool false)) := put12_tur _ _ (.int .i64 5) (.int .i64 0) (.string t) (.slice none 0 0) (.slice none 0 0) (.int .i64 0) (.string ⟨#[]⟩) (.slice none 0 0) (.int .i64 0) (.string ⟨#[]⟩) (.int .i64 0) (.bool false)
          have hbe : Below w.heap.size w (put12 W7 (w.heap.size + 1) (.int .i64 5) (.int .i64 0) (.string t) (.slice none 0 0) (.slice none 0 0) (.int .i64 0) (.string ⟨#[]⟩) (.slice none 0 0) (.int .i64 0) (.string ⟨#[]⟩) (.int .i64 0) (.bool false)) := (Tur.of_below (X := [w.heap.size + 1]) HS7.out.bel).trans ht (Fre.refl _ _) |>.below (B := w.heap.size) (fun k hk => by simp at hk; omega) (Nat.le_refl _)
          refine bodyPost_ret (v := .agg #[.int .i64 5, .int .i64 0, .string t, .slice none 0 0, .slice none 0 0, .int .i64 0, .string ⟨#[]⟩, .slice none 0 0, .int .i64 0, .string ⟨#[]⟩, .int .i64 0, .bool false]) (evEnd (put12 W7 (w.heap.size + 1) (.int .i64 5) (.int .i64 0) (.string t) (.slice none 0 0) (.slice none 0 0) (.int .i64 0) (.string ⟨#[]⟩) (.slice none 0 0) (.int .i64 0) (.string ⟨#[]⟩) (.int .i64 0) (.bool false)) (w.heap.size + 1) (.int .i64 5) (.int .i64 0) (.string t) (.slice none 0 0) (.slice none 0 0) (.int .i64 0) (.string ⟨#[]⟩) (.slice none 0 0) (.int .i64 0) (.string ⟨#[]⟩) (.int .i64 0) (.bool false) _ rfl HF.out) rfl ?_
          exact ⟨⟨5, 0, t, [], [], 0, ⟨#[]⟩, [], 0, ⟨⟨#[]⟩, 0, false⟩⟩, none, 0, 0, none, 0, 0, none, 0, 0, rfl, evw_row 5 0 t [] [] none 0 0 none 0 0 (nilB _) (nilB _) (by omega) (by omega), hbe⟩
      · obtain ⟨hl, _⟩ := plF_tat hp
        go_enter Tryd.func8, Tryd.ntmps8
        go_wp2_with fail
        refine HFD.out.mono ?_
        rintro e w2 ⟨rfl, hb2⟩
        rw [tfV_yes hp hl]
        obtain ⟨y, hy⟩ : ∃ y, T[lbN T t] = y := ⟨_, rfl⟩
        have hyT : y ∈ T := hy ▸ List.getElem_mem hl
        rw [hy]
        clear hy
        obtain ⟨kk, hK, hgs⟩ := HGS.out y hyT
        have hok := HTT.out.ok y hyT
        obtain ⟨ynm, yA, yn, yc, yL, yK⟩ := y
        dsimp only at hK hgs hok ⊢
        subst hK
        obtain ⟨W3, hW3⟩ : ∃ W, W = w2.alloc (.cells #[.slice yA yn yc, .int .i64 (kk : Int)] 27) := ⟨_, rfl⟩
        have hsz2 : w.heap.size + 1 < w2.heap.size := Nat.lt_of_lt_of_le hsz1 hb2.out.size
        have HS3 : Hid (Su w W3 w2.heap.size #[.int .i64 5, .int .i64 m, .string t, .slice Ab nb zb, .slice Aa na za, .int .i64 ck, .string ct, .slice A n c, .int .i64 K, .string cn, .int .i64 cq, .bool cb] (.slice yA yn yc) (.int .i64 (kk : Int))) := by
          rw [hW3]
          exact ⟨(HE1.out.below hb2.out HE1.out.lt).alloc _, (HR1.out.below hb2.out HR1.out.lt).alloc _, Has.new _ _ _, (HB1.out.trans (hb2.out.mono HB1.out.size)).alloc (HB1.out.trans (hb2.out.mono HB1.out.size)).size _, hsz2⟩
        replace hW3 := hW3.symm
        obtain ⟨g, hg⟩ : ∃ g, w2.heap.size = g := ⟨_, rfl⟩
        rw [hg] at HS3 hsz2
        clear hb2 HFD HE1 HR1 HB1 u2 hw1
        obtain ⟨W4z, hW4z⟩ : ∃ W, W = W3.alloc (.cells #[.int .i64 0, .int .i64 0, .string ⟨#[]⟩, .slice none 0 0, .slice none 0 0, .int .i64 0, .string ⟨#[]⟩, .slice none 0 0, .int .i64 0, .string ⟨#[]⟩, .int .i64 0, .bool false] 33) := ⟨_, rfl⟩
        have s4 := HS3.out.out #[.int .i64 0, .int .i64 0, .string ⟨#[]⟩, .slice none 0 0, .slice none 0 0, .int .i64 0, .string ⟨#[]⟩, .slice none 0 0, .int .i64 0, .string ⟨#[]⟩, .int .i64 0, .bool false]
        rw [← hW4z] at s4
        replace hW4z := hW4z.symm
        obtain ⟨q, hq⟩ : ∃ q, W3.heap.size = q := ⟨_, rfl⟩
        rw [hq] at s4
        have HS4z := Lib.hid s4
        have nz0 := HS4z.out.ho.cell 0
        have nz1 := HS4z.out.ho.cell 1
        have nz2 := HS4z.out.ho.cell 2
        have nz3 := HS4z.out.ho.cell 3
        have nz4 := HS4z.out.ho.cell 4
        have nz5 := HS4z.out.ho.cell 5
        have nz6 := HS4z.out.ho.cell 6
        have nz7 := HS4z.out.ho.cell 7
        have nz8 := HS4z.out.ho.cell 8
        have nz9 := HS4z.out.ho.cell 9
        have nz10 := HS4z.out.ho.cell 10
        have nz11 := HS4z.out.ho.cell 11
        have nzf0 := HS4z.out.ho.free 0
        have nzf1 := HS4z.out.ho.free 1
        have nzf2 := HS4z.out.ho.free 2
        have nzf3 := HS4z.out.ho.free 3
        have nzf4 := HS4z.out.ho.free 4
        have nzf5 := HS4z.out.ho.free 5
        have nzf6 := HS4z.out.ho.free 6
        have nzf7 := HS4z.out.ho.free 7
        have nzf8 := HS4z.out.ho.free 8
        have nzf9 := HS4z.out.ho.free 9
        have nzf10 := HS4z.out.ho.free 10
        have nzf11 := HS4z.out.ho.free 11
        simp only [List.getElem?_toArray, List.getElem?_cons_zero, List.getElem?_cons_succ] at nz0 nz1 nz2 nz3 nz4 nz5 nz6 nz7 nz8 nz9 nz10 nz11
        obtain ⟨W4, hW4⟩ : ∃ W, put12 W4z q (.int .i64 5) (.int .i64 0) (.string ⟨#[]⟩) (.slice none 0 0) (.slice none 0 0) (.int .i64 0) (.string ⟨#[]⟩) (.slice none 0 0) (.int .i64 0) (.string ⟨#[]⟩) (.int .i64 0) (.bool false) = W := ⟨_, rfl⟩
        have s4b := s4.put12 (.int .i64 5) (.int .i64 0) (.string ⟨#[]⟩) (.slice none 0 0) (.slice none 0 0) (.int .i64 0) (.string ⟨#[]⟩) (.slice none 0 0) (.int .i64 0) (.string ⟨#[]⟩) (.int .i64 0) (.bool false)
        rw [hW4] at s4b
        have HS4 : Hid (Sv w W4 g q _ _ _ #[.int .i64 5, .int .i64 0, .string ⟨#[]⟩, .slice none 0 0, .slice none 0 0, .int .i64 0, .string ⟨#[]⟩, .slice none 0 0, .int .i64 0, .string ⟨#[]⟩, .int .i64 0, .bool false]) := s4b
        have hW4' : ((((((((((((W4z.setCell ⟨q, 0, none⟩ (.int .i64 5)).setCell ⟨q, 1, none⟩ (.int .i64 0)).setCell ⟨q, 2, none⟩ (.string ⟨#[]⟩)).setCell ⟨q, 3, none⟩ (.slice none 0 0)).setCell ⟨q, 4, none⟩ (.slice none 0 0)).setCell ⟨q, 5, none⟩ (.int .i64 0)).setCell ⟨q, 6, none⟩ (.string ⟨#[]⟩)).setCell ⟨q, 7, none⟩ (.slice none 0 0)).setCell ⟨q, 8, none⟩ (.int .i64 0)).setCell ⟨q, 9, none⟩ (.string ⟨#[]⟩)).setCell ⟨q, 10, none⟩ (.int .i64 0)).setCell ⟨q, 11, none⟩ (.bool false)) = W4 := hW4
        clear s4 s4b hW4
        have hlo := HS4.out.lo
        have e0 := HS3.out.he.cell 0
        have ef0 := HS3.out.he.free 0
        simp only [List.getElem?_toArray, List.getElem?_cons_zero, List.getElem?_cons_succ] at e0
        have a0 := HS4.out.he.cell 0
        have a1 := HS4.out.he.cell 1
        have a2 := HS4.out.he.cell 2
        have af0 := HS4.out.he.free 0
        have af1 := HS4.out.he.free 1
        have af2 := HS4.out.he.free 2
        simp only [List.getElem?_toArray, List.getElem?_cons_zero, List.getElem?_cons_succ] at a0 a1 a2
        have b2 := HS4.out.ho.cell 2
        have bf2 := HS4.out.ho.free 2
        simp only [List.getElem?_toArray, List.getElem?_cons_zero, List.getElem?_cons_succ] at b2
        obtain ⟨W5, hW5⟩ : ∃ W, W = (W4.setCell ⟨q, 2, none⟩ (.string t)) := ⟨_, rfl⟩
        have HS5 : Hid (Sv w W5 g q #[.int .i64 5, .int .i64 m, .string t, .slice Ab nb zb, .slice Aa na za, .int .i64 ck, .string ct, .slice A n c, .int .i64 K, .string cn, .int .i64 cq, .bool cb] (.slice yA yn yc) (.int .i64 (kk : Int)) #[.int .i64 5, .int .i64 0, .string t, .slice none 0 0, .slice none 0 0, .int .i64 0, .string ⟨#[]⟩, .slice none 0 0, .int .i64 0, .string ⟨#[]⟩, .int .i64 0, .bool false]) := by rw [hW5]; exact (HS4.out.put 2 (.string t))
        replace hW5 := hW5.symm
        have c2 := HS5.out.he.cell 2
        have c3 := HS5.out.he.cell 3
        have c4 := HS5.out.he.cell 4
        have cf2 := HS5.out.he.free 2
        have cf3 := HS5.out.he.free 3
        have cf4 := HS5.out.he.free 4
        simp only [List.getElem?_toArray, List.getElem?_cons_zero, List.getElem?_cons_succ] at c2 c3 c4
        have s0 := HS5.out.hs.cell 0
        have s1 := HS5.out.hs.cell 1
        have sf0 := HS5.out.hs.free 0
        have sf1 := HS5.out.hs.free 1
        simp only [List.getElem?_toArray, List.getElem?_cons_zero, List.getElem?_cons_succ] at s0 s1
        have hbw5 := HS5.out.bel
        have HRW := Lib.hid (row_any yA yL yn yc (kk : Int) Ab B nb zb W5.drew hok.len hok.few (hok.row.below (show Below w.heap.size w W5.drew from hbw5.drew)) (fun y hy => (goodS_fit yL kk hgs y hy).2.2.2) HW.out.b.1 HW.out.b.2.1 HFF.out.2.2.1 (HW.out.b.2.2.1.below (show Below w.heap.size w W5.drew from hbw5.drew)) HFF.out.1)
        have hq5 : q < W5.heap.size := HS5.out.ho.lt
        go_wp2_with fail
        refine wp_region_held_drew (S := (fun X : World => X.cell? ⟨w.heap.size, 3, none⟩ = some (.slice Ab nb zb) ∧ X.cell? ⟨g, 0, none⟩ = some (.slice yA yn yc) ∧ X.cell? ⟨g, 1, none⟩ = some (.int .i64 (kk : Int)))) (by kernel_rfl) ⟨c3, s0, s1⟩ (fun _ => ?_)
        (refine wpAnyH_take (i := 0) (v := ?_) rfl (by kernel_rfl) (by kernel_rfl) (by kernel_rfl) (fun _ _ _ h => h) (Or.inl ⟨by rfl, ?_⟩) (by assumption) ?_; rotate_left; (intro w hSw; (try dsimp only at hSw); go_simp; try with_reducible rfl); ((try simp only [List.getElem_toArray]); (try simp only [List.getElem_cons_succ]); (try simp only [List.getElem_cons_zero]); (try simp only [Act.put]); (try simp only [List.setIfInBounds_toArray]); (try simp only [List.set_cons_succ]); (try simp only [List.set_cons_zero])))
        (refine wpAnyH_take (i := 1) (v := ?_) rfl (by kernel_rfl) (by kernel_rfl) (by kernel_rfl) (fun _ _ _ h => h) (Or.inl ⟨by rfl, ?_⟩) (by assumption) ?_; rotate_left; (intro w hSw; (try dsimp only at hSw); go_simp; try with_reducible rfl); ((try simp only [List.getElem_toArray]); (try simp only [List.getElem_cons_succ]); (try simp only [List.getElem_cons_zero]); (try simp only [Act.put]); (try simp only [List.setIfInBounds_toArray]); (try simp only [List.set_cons_succ]); (try simp only [List.set_cons_zero])))
        (refine wpAnyH_take (i := 2) (v := ?_) rfl (by kernel_rfl) (by kernel_rfl) (by kernel_rfl) (fun _ _ _ h => h) (Or.inl ⟨by rfl, ?_⟩) (by assumption) ?_; rotate_left; (intro w hSw; (try dsimp only at hSw); go_simp; try with_reducible rfl); ((try simp only [List.getElem_toArray]); (try simp only [List.getElem_cons_succ]); (try simp only [List.getElem_cons_zero]); (try simp only [Act.put]); (try simp only [List.setIfInBounds_toArray]); (try simp only [List.set_cons_succ]); (try simp only [List.set_cons_zero])))
        (refine wpAnyH_take (i := 4) (v := ?_) rfl (by kernel_rfl) (by kernel_rfl) (by kernel_rfl) (fun _ _ _ h => h) (Or.inl ⟨by rfl, ?_⟩) (by assumption) ?_; rotate_left; (intro w hSw; (try dsimp only at hSw); go_simp; try with_reducible rfl); ((try simp only [List.getElem_toArray]); (try simp only [List.getElem_cons_succ]); (try simp only [List.getElem_cons_zero]); (try simp only [Act.put]); (try simp only [List.setIfInBounds_toArray]); (try simp only [List.set_cons_succ]); (try simp only [List.set_cons_zero])))
        (refine wpAnyH_take (i := 5) (v := ?_) rfl (by kernel_rfl) (by kernel_rfl) (by kernel_rfl) (fun _ _ _ h => h) (Or.inl ⟨by rfl, ?_⟩) (by assumption) ?_; rotate_left; (intro w hSw; (try dsimp only at hSw); go_simp; try with_reducible rfl); ((try simp only [List.getElem_toArray]); (try simp only [List.getElem_cons_succ]); (try simp only [List.getElem_cons_zero]); (try simp only [Act.put]); (try simp only [List.setIfInBounds_toArray]); (try simp only [List.set_cons_succ]); (try simp only [List.set_cons_zero])))
        refine wpAnyH_ready (rs := [3]) (by kernel_rfl) (by simp) ?_
        refine AllReadyH.cons rfl (fun K2 hK2 => ?_) AllReadyH.nil
        go_simp
        refine (HRW.out).mono ?_
        rintro e w6 ⟨v6, rfl, ho6, hb6⟩
        obtain ⟨A6, n6, c6, rfl, hn6, hc6, hm6, hr6, hg6, hA6⟩ := ownV_blk ho6.out
        have HS6 := Lib.hid ((show Sv w W5.drew g q _ _ _ _ from ⟨HS5.out.he, HS5.out.hr, HS5.out.hs, HS5.out.ho, HS5.out.bel.drew, HS5.out.lo⟩ : Sv w W5.drew g q #[.int .i64 5, .int .i64 m, .string t, .slice Ab nb zb, .slice Aa na za, .int .i64 ck, .string ct, .slice A n c, .int .i64 K, .string cn, .int .i64 cq, .bool cb] (.slice yA yn yc) (.int .i64 (kk : Int)) #[.int .i64 5, .int .i64 0, .string t, .slice none 0 0, .slice none 0 0, .int .i64 0, .string ⟨#[]⟩, .slice none 0 0, .int .i64 0, .string ⟨#[]⟩, .int .i64 0, .bool false]).below hb6.out)
        go_wp2_with fail
        refine hK2.out _ _ (by (try dsimp only); exact ⟨HS6.out.he.cell 3, HS6.out.hs.cell 0, HS6.out.hs.cell 1⟩) (fun _ => ?_)
        clear hK2 K2
        (try simp only [List.getElem_toArray]); (try simp only [List.getElem_cons_succ]); (try simp only [List.getElem_cons_zero]); (try simp only [Act.put]); (try simp only [List.setIfInBounds_toArray]); (try simp only [List.set_cons_succ]); (try simp only [List.set_cons_zero])
        have hkl : kk ≤ n6 := by have h1 := hgs.keys.2.1; have h2 := hn6.out; rw [rowF_len] at h2; omega
        have hk1 : 1 ≤ kk := hgs.keys.1
        unfold maxLen at hm6
        have hkc : (kk : Int) ≤ (c6 : Int) := by omega
        have hk0 : (0 : Int) ≤ (kk : Int) := by omega
        rcases hA6.out with rfl | ⟨bb6, oo6, rfl⟩
        · exact absurd (hr6.out (by intro e; have := hn6.out; rw [e] at this; simp at this; omega)) (fun ⟨_, _, e, _⟩ => by cases e)
        · refine wpAnyH_ready (rs := [6]) (by kernel_rfl) (by simp) ?_
          refine AllReadyH.cons rfl (fun K2 hK2 => ?_) (AllReadyH.nil)
          go_simp
          refine hK2.out _ _ (by (try dsimp only); exact ⟨HS6.out.he.cell 3, HS6.out.hs.cell 0, HS6.out.hs.cell 1⟩) (fun _ => ?_)
          clear hK2 K2
          (try simp only [List.getElem_toArray]); (try simp only [List.getElem_cons_succ]); (try simp only [List.getElem_cons_zero]); (try simp only [Act.put]); (try simp only [List.setIfInBounds_toArray]); (try simp only [List.set_cons_succ]); (try simp only [List.set_cons_zero])
          (refine wpAnyH_take (i := 7) (v := ?_) rfl (by kernel_rfl) (by kernel_rfl) (by kernel_rfl) (fun _ _ _ h => h) (Or.inl ⟨by rfl, ?_⟩) (by assumption) ?_; rotate_left; (intro w hSw; (try dsimp only at hSw); go_simp; try with_reducible rfl); ((try simp only [List.getElem_toArray]); (try simp only [List.getElem_cons_succ]); (try simp only [List.getElem_cons_zero]); (try simp only [Act.put]); (try simp only [List.setIfInBounds_toArray]); (try simp only [List.set_cons_succ]); (try simp only [List.set_cons_zero])))
          have b3 := HS6.out.ho.cell 3
          have bf3 := HS6.out.ho.free 3
          simp only [List.getElem?_toArray, List.getElem?_cons_zero, List.getElem?_cons_succ] at b3
          obtain ⟨W7, hW7⟩ : ∃ W, W = (w6.setCell ⟨q, 3, none⟩ (.slice (some ⟨bb6, oo6, none⟩) kk c6)) := ⟨_, rfl⟩
          have HS7 : Hid (Sv w W7 g q #[.int .i64 5, .int .i64 m, .string t, .slice Ab nb zb, .slice Aa na za, .int .i64 ck, .string ct, .slice A n c, .int .i64 K, .string cn, .int .i64 cq, .bool cb] (.slice yA yn yc) (.int .i64 (kk : Int)) #[.int .i64 5, .int .i64 0, .string t, .slice (some ⟨bb6, oo6, none⟩) kk c6, .slice none 0 0, .int .i64 0, .string ⟨#[]⟩, .slice none 0 0, .int .i64 0, .string ⟨#[]⟩, .int .i64 0, .bool false]) := by rw [hW7]; exact (HS6.out.put 3 (.slice (some ⟨bb6, oo6, none⟩) kk c6))
          replace hW7 := hW7.symm
          have ht7 : Tur [q] w6 W7 := by rw [← hW7]; exact Tur.setCell w6 (p := ⟨q, 3, none⟩) (by simp) _
          refine wpAnyH_ready (rs := [8]) (by kernel_rfl) (by simp) ?_
          refine AllReadyH.cons rfl (fun K2 hK2 => ?_) (AllReadyH.nil)
          go_simp
          refine hK2.out _ _ (by (try dsimp only); exact ⟨HS7.out.he.cell 3, HS7.out.hs.cell 0, HS7.out.hs.cell 1⟩) (fun _ => ?_)
          clear hK2 K2
          (try simp only [List.getElem_toArray]); (try simp only [List.getElem_cons_succ]); (try simp only [List.getElem_cons_zero]); (try simp only [Act.put]); (try simp only [List.setIfInBounds_toArray]); (try simp only [List.set_cons_succ]); (try simp only [List.set_cons_zero])
          refine wpAnyH_done (by kernel_rfl) ?_ _
          clear HRW ho6 hb6 hbw5 c2 cf2 c3 cf3 c4 cf4 s0 sf0 s1 sf1 b2 bf2 b3 bf3 a0 af0 a1 af1 a2 af2 e0 ef0 nz0 nzf0 nz1 nzf1 nz2 nzf2 nz3 nzf3 nz4 nzf4 nz5 nzf5 nz6 nzf6 nz7 nzf7 nz8 nzf8 nz9 nzf9 nz10 nzf10 nz11 nzf11
          have u0 := HS7.out.ho.cell 0
          have u1 := HS7.out.ho.cell 1
          have u2 := HS7.out.ho.cell 2
          have u3 := HS7.out.ho.cell 3
          have u4 := HS7.out.ho.cell 4
          have u5 := HS7.out.ho.cell 5
          have u6 := HS7.out.ho.cell 6
          have u7 := HS7.out.ho.cell 7
          have u8 := HS7.out.ho.cell 8
          have u9 := HS7.out.ho.cell 9
          have u10 := HS7.out.ho.cell 10
          have u11 := HS7.out.ho.cell 11
          have uf0 := HS7.out.ho.free 0
          have uf1 := HS7.out.ho.free 1
          have uf2 := HS7.out.ho.free 2
          have uf3 := HS7.out.ho.free 3
          have uf4 := HS7.out.ho.free 4
          have uf5 := HS7.out.ho.free 5
          have uf6 := HS7.out.ho.free 6
          have uf7 := HS7.out.ho.free 7
          have uf8 := HS7.out.ho.free 8
          have uf9 := HS7.out.ho.free 9
          have uf10 := HS7.out.ho.free 10
          have uf11 := HS7.out.ho.free 11
          simp only [List.getElem?_toArray, List.getElem?_cons_zero, List.getElem?_cons_succ] at u0 u1 u2 u3 u4 u5 u6 u7 u8 u9 u10 u11
          have v0 := HS7.out.hr.cell 0
          have v1 := HS7.out.hr.cell 1
          have v2 := HS7.out.hr.cell 2
          have v3 := HS7.out.hr.cell 3
          have v4 := HS7.out.hr.cell 4
          have v5 := HS7.out.hr.cell 5
          have v6 := HS7.out.hr.cell 6
          have v7 := HS7.out.hr.cell 7
          have v8 := HS7.out.hr.cell 8
          have v9 := HS7.out.hr.cell 9
          have v10 := HS7.out.hr.cell 10
          have v11 := HS7.out.hr.cell 11
          have vf0 := HS7.out.hr.free 0
          have vf1 := HS7.out.hr.free 1
          have vf2 := HS7.out.hr.free 2
          have vf3 := HS7.out.hr.free 3
          have vf4 := HS7.out.hr.free 4
          have vf5 := HS7.out.hr.free 5
          have vf6 := HS7.out.hr.free 6
          have vf7 := HS7.out.hr.free 7
          have vf8 := HS7.out.hr.free 8
          have vf9 := HS7.out.hr.free 9
          have vf10 := HS7.out.hr.free 10
          have vf11 := HS7.out.hr.free 11
          simp only [List.getElem?_toArray, List.getElem?_cons_zero, List.getElem?_cons_succ] at v0 v1 v2 v3 v4 v5 v6 v7 v8 v9 v10 v11
          go_wp2_with fail
          have HF : Hid (Has (put12 W7 (w.heap.size + 1) (.int .i64 5) (.int .i64 0) (.string t) (.slice (some ⟨bb6, oo6, none⟩) kk c6) (.slice none 0 0) (.int .i64 0) (.string ⟨#[]⟩) (.slice none 0 0) (.int .i64 0) (.string ⟨#[]⟩) (.int .i64 0) (.bool false)) (w.heap.size + 1) 33 #[.int .i64 5, .int .i64 0, .string t, .slice (some ⟨bb6, oo6, none⟩) kk c6, .slice none 0 0, .int .i64 0, .string ⟨#[]⟩, .slice none 0 0, .int .i64 0, .string ⟨#[]⟩, .int .i64 0, .bool false]) := put12_has HS7.out.hr (.int .i64 5) (.int .i64 0) (.string t) (.slice (some ⟨bb6, oo6, none⟩) kk c6) (.slice none 0 0) (.int .i64 0) (.string ⟨#[]⟩) (.slice none 0 0) (.int .i64 0) (.string ⟨#[]⟩) (.int .i64 0) (.bool false)
          have ht : Tur [w.heap.size + 1] W7 (put12 W7 (w.heap.size + 1) (.int .i64 5) (.int .i64 0) (.string t) (.slice (some ⟨bb6, oo6, none⟩) kk c6) (.slice none 0 0) (.int .i64 0) (.string ⟨#[]⟩) (.slice none 0 0) (.int .i64 0) (.string ⟨#[]⟩) (.int .i64 0) (.bool false)) := put12_tur _ _ (.int .i64 5) (.int .i64 0) (.string t) (.slice (some ⟨bb6, oo6, none⟩) kk c6) (.slice none 0 0) (.int .i64 0) (.string ⟨#[]⟩) (.slice none 0 0) (.int .i64 0) (.string ⟨#[]⟩) (.int .i64 0) (.bool false)
          have hbe : Below w.heap.size w (put12 W7 (w.heap.size + 1) (.int .i64 5) (.int .i64 0) (.string t) (.slice (some ⟨bb6, oo6, none⟩) kk c6) (.slice none 0 0) (.int .i64 0) (.string ⟨#[]⟩) (.slice none 0 0) (.int .i64 0) (.string ⟨#[]⟩) (.int .i64 0) (.bool false)) := (Tur.of_below (X := [w.heap.size + 1]) HS7.out.bel).trans ht (Fre.refl _ _) |>.below (B := w.heap.size) (fun k hk => by simp at hk; omega) (Nat.le_refl _)
          refine bodyPost_ret (v := .agg #[.int .i64 5, .int .i64 0, .string t, .slice (some ⟨bb6, oo6, none⟩) kk c6, .slice none 0 0, .int .i64 0, .string ⟨#[]⟩, .slice none 0 0, .int .i64 0, .string ⟨#[]⟩, .int .i64 0, .bool false]) (evEnd (put12 W7 (w.heap.size + 1) (.int .i64 5) (.int .i64 0) (.string t) (.slice (some ⟨bb6, oo6, none⟩) kk c6) (.slice none 0 0) (.int .i64 0) (.string ⟨#[]⟩) (.slice none 0 0) (.int .i64 0) (.string ⟨#[]⟩) (.int .i64 0) (.bool false)) (w.heap.size + 1) (.int .i64 5) (.int .i64 0) (.string t) (.slice (some ⟨bb6, oo6, none⟩) kk c6) (.slice none 0 0) (.int .i64 0) (.string ⟨#[]⟩) (.slice none 0 0) (.int .i64 0) (.string ⟨#[]⟩) (.int .i64 0) (.bool false) _ rfl HF.out) rfl ?_
          exact ⟨⟨5, 0, t, (rowF yL B).take kk, [], 0, ⟨#[]⟩, [], 0, ⟨⟨#[]⟩, 0, false⟩⟩, some ⟨bb6, oo6, none⟩, kk, c6, none, 0, 0, none, 0, 0, rfl, evw_row 5 0 t ((rowF yL B).take kk) [] (some ⟨bb6, oo6, none⟩) kk c6 none 0 0 ⟨by rw [List.length_take, hn6.out]; omega, by omega, ((hr6.out.takeK kk |>.tur ht7 (fun a e hh => by have := (hg6.out a e).1; simp at hh; have h5 : W5.drew.heap.size = W5.heap.size := rfl; omega)).tur ht (fun a e hh => by have := (hg6.out a e).1; simp at hh; have h5 : W5.drew.heap.size = W5.heap.size := rfl; omega)), fun y hy => (rowF_fit yL B (fun c hc => ⟨(goodS_fit yL kk hgs c hc).2.1, (goodS_fit yL kk hgs c hc).2.2.1⟩) HFF.out.1 y (List.mem_of_mem_take hy)).1⟩ (nilB _) (by omega) (by omega), hbe⟩
    · cases hp : plF T t
      · go_enter Tryd.func8, Tryd.ntmps8
        go_wp2_with fail
        refine HFD.out.mono ?_
        rintro e w2 ⟨rfl, hb2⟩
        rw [tfV_no HTT.out.sort hp]
        by_cases hnt : 0 < nt
        · have g0 : (0 : Int) < (nt : Int) := by omega
          obtain ⟨W3z, hW3z⟩ : ∃ W, W = w2.alloc (.cells #[.slice none 0 0, .int .i64 0] 27) := ⟨_, rfl⟩
          have hsz2 : w.heap.size + 1 < w2.heap.size := Nat.lt_of_lt_of_le hsz1 hb2.out.size
          have HS3z : Hid (Su w W3z w2.heap.size #[.int .i64 6, .int .i64 m, .string t, .slice Ab nb zb, .slice Aa na za, .int .i64 ck, .string ct, .slice A n c, .int .i64 K, .string cn, .int .i64 cq, .bool cb] (.slice none 0 0) (.int .i64 0)) := by
            rw [hW3z]
            exact ⟨(HE1.out.below hb2.out HE1.out.lt).alloc _, (HR1.out.below hb2.out HR1.out.lt).alloc _, Has.new _ _ _, (HB1.out.trans (hb2.out.mono HB1.out.size)).alloc (HB1.out.trans (hb2.out.mono HB1.out.size)).size _, hsz2⟩
          replace hW3z := hW3z.symm
          obtain ⟨g, hg⟩ : ∃ g, w2.heap.size = g := ⟨_, rfl⟩
          rw [hg] at HS3z hsz2
          clear hb2 HFD HE1 HR1 HB1 u2 hw1
          have zz0 := HS3z.out.hs.cell 0
          have zz1 := HS3z.out.hs.cell 1
          have zzf0 := HS3z.out.hs.free 0
          have zzf1 := HS3z.out.hs.free 1
          simp only [List.getElem?_toArray, List.getElem?_cons_zero, List.getElem?_cons_succ] at zz0 zz1
          obtain ⟨W3, hW3⟩ : ∃ W, W = (W3z.setCell ⟨g, 0, none⟩ (.slice none 0 0)).setCell ⟨g, 1, none⟩ (.int .i64 0) := ⟨_, rfl⟩
          have HS3 : Hid (Su w W3 g #[.int .i64 6, .int .i64 m, .string t, .slice Ab nb zb, .slice Aa na za, .int .i64 ck, .string ct, .slice A n c, .int .i64 K, .string cn, .int .i64 cq, .bool cb] (.slice none 0 0) (.int .i64 0)) := by rw [hW3]; exact HS3z.out.puts _ _
          replace hW3 := hW3.symm
          have x_e0 := HS3.out.he.cell 0
          have x_ef0 := HS3.out.he.free 0
          simp only [List.getElem?_toArray, List.getElem?_cons_zero, List.getElem?_cons_succ] at x_e0
          obtain ⟨W4z, hW4z⟩ : ∃ W, W = W3.alloc (.cells #[.int .i64 0, .int .i64 0, .string ⟨#[]⟩, .slice none 0 0, .slice none 0 0, .int .i64 0, .string ⟨#[]⟩, .slice none 0 0, .int .i64 0, .string ⟨#[]⟩, .int .i64 0, .bool false] 33) := ⟨_, rfl⟩
          have s4 := HS3.out.out #[.int .i64 0, .int .i64 0, .string ⟨#[]⟩, .slice none 0 0, .slice none 0 0, .int .i64 0, .string ⟨#[]⟩, .slice none 0 0, .int .i64 0, .string ⟨#[]⟩, .int .i64 0, .bool false]
          rw [← hW4z] at s4
          replace hW4z := hW4z.symm
          obtain ⟨q, hq⟩ : ∃ q, W3.heap.size = q := ⟨_, rfl⟩
          rw [hq] at s4
          have HS4z := Lib.hid s4
          have nz0 := HS4z.out.ho.cell 0
          have nz1 := HS4z.out.ho.cell 1
          have nz2 := HS4z.out.ho.cell 2
          have nz3 := HS4z.out.ho.cell 3
          have nz4 := HS4z.out.ho.cell 4
          have nz5 := HS4z.out.ho.cell 5
          have nz6 := HS4z.out.ho.cell 6
          have nz7 := HS4z.out.ho.cell 7
          have nz8 := HS4z.out.ho.cell 8
          have nz9 := HS4z.out.ho.cell 9
          have nz10 := HS4z.out.ho.cell 10
          have nz11 := HS4z.out.ho.cell 11
          have nzf0 := HS4z.out.ho.free 0
          have nzf1 := HS4z.out.ho.free 1
          have nzf2 := HS4z.out.ho.free 2
          have nzf3 := HS4z.out.ho.free 3
          have nzf4 := HS4z.out.ho.free 4
          have nzf5 := HS4z.out.ho.free 5
          have nzf6 := HS4z.out.ho.free 6
          have nzf7 := HS4z.out.ho.free 7
          have nzf8 := HS4z.out.ho.free 8
          have nzf9 := HS4z.out.ho.free 9
          have nzf10 := HS4z.out.ho.free 10
          have nzf11 := HS4z.out.ho.free 11
          simp only [List.getElem?_toArray, List.getElem?_cons_zero, List.getElem?_cons_succ] at nz0 nz1 nz2 nz3 nz4 nz5 nz6 nz7 nz8 nz9 nz10 nz11
          obtain ⟨W4, hW4⟩ : ∃ W, put12 W4z q (.int .i64 6) (.int .i64 0) (.string ⟨#[]⟩) (.slice none 0 0) (.slice none 0 0) (.int .i64 0) (.string ⟨#[]⟩) (.slice none 0 0) (.int .i64 0) (.string ⟨#[]⟩) (.int .i64 0) (.bool false) = W := ⟨_, rfl⟩
          have s4b := s4.put12 (.int .i64 6) (.int .i64 0) (.string ⟨#[]⟩) (.slice none 0 0) (.slice none 0 0) (.int .i64 0) (.string ⟨#[]⟩) (.slice none 0 0) (.int .i64 0) (.string ⟨#[]⟩) (.int .i64 0) (.bool false)
          rw [hW4] at s4b
          have HS4 : Hid (Sv w W4 g q _ _ _ #[.int .i64 6, .int .i64 0, .string ⟨#[]⟩, .slice none 0 0, .slice none 0 0, .int .i64 0, .string ⟨#[]⟩, .slice none 0 0, .int .i64 0, .string ⟨#[]⟩, .int .i64 0, .bool false]) := s4b
          have hW4' : ((((((((((((W4z.setCell ⟨q, 0, none⟩ (.int .i64 6)).setCell ⟨q, 1, none⟩ (.int .i64 0)).setCell ⟨q, 2, none⟩ (.string ⟨#[]⟩)).setCell ⟨q, 3, none⟩ (.slice none 0 0)).setCell ⟨q, 4, none⟩ (.slice none 0 0)).setCell ⟨q, 5, none⟩ (.int .i64 0)).setCell ⟨q, 6, none⟩ (.string ⟨#[]⟩)).setCell ⟨q, 7, none⟩ (.slice none 0 0)).setCell ⟨q, 8, none⟩ (.int .i64 0)).setCell ⟨q, 9, none⟩ (.string ⟨#[]⟩)).setCell ⟨q, 10, none⟩ (.int .i64 0)).setCell ⟨q, 11, none⟩ (.bool false)) = W4 := hW4
          clear s4 s4b hW4
          have hlo := HS4.out.lo
          have e0 := HS3.out.he.cell 0
          have ef0 := HS3.out.he.free 0
          simp only [List.getElem?_toArray, List.getElem?_cons_zero, List.getElem?_cons_succ] at e0
          have a0 := HS4.out.he.cell 0
          have a1 := HS4.out.he.cell 1
          have a2 := HS4.out.he.cell 2
          have af0 := HS4.out.he.free 0
          have af1 := HS4.out.he.free 1
          have af2 := HS4.out.he.free 2
          simp only [List.getElem?_toArray, List.getElem?_cons_zero, List.getElem?_cons_succ] at a0 a1 a2
          have d5 := HS4.out.he.cell 5
          have d6 := HS4.out.he.cell 6
          have d7 := HS4.out.he.cell 7
          have d8 := HS4.out.he.cell 8
          have d9 := HS4.out.he.cell 9
          have d10 := HS4.out.he.cell 10
          have d11 := HS4.out.he.cell 11
          have df5 := HS4.out.he.free 5
          have df6 := HS4.out.he.free 6
          have df7 := HS4.out.he.free 7
          have df8 := HS4.out.he.free 8
          have df9 := HS4.out.he.free 9
          have df10 := HS4.out.he.free 10
          have df11 := HS4.out.he.free 11
          simp only [List.getElem?_toArray, List.getElem?_cons_zero, List.getElem?_cons_succ] at d5 d6 d7 d8 d9 d10 d11
          have b5 := HS4.out.ho.cell 5
          have b6 := HS4.out.ho.cell 6
          have b7 := HS4.out.ho.cell 7
          have b8 := HS4.out.ho.cell 8
          have b9 := HS4.out.ho.cell 9
          have b10 := HS4.out.ho.cell 10
          have b11 := HS4.out.ho.cell 11
          have bf5 := HS4.out.ho.free 5
          have bf6 := HS4.out.ho.free 6
          have bf7 := HS4.out.ho.free 7
          have bf8 := HS4.out.ho.free 8
          have bf9 := HS4.out.ho.free 9
          have bf10 := HS4.out.ho.free 10
          have bf11 := HS4.out.ho.free 11
          simp only [List.getElem?_toArray, List.getElem?_cons_zero, List.getElem?_cons_succ] at b5 b6 b7 b8 b9 b10 b11
          obtain ⟨W7, hW7⟩ : ∃ W, W = (((((((W4.setCell ⟨q, 5, none⟩ (.int .i64 ck)).setCell ⟨q, 6, none⟩ (.string ct)).setCell ⟨q, 7, none⟩ (.slice A n c)).setCell ⟨q, 8, none⟩ (.int .i64 K)).setCell ⟨q, 9, none⟩ (.string cn)).setCell ⟨q, 10, none⟩ (.int .i64 cq)).setCell ⟨q, 11, none⟩ (.bool cb)) := ⟨_, rfl⟩
          have HS7 : Hid (Sv w W7 g q #[.int .i64 6, .int .i64 m, .string t, .slice Ab nb zb, .slice Aa na za, .int .i64 ck, .string ct, .slice A n c, .int .i64 K, .string cn, .int .i64 cq, .bool cb] (.slice none 0 0) (.int .i64 0) #[.int .i64 6, .int .i64 0, .string ⟨#[]⟩, .slice none 0 0, .slice none 0 0, .int .i64 ck, .string ct, .slice A n c, .int .i64 K, .string cn, .int .i64 cq, .bool cb]) := by rw [hW7]; exact (((((((HS4.out.put 5 (.int .i64 ck)).put 6 (.string ct)).put 7 (.slice A n c)).put 8 (.int .i64 K)).put 9 (.string cn)).put 10 (.int .i64 cq)).put 11 (.bool cb))
          replace hW7 := hW7.symm
          have u0 := HS7.out.ho.cell 0
          have u1 := HS7.out.ho.cell 1
          have u2 := HS7.out.ho.cell 2
          have u3 := HS7.out.ho.cell 3
          have u4 := HS7.out.ho.cell 4
          have u5 := HS7.out.ho.cell 5
          have u6 := HS7.out.ho.cell 6
          have u7 := HS7.out.ho.cell 7
          have u8 := HS7.out.ho.cell 8
          have u9 := HS7.out.ho.cell 9
          have u10 := HS7.out.ho.cell 10
          have u11 := HS7.out.ho.cell 11
          have uf0 := HS7.out.ho.free 0
          have uf1 := HS7.out.ho.free 1
          have uf2 := HS7.out.ho.free 2
          have uf3 := HS7.out.ho.free 3
          have uf4 := HS7.out.ho.free 4
          have uf5 := HS7.out.ho.free 5
          have uf6 := HS7.out.ho.free 6
          have uf7 := HS7.out.ho.free 7
          have uf8 := HS7.out.ho.free 8
          have uf9 := HS7.out.ho.free 9
          have uf10 := HS7.out.ho.free 10
          have uf11 := HS7.out.ho.free 11
          simp only [List.getElem?_toArray, List.getElem?_cons_zero, List.getElem?_cons_succ] at u0 u1 u2 u3 u4 u5 u6 u7 u8 u9 u10 u11
          have v0 := HS7.out.hr.cell 0
          have v1 := HS7.out.hr.cell 1
          have v2 := HS7.out.hr.cell 2
          have v3 := HS7.out.hr.cell 3
          have v4 := HS7.out.hr.cell 4
          have v5 := HS7.out.hr.cell 5
          have v6 := HS7.out.hr.cell 6
          have v7 := HS7.out.hr.cell 7
          have v8 := HS7.out.hr.cell 8
          have v9 := HS7.out.hr.cell 9
          have v10 := HS7.out.hr.cell 10
          have v11 := HS7.out.hr.cell 11
          have vf0 := HS7.out.hr.free 0
          have vf1 := HS7.out.hr.free 1
          have vf2 := HS7.out.hr.free 2
          have vf3 := HS7.out.hr.free 3
          have vf4 := HS7.out.hr.free 4
          have vf5 := HS7.out.hr.free 5
          have vf6 := HS7.out.hr.free 6
          have vf7 := HS7.out.hr.free 7
          have vf8 := HS7.out.hr.free 8
          have vf9 := HS7.out.hr.free 9
          have vf10 := HS7.out.hr.free 10
          have vf11 := HS7.out.hr.free 11
          simp only [List.getElem?_toArray, List.getElem?_cons_zero, List.getElem?_cons_succ] at v0 v1 v2 v3 v4 v5 v6 v7 v8 v9 v10 v11
          go_wp2_with fail
          have HF : Hid (Has (put12 W7 (w.heap.size + 1) (.int .i64 6) (.int .i64 0) (.string ⟨#[]⟩) (.slice none 0 0) (.slice none 0 0) (.int .i64 ck) (.string ct) (.slice A n c) (.int .i64 K) (.string cn) (.int .i64 cq) (.bool cb)) (w.heap.size + 1) 33 #[.int .i64 6, .int .i64 0, .string ⟨#[]⟩, .slice none 0 0, .slice none 0 0, .int .i64 ck, .string ct, .slice A n c, .int .i64 K, .string cn, .int .i64 cq, .bool cb]) := put12_has HS7.out.hr (.int .i64 6) (.int .i64 0) (.string ⟨#[]⟩) (.slice none 0 0) (.slice none 0 0) (.int .i64 ck) (.string ct) (.slice A n c) (.int .i64 K) (.string cn) (.int .i64 cq) (.bool cb)
          have ht : Tur [w.heap.size + 1] W7 (put12 W7 (w.heap.size + 1) (.int .i64 6) (.int .i64 0) (.string ⟨#[]⟩) (.slice none 0 0) (.slice none 0 0) (.int .i64 ck) (.string ct) (.slice A n c) (.int .i64 K) (.string cn) (.int .i64 cq) (.bool cb)) := put12_tur _ _ (.int .i64 6) (.int .i64 0) (.string ⟨#[]⟩) (.slice none 0 0) (.slice none 0 0) (.int .i64 ck) (.string ct) (.slice A n c) (.int .i64 K) (.string cn) (.int .i64 cq) (.bool cb)
          have hbe : Below w.heap.size w (put12 W7 (w.heap.size + 1) (.int .i64 6) (.int .i64 0) (.string ⟨#[]⟩) (.slice none 0 0) (.slice none 0 0) (.int .i64 ck) (.string ct) (.slice A n c) (.int .i64 K) (.string cn) (.int .i64 cq) (.bool cb)) := (Tur.of_below (X := [w.heap.size + 1]) HS7.out.bel).trans ht (Fre.refl _ _) |>.below (B := w.heap.size) (fun k hk => by simp at hk; omega) (Nat.le_refl _)
          refine bodyPost_ret (v := .agg #[.int .i64 6, .int .i64 0, .string ⟨#[]⟩, .slice none 0 0, .slice none 0 0, .int .i64 ck, .string ct, .slice A n c, .int .i64 K, .string cn, .int .i64 cq, .bool cb]) (evEnd (put12 W7 (w.heap.size + 1) (.int .i64 6) (.int .i64 0) (.string ⟨#[]⟩) (.slice none 0 0) (.slice none 0 0) (.int .i64 ck) (.string ct) (.slice A n c) (.int .i64 K) (.string cn) (.int .i64 cq) (.bool cb)) (w.heap.size + 1) (.int .i64 6) (.int .i64 0) (.string ⟨#[]⟩) (.slice none 0 0) (.slice none 0 0) (.int .i64 ck) (.string ct) (.slice A n c) (.int .i64 K) (.string cn) (.int .i64 cq) (.bool cb) _ rfl HF.out) rfl ?_
          exact ⟨⟨6, 0, ⟨#[]⟩, [], [], ck, ct, L, K, ⟨cn, cq, cb⟩⟩, none, 0, 0, none, 0, 0, A, n, c, rfl, evw_chg ck ct A n c L K ⟨cn, cq, cb⟩ ⟨HW.out.l.1, HW.out.l.2.1, HW.out.l.2.2.1.below hbe, HW.out.l.2.2.2⟩ HW.out.ct HW.out.cl, hbe⟩
        · have g0 : ¬ (0 : Int) < (nt : Int) := by omega
          obtain ⟨W3z, hW3z⟩ : ∃ W, W = w2.alloc (.cells #[.slice none 0 0, .int .i64 0] 27) := ⟨_, rfl⟩
          have hsz2 : w.heap.size + 1 < w2.heap.size := Nat.lt_of_lt_of_le hsz1 hb2.out.size
          have HS3z : Hid (Su w W3z w2.heap.size #[.int .i64 6, .int .i64 m, .string t, .slice Ab nb zb, .slice Aa na za, .int .i64 ck, .string ct, .slice A n c, .int .i64 K, .string cn, .int .i64 cq, .bool cb] (.slice none 0 0) (.int .i64 0)) := by
            rw [hW3z]
            exact ⟨(HE1.out.below hb2.out HE1.out.lt).alloc _, (HR1.out.below hb2.out HR1.out.lt).alloc _, Has.new _ _ _, (HB1.out.trans (hb2.out.mono HB1.out.size)).alloc (HB1.out.trans (hb2.out.mono HB1.out.size)).size _, hsz2⟩
          replace hW3z := hW3z.symm
          obtain ⟨g, hg⟩ : ∃ g, w2.heap.size = g := ⟨_, rfl⟩
          rw [hg] at HS3z hsz2
          clear hb2 HFD HE1 HR1 HB1 u2 hw1
          have zz0 := HS3z.out.hs.cell 0
          have zz1 := HS3z.out.hs.cell 1
          have zzf0 := HS3z.out.hs.free 0
          have zzf1 := HS3z.out.hs.free 1
          simp only [List.getElem?_toArray, List.getElem?_cons_zero, List.getElem?_cons_succ] at zz0 zz1
          obtain ⟨W3, hW3⟩ : ∃ W, W = (W3z.setCell ⟨g, 0, none⟩ (.slice none 0 0)).setCell ⟨g, 1, none⟩ (.int .i64 0) := ⟨_, rfl⟩
          have HS3 : Hid (Su w W3 g #[.int .i64 6, .int .i64 m, .string t, .slice Ab nb zb, .slice Aa na za, .int .i64 ck, .string ct, .slice A n c, .int .i64 K, .string cn, .int .i64 cq, .bool cb] (.slice none 0 0) (.int .i64 0)) := by rw [hW3]; exact HS3z.out.puts _ _
          replace hW3 := hW3.symm
          have x_e0 := HS3.out.he.cell 0
          have x_ef0 := HS3.out.he.free 0
          simp only [List.getElem?_toArray, List.getElem?_cons_zero, List.getElem?_cons_succ] at x_e0
          obtain ⟨W4z, hW4z⟩ : ∃ W, W = W3.alloc (.cells #[.int .i64 0, .int .i64 0, .string ⟨#[]⟩, .slice none 0 0, .slice none 0 0, .int .i64 0, .string ⟨#[]⟩, .slice none 0 0, .int .i64 0, .string ⟨#[]⟩, .int .i64 0, .bool false] 33) := ⟨_, rfl⟩
          have s4 := HS3.out.out #[.int .i64 0, .int .i64 0, .string ⟨#[]⟩, .slice none 0 0, .slice none 0 0, .int .i64 0, .string ⟨#[]⟩, .slice none 0 0, .int .i64 0, .string ⟨#[]⟩, .int .i64 0, .bool false]
          rw [← hW4z] at s4
          replace hW4z := hW4z.symm
          obtain ⟨q, hq⟩ : ∃ q, W3.heap.size = q := ⟨_, rfl⟩
          rw [hq] at s4
          have HS4z := Lib.hid s4
          have nz0 := HS4z.out.ho.cell 0
          have nz1 := HS4z.out.ho.cell 1
          have nz2 := HS4z.out.ho.cell 2
          have nz3 := HS4z.out.ho.cell 3
          have nz4 := HS4z.out.ho.cell 4
          have nz5 := HS4z.out.ho.cell 5
          have nz6 := HS4z.out.ho.cell 6
          have nz7 := HS4z.out.ho.cell 7
          have nz8 := HS4z.out.ho.cell 8
          have nz9 := HS4z.out.ho.cell 9
          have nz10 := HS4z.out.ho.cell 10
          have nz11 := HS4z.out.ho.cell 11
          have nzf0 := HS4z.out.ho.free 0
          have nzf1 := HS4z.out.ho.free 1
          have nzf2 := HS4z.out.ho.free 2
          have nzf3 := HS4z.out.ho.free 3
          have nzf4 := HS4z.out.ho.free 4
          have nzf5 := HS4z.out.ho.free 5
          have nzf6 := HS4z.out.ho.free 6
          have nzf7 := HS4z.out.ho.free 7
          have nzf8 := HS4z.out.ho.free 8
          have nzf9 := HS4z.out.ho.free 9
          have nzf10 := HS4z.out.ho.free 10
          have nzf11 := HS4z.out.ho.free 11
          simp only [List.getElem?_toArray, List.getElem?_cons_zero, List.getElem?_cons_succ] at nz0 nz1 nz2 nz3 nz4 nz5 nz6 nz7 nz8 nz9 nz10 nz11
          obtain ⟨W4, hW4⟩ : ∃ W, put12 W4z q (.int .i64 6) (.int .i64 0) (.string ⟨#[]⟩) (.slice none 0 0) (.slice none 0 0) (.int .i64 0) (.string ⟨#[]⟩) (.slice none 0 0) (.int .i64 0) (.string ⟨#[]⟩) (.int .i64 0) (.bool false) = W := ⟨_, rfl⟩
          have s4b := s4.put12 (.int .i64 6) (.int .i64 0) (.string ⟨#[]⟩) (.slice none 0 0) (.slice none 0 0) (.int .i64 0) (.string ⟨#[]⟩) (.slice none 0 0) (.int .i64 0) (.string ⟨#[]⟩) (.int .i64 0) (.bool false)
          rw [hW4] at s4b
          have HS4 : Hid (Sv w W4 g q _ _ _ #[.int .i64 6, .int .i64 0, .string ⟨#[]⟩, .slice none 0 0, .slice none 0 0, .int .i64 0, .string ⟨#[]⟩, .slice none 0 0, .int .i64 0, .string ⟨#[]⟩, .int .i64 0, .bool false]) := s4b
          have hW4' : ((((((((((((W4z.setCell ⟨q, 0, none⟩ (.int .i64 6)).setCell ⟨q, 1, none⟩ (.int .i64 0)).setCell ⟨q, 2, none⟩ (.string ⟨#[]⟩)).setCell ⟨q, 3, none⟩ (.slice none 0 0)).setCell ⟨q, 4, none⟩ (.slice none 0 0)).setCell ⟨q, 5, none⟩ (.int .i64 0)).setCell ⟨q, 6, none⟩ (.string ⟨#[]⟩)).setCell ⟨q, 7, none⟩ (.slice none 0 0)).setCell ⟨q, 8, none⟩ (.int .i64 0)).setCell ⟨q, 9, none⟩ (.string ⟨#[]⟩)).setCell ⟨q, 10, none⟩ (.int .i64 0)).setCell ⟨q, 11, none⟩ (.bool false)) = W4 := hW4
          clear s4 s4b hW4
          have hlo := HS4.out.lo
          have e0 := HS3.out.he.cell 0
          have ef0 := HS3.out.he.free 0
          simp only [List.getElem?_toArray, List.getElem?_cons_zero, List.getElem?_cons_succ] at e0
          have a0 := HS4.out.he.cell 0
          have a1 := HS4.out.he.cell 1
          have a2 := HS4.out.he.cell 2
          have af0 := HS4.out.he.free 0
          have af1 := HS4.out.he.free 1
          have af2 := HS4.out.he.free 2
          simp only [List.getElem?_toArray, List.getElem?_cons_zero, List.getElem?_cons_succ] at a0 a1 a2
          have d5 := HS4.out.he.cell 5
          have d6 := HS4.out.he.cell 6
          have d7 := HS4.out.he.cell 7
          have d8 := HS4.out.he.cell 8
          have d9 := HS4.out.he.cell 9
          have d10 := HS4.out.he.cell 10
          have d11 := HS4.out.he.cell 11
          have df5 := HS4.out.he.free 5
          have df6 := HS4.out.he.free 6
          have df7 := HS4.out.he.free 7
          have df8 := HS4.out.he.free 8
          have df9 := HS4.out.he.free 9
          have df10 := HS4.out.he.free 10
          have df11 := HS4.out.he.free 11
          simp only [List.getElem?_toArray, List.getElem?_cons_zero, List.getElem?_cons_succ] at d5 d6 d7 d8 d9 d10 d11
          have b5 := HS4.out.ho.cell 5
          have b6 := HS4.out.ho.cell 6
          have b7 := HS4.out.ho.cell 7
          have b8 := HS4.out.ho.cell 8
          have b9 := HS4.out.ho.cell 9
          have b10 := HS4.out.ho.cell 10
          have b11 := HS4.out.ho.cell 11
          have bf5 := HS4.out.ho.free 5
          have bf6 := HS4.out.ho.free 6
          have bf7 := HS4.out.ho.free 7
          have bf8 := HS4.out.ho.free 8
          have bf9 := HS4.out.ho.free 9
          have bf10 := HS4.out.ho.free 10
          have bf11 := HS4.out.ho.free 11
          simp only [List.getElem?_toArray, List.getElem?_cons_zero, List.getElem?_cons_succ] at b5 b6 b7 b8 b9 b10 b11
          obtain ⟨W7, hW7⟩ : ∃ W, W = (((((((W4.setCell ⟨q, 5, none⟩ (.int .i64 ck)).setCell ⟨q, 6, none⟩ (.string ct)).setCell ⟨q, 7, none⟩ (.slice A n c)).setCell ⟨q, 8, none⟩ (.int .i64 K)).setCell ⟨q, 9, none⟩ (.string cn)).setCell ⟨q, 10, none⟩ (.int .i64 cq)).setCell ⟨q, 11, none⟩ (.bool cb)) := ⟨_, rfl⟩
          have HS7 : Hid (Sv w W7 g q #[.int .i64 6, .int .i64 m, .string t, .slice Ab nb zb, .slice Aa na za, .int .i64 ck, .string ct, .slice A n c, .int .i64 K, .string cn, .int .i64 cq, .bool cb] (.slice none 0 0) (.int .i64 0) #[.int .i64 6, .int .i64 0, .string ⟨#[]⟩, .slice none 0 0, .slice none 0 0, .int .i64 ck, .string ct, .slice A n c, .int .i64 K, .string cn, .int .i64 cq, .bool cb]) := by rw [hW7]; exact (((((((HS4.out.put 5 (.int .i64 ck)).put 6 (.string ct)).put 7 (.slice A n c)).put 8 (.int .i64 K)).put 9 (.string cn)).put 10 (.int .i64 cq)).put 11 (.bool cb))
          replace hW7 := hW7.symm
          have u0 := HS7.out.ho.cell 0
          have u1 := HS7.out.ho.cell 1
          have u2 := HS7.out.ho.cell 2
          have u3 := HS7.out.ho.cell 3
          have u4 := HS7.out.ho.cell 4
          have u5 := HS7.out.ho.cell 5
          have u6 := HS7.out.ho.cell 6
          have u7 := HS7.out.ho.cell 7
          have u8 := HS7.out.ho.cell 8
          have u9 := HS7.out.ho.cell 9
          have u10 := HS7.out.ho.cell 10
          have u11 := HS7.out.ho.cell 11
          have uf0 := HS7.out.ho.free 0
          have uf1 := HS7.out.ho.free 1
          have uf2 := HS7.out.ho.free 2
          have uf3 := HS7.out.ho.free 3
          have uf4 := HS7.out.ho.free 4
          have uf5 := HS7.out.ho.free 5
          have uf6 := HS7.out.ho.free 6
          have uf7 := HS7.out.ho.free 7
          have uf8 := HS7.out.ho.free 8
          have uf9 := HS7.out.ho.free 9
          have uf10 := HS7.out.ho.free 10
          have uf11 := HS7.out.ho.free 11
          simp only [List.getElem?_toArray, List.getElem?_cons_zero, List.getElem?_cons_succ] at u0 u1 u2 u3 u4 u5 u6 u7 u8 u9 u10 u11
          have v0 := HS7.out.hr.cell 0
          have v1 := HS7.out.hr.cell 1
          have v2 := HS7.out.hr.cell 2
          have v3 := HS7.out.hr.cell 3
          have v4 := HS7.out.hr.cell 4
          have v5 := HS7.out.hr.cell 5
          have v6 := HS7.out.hr.cell 6
          have v7 := HS7.out.hr.cell 7
          have v8 := HS7.out.hr.cell 8
          have v9 := HS7.out.hr.cell 9
          have v10 := HS7.out.hr.cell 10
          have v11 := HS7.out.hr.cell 11
          have vf0 := HS7.out.hr.free 0
          have vf1 := HS7.out.hr.free 1
          have vf2 := HS7.out.hr.free 2
          have vf3 := HS7.out.hr.free 3
          have vf4 := HS7.out.hr.free 4
          have vf5 := HS7.out.hr.free 5
          have vf6 := HS7.out.hr.free 6
          have vf7 := HS7.out.hr.free 7
          have vf8 := HS7.out.hr.free 8
          have vf9 := HS7.out.hr.free 9
          have vf10 := HS7.out.hr.free 10
          have vf11 := HS7.out.hr.free 11
          simp only [List.getElem?_toArray, List.getElem?_cons_zero, List.getElem?_cons_succ] at v0 v1 v2 v3 v4 v5 v6 v7 v8 v9 v10 v11
          go_wp2_with fail
          have HF : Hid (Has (put12 W7 (w.heap.size + 1) (.int .i64 6) (.int .i64 0) (.string ⟨#[]⟩) (.slice none 0 0) (.slice none 0 0) (.int .i64 ck) (.string ct) (.slice A n c) (.int .i64 K) (.string cn) (.int .i64 cq) (.bool cb)) (w.heap.size + 1) 33 #[.int .i64 6, .int .i64 0, .string ⟨#[]⟩, .slice none 0 0, .slice none 0 0, .int .i64 ck, .string ct, .slice A n c, .int .i64 K, .string cn, .int .i64 cq, .bool cb]) := put12_has HS7.out.hr (.int .i64 6) (.int .i64 0) (.string ⟨#[]⟩) (.slice none 0 0) (.slice none 0 0) (.int .i64 ck) (.string ct) (.slice A n c) (.int .i64 K) (.string cn) (.int .i64 cq) (.bool cb)
          have ht : Tur [w.heap.size + 1] W7 (put12 W7 (w.heap.size + 1) (.int .i64 6) (.int .i64 0) (.string ⟨#[]⟩) (.slice none 0 0) (.slice none 0 0) (.int .i64 ck) (.string ct) (.slice A n c) (.int .i64 K) (.string cn) (.int .i64 cq) (.bool cb)) := put12_tur _ _ (.int .i64 6) (.int .i64 0) (.string ⟨#[]⟩) (.slice none 0 0) (.slice none 0 0) (.int .i64 ck) (.string ct) (.slice A n c) (.int .i64 K) (.string cn) (.int .i64 cq) (.bool cb)
          have hbe : Below w.heap.size w (put12 W7 (w.heap.size + 1) (.int .i64 6) (.int .i64 0) (.string ⟨#[]⟩) (.slice none 0 0) (.slice none 0 0) (.int .i64 ck) (.string ct) (.slice A n c) (.int .i64 K) (.string cn) (.int .i64 cq) (.bool cb)) := (Tur.of_below (X := [w.heap.size + 1]) HS7.out.bel).trans ht (Fre.refl _ _) |>.below (B := w.heap.size) (fun k hk => by simp at hk; omega) (Nat.le_refl _)
          refine bodyPost_ret (v := .agg #[.int .i64 6, .int .i64 0, .string ⟨#[]⟩, .slice none 0 0, .slice none 0 0, .int .i64 ck, .string ct, .slice A n c, .int .i64 K, .string cn, .int .i64 cq, .bool cb]) (evEnd (put12 W7 (w.heap.size + 1) (.int .i64 6) (.int .i64 0) (.string ⟨#[]⟩) (.slice none 0 0) (.slice none 0 0) (.int .i64 ck) (.string ct) (.slice A n c) (.int .i64 K) (.string cn) (.int .i64 cq) (.bool cb)) (w.heap.size + 1) (.int .i64 6) (.int .i64 0) (.string ⟨#[]⟩) (.slice none 0 0) (.slice none 0 0) (.int .i64 ck) (.string ct) (.slice A n c) (.int .i64 K) (.string cn) (.int .i64 cq) (.bool cb) _ rfl HF.out) rfl ?_
          exact ⟨⟨6, 0, ⟨#[]⟩, [], [], ck, ct, L, K, ⟨cn, cq, cb⟩⟩, none, 0, 0, none, 0, 0, A, n, c, rfl, evw_chg ck ct A n c L K ⟨cn, cq, cb⟩ ⟨HW.out.l.1, HW.out.l.2.1, HW.out.l.2.2.1.below hbe, HW.out.l.2.2.2⟩ HW.out.ct HW.out.cl, hbe⟩
      · obtain ⟨hl, _⟩ := plF_tat hp
        go_enter Tryd.func8, Tryd.ntmps8
        go_wp2_with fail
        refine HFD.out.mono ?_
        rintro e w2 ⟨rfl, hb2⟩
        rw [tfV_yes hp hl]
        obtain ⟨y, hy⟩ : ∃ y, T[lbN T t] = y := ⟨_, rfl⟩
        have hyT : y ∈ T := hy ▸ List.getElem_mem hl
        rw [hy]
        clear hy
        obtain ⟨kk, hK, hgs⟩ := HGS.out y hyT
        have hok := HTT.out.ok y hyT
        obtain ⟨ynm, yA, yn, yc, yL, yK⟩ := y
        dsimp only at hK hgs hok ⊢
        subst hK
        obtain ⟨W3, hW3⟩ : ∃ W, W = w2.alloc (.cells #[.slice yA yn yc, .int .i64 (kk : Int)] 27) := ⟨_, rfl⟩
        have hsz2 : w.heap.size + 1 < w2.heap.size := Nat.lt_of_lt_of_le hsz1 hb2.out.size
        have HS3 : Hid (Su w W3 w2.heap.size #[.int .i64 6, .int .i64 m, .string t, .slice Ab nb zb, .slice Aa na za, .int .i64 ck, .string ct, .slice A n c, .int .i64 K, .string cn, .int .i64 cq, .bool cb] (.slice yA yn yc) (.int .i64 (kk : Int))) := by
          rw [hW3]
          exact ⟨(HE1.out.below hb2.out HE1.out.lt).alloc _, (HR1.out.below hb2.out HR1.out.lt).alloc _, Has.new _ _ _, (HB1.out.trans (hb2.out.mono HB1.out.size)).alloc (HB1.out.trans (hb2.out.mono HB1.out.size)).size _, hsz2⟩
        replace hW3 := hW3.symm
        obtain ⟨g, hg⟩ : ∃ g, w2.heap.size = g := ⟨_, rfl⟩
        rw [hg] at HS3 hsz2
        clear hb2 HFD HE1 HR1 HB1 u2 hw1
        obtain ⟨W4z, hW4z⟩ : ∃ W, W = W3.alloc (.cells #[.int .i64 0, .int .i64 0, .string ⟨#[]⟩, .slice none 0 0, .slice none 0 0, .int .i64 0, .string ⟨#[]⟩, .slice none 0 0, .int .i64 0, .string ⟨#[]⟩, .int .i64 0, .bool false] 33) := ⟨_, rfl⟩
        have s4 := HS3.out.out #[.int .i64 0, .int .i64 0, .string ⟨#[]⟩, .slice none 0 0, .slice none 0 0, .int .i64 0, .string ⟨#[]⟩, .slice none 0 0, .int .i64 0, .string ⟨#[]⟩, .int .i64 0, .bool false]
        rw [← hW4z] at s4
        replace hW4z := hW4z.symm
        obtain ⟨q, hq⟩ : ∃ q, W3.heap.size = q := ⟨_, rfl⟩
        rw [hq] at s4
        have HS4z := Lib.hid s4
        have nz0 := HS4z.out.ho.cell 0
        have nz1 := HS4z.out.ho.cell 1
        have nz2 := HS4z.out.ho.cell 2
        have nz3 := HS4z.out.ho.cell 3
        have nz4 := HS4z.out.ho.cell 4
        have nz5 := HS4z.out.ho.cell 5
        have nz6 := HS4z.out.ho.cell 6
        have nz7 := HS4z.out.ho.cell 7
        have nz8 := HS4z.out.ho.cell 8
        have nz9 := HS4z.out.ho.cell 9
        have nz10 := HS4z.out.ho.cell 10
        have nz11 := HS4z.out.ho.cell 11
        have nzf0 := HS4z.out.ho.free 0
        have nzf1 := HS4z.out.ho.free 1
        have nzf2 := HS4z.out.ho.free 2
        have nzf3 := HS4z.out.ho.free 3
        have nzf4 := HS4z.out.ho.free 4
        have nzf5 := HS4z.out.ho.free 5
        have nzf6 := HS4z.out.ho.free 6
        have nzf7 := HS4z.out.ho.free 7
        have nzf8 := HS4z.out.ho.free 8
        have nzf9 := HS4z.out.ho.free 9
        have nzf10 := HS4z.out.ho.free 10
        have nzf11 := HS4z.out.ho.free 11
        simp only [List.getElem?_toArray, List.getElem?_cons_zero, List.getElem?_cons_succ] at nz0 nz1 nz2 nz3 nz4 nz5 nz6 nz7 nz8 nz9 nz10 nz11
        obtain ⟨W4, hW4⟩ : ∃ W, put12 W4z q (.int .i64 6) (.int .i64 0) (.string ⟨#[]⟩) (.slice none 0 0) (.slice none 0 0) (.int .i64 0) (.string ⟨#[]⟩) (.slice none 0 0) (.int .i64 0) (.string ⟨#[]⟩) (.int .i64 0) (.bool false) = W := ⟨_, rfl⟩
        have s4b := s4.put12 (.int .i64 6) (.int .i64 0) (.string ⟨#[]⟩) (.slice none 0 0) (.slice none 0 0) (.int .i64 0) (.string ⟨#[]⟩) (.slice none 0 0) (.int .i64 0) (.string ⟨#[]⟩) (.int .i64 0) (.bool false)
        rw [hW4] at s4b
        have HS4 : Hid (Sv w W4 g q _ _ _ #[.int .i64 6, .int .i64 0, .string ⟨#[]⟩, .slice none 0 0, .slice none 0 0, .int .i64 0, .string ⟨#[]⟩, .slice none 0 0, .int .i64 0, .string ⟨#[]⟩, .int .i64 0, .bool false]) := s4b
        have hW4' : ((((((((((((W4z.setCell ⟨q, 0, none⟩ (.int .i64 6)).setCell ⟨q, 1, none⟩ (.int .i64 0)).setCell ⟨q, 2, none⟩ (.string ⟨#[]⟩)).setCell ⟨q, 3, none⟩ (.slice none 0 0)).setCell ⟨q, 4, none⟩ (.slice none 0 0)).setCell ⟨q, 5, none⟩ (.int .i64 0)).setCell ⟨q, 6, none⟩ (.string ⟨#[]⟩)).setCell ⟨q, 7, none⟩ (.slice none 0 0)).setCell ⟨q, 8, none⟩ (.int .i64 0)).setCell ⟨q, 9, none⟩ (.string ⟨#[]⟩)).setCell ⟨q, 10, none⟩ (.int .i64 0)).setCell ⟨q, 11, none⟩ (.bool false)) = W4 := hW4
        clear s4 s4b hW4
        have hlo := HS4.out.lo
        have e0 := HS3.out.he.cell 0
        have ef0 := HS3.out.he.free 0
        simp only [List.getElem?_toArray, List.getElem?_cons_zero, List.getElem?_cons_succ] at e0
        have a0 := HS4.out.he.cell 0
        have a1 := HS4.out.he.cell 1
        have a2 := HS4.out.he.cell 2
        have af0 := HS4.out.he.free 0
        have af1 := HS4.out.he.free 1
        have af2 := HS4.out.he.free 2
        simp only [List.getElem?_toArray, List.getElem?_cons_zero, List.getElem?_cons_succ] at a0 a1 a2
        have d5 := HS4.out.he.cell 5
        have d6 := HS4.out.he.cell 6
        have d7 := HS4.out.he.cell 7
        have d8 := HS4.out.he.cell 8
        have d9 := HS4.out.he.cell 9
        have d10 := HS4.out.he.cell 10
        have d11 := HS4.out.he.cell 11
        have df5 := HS4.out.he.free 5
        have df6 := HS4.out.he.free 6
        have df7 := HS4.out.he.free 7
        have df8 := HS4.out.he.free 8
        have df9 := HS4.out.he.free 9
        have df10 := HS4.out.he.free 10
        have df11 := HS4.out.he.free 11
        simp only [List.getElem?_toArray, List.getElem?_cons_zero, List.getElem?_cons_succ] at d5 d6 d7 d8 d9 d10 d11
        have b5 := HS4.out.ho.cell 5
        have b6 := HS4.out.ho.cell 6
        have b7 := HS4.out.ho.cell 7
        have b8 := HS4.out.ho.cell 8
        have b9 := HS4.out.ho.cell 9
        have b10 := HS4.out.ho.cell 10
        have b11 := HS4.out.ho.cell 11
        have bf5 := HS4.out.ho.free 5
        have bf6 := HS4.out.ho.free 6
        have bf7 := HS4.out.ho.free 7
        have bf8 := HS4.out.ho.free 8
        have bf9 := HS4.out.ho.free 9
        have bf10 := HS4.out.ho.free 10
        have bf11 := HS4.out.ho.free 11
        simp only [List.getElem?_toArray, List.getElem?_cons_zero, List.getElem?_cons_succ] at b5 b6 b7 b8 b9 b10 b11
        obtain ⟨W7, hW7⟩ : ∃ W, W = (((((((W4.setCell ⟨q, 5, none⟩ (.int .i64 ck)).setCell ⟨q, 6, none⟩ (.string ct)).setCell ⟨q, 7, none⟩ (.slice A n c)).setCell ⟨q, 8, none⟩ (.int .i64 K)).setCell ⟨q, 9, none⟩ (.string cn)).setCell ⟨q, 10, none⟩ (.int .i64 cq)).setCell ⟨q, 11, none⟩ (.bool cb)) := ⟨_, rfl⟩
        have HS7 : Hid (Sv w W7 g q #[.int .i64 6, .int .i64 m, .string t, .slice Ab nb zb, .slice Aa na za, .int .i64 ck, .string ct, .slice A n c, .int .i64 K, .string cn, .int .i64 cq, .bool cb] (.slice yA yn yc) (.int .i64 (kk : Int)) #[.int .i64 6, .int .i64 0, .string ⟨#[]⟩, .slice none 0 0, .slice none 0 0, .int .i64 ck, .string ct, .slice A n c, .int .i64 K, .string cn, .int .i64 cq, .bool cb]) := by rw [hW7]; exact (((((((HS4.out.put 5 (.int .i64 ck)).put 6 (.string ct)).put 7 (.slice A n c)).put 8 (.int .i64 K)).put 9 (.string cn)).put 10 (.int .i64 cq)).put 11 (.bool cb))
        replace hW7 := hW7.symm
        have u0 := HS7.out.ho.cell 0
        have u1 := HS7.out.ho.cell 1
        have u2 := HS7.out.ho.cell 2
        have u3 := HS7.out.ho.cell 3
        have u4 := HS7.out.ho.cell 4
        have u5 := HS7.out.ho.cell 5
        have u6 := HS7.out.ho.cell 6
        have u7 := HS7.out.ho.cell 7
        have u8 := HS7.out.ho.cell 8
        have u9 := HS7.out.ho.cell 9
        have u10 := HS7.out.ho.cell 10
        have u11 := HS7.out.ho.cell 11
        have uf0 := HS7.out.ho.free 0
        have uf1 := HS7.out.ho.free 1
        have uf2 := HS7.out.ho.free 2
        have uf3 := HS7.out.ho.free 3
        have uf4 := HS7.out.ho.free 4
        have uf5 := HS7.out.ho.free 5
        have uf6 := HS7.out.ho.free 6
        have uf7 := HS7.out.ho.free 7
        have uf8 := HS7.out.ho.free 8
        have uf9 := HS7.out.ho.free 9
        have uf10 := HS7.out.ho.free 10
        have uf11 := HS7.out.ho.free 11
        simp only [List.getElem?_toArray, List.getElem?_cons_zero, List.getElem?_cons_succ] at u0 u1 u2 u3 u4 u5 u6 u7 u8 u9 u10 u11
        have v0 := HS7.out.hr.cell 0
        have v1 := HS7.out.hr.cell 1
        have v2 := HS7.out.hr.cell 2
        have v3 := HS7.out.hr.cell 3
        have v4 := HS7.out.hr.cell 4
        have v5 := HS7.out.hr.cell 5
        have v6 := HS7.out.hr.cell 6
        have v7 := HS7.out.hr.cell 7
        have v8 := HS7.out.hr.cell 8
        have v9 := HS7.out.hr.cell 9
        have v10 := HS7.out.hr.cell 10
        have v11 := HS7.out.hr.cell 11
        have vf0 := HS7.out.hr.free 0
        have vf1 := HS7.out.hr.free 1
        have vf2 := HS7.out.hr.free 2
        have vf3 := HS7.out.hr.free 3
        have vf4 := HS7.out.hr.free 4
        have vf5 := HS7.out.hr.free 5
        have vf6 := HS7.out.hr.free 6
        have vf7 := HS7.out.hr.free 7
        have vf8 := HS7.out.hr.free 8
        have vf9 := HS7.out.hr.free 9
        have vf10 := HS7.out.hr.free 10
        have vf11 := HS7.out.hr.free 11
        simp only [List.getElem?_toArray, List.getElem?_cons_zero, List.getElem?_cons_succ] at v0 v1 v2 v3 v4 v5 v6 v7 v8 v9 v10 v11
        go_wp2_with fail
        have HF : Hid (Has (put12 W7 (w.heap.size + 1) (.int .i64 6) (.int .i64 0) (.string ⟨#[]⟩) (.slice none 0 0) (.slice none 0 0) (.int .i64 ck) (.string ct) (.slice A n c) (.int .i64 K) (.string cn) (.int .i64 cq) (.bool cb)) (w.heap.size + 1) 33 #[.int .i64 6, .int .i64 0, .string ⟨#[]⟩, .slice none 0 0, .slice none 0 0, .int .i64 ck, .string ct, .slice A n c, .int .i64 K, .string cn, .int .i64 cq, .bool cb]) := put12_has HS7.out.hr (.int .i64 6) (.int .i64 0) (.string ⟨#[]⟩) (.slice none 0 0) (.slice none 0 0) (.int .i64 ck) (.string ct) (.slice A n c) (.int .i64 K) (.string cn) (.int .i64 cq) (.bool cb)
        have ht : Tur [w.heap.size + 1] W7 (put12 W7 (w.heap.size + 1) (.int .i64 6) (.int .i64 0) (.string ⟨#[]⟩) (.slice none 0 0) (.slice none 0 0) (.int .i64 ck) (.string ct) (.slice A n c) (.int .i64 K) (.string cn) (.int .i64 cq) (.bool cb)) := put12_tur _ _ (.int .i64 6) (.int .i64 0) (.string ⟨#[]⟩) (.slice none 0 0) (.slice none 0 0) (.int .i64 ck) (.string ct) (.slice A n c) (.int .i64 K) (.string cn) (.int .i64 cq) (.bool cb)
        have hbe : Below w.heap.size w (put12 W7 (w.heap.size + 1) (.int .i64 6) (.int .i64 0) (.string ⟨#[]⟩) (.slice none 0 0) (.slice none 0 0) (.int .i64 ck) (.string ct) (.slice A n c) (.int .i64 K) (.string cn) (.int .i64 cq) (.bool cb)) := (Tur.of_below (X := [w.heap.size + 1]) HS7.out.bel).trans ht (Fre.refl _ _) |>.below (B := w.heap.size) (fun k hk => by simp at hk; omega) (Nat.le_refl _)
        refine bodyPost_ret (v := .agg #[.int .i64 6, .int .i64 0, .string ⟨#[]⟩, .slice none 0 0, .slice none 0 0, .int .i64 ck, .string ct, .slice A n c, .int .i64 K, .string cn, .int .i64 cq, .bool cb]) (evEnd (put12 W7 (w.heap.size + 1) (.int .i64 6) (.int .i64 0) (.string ⟨#[]⟩) (.slice none 0 0) (.slice none 0 0) (.int .i64 ck) (.string ct) (.slice A n c) (.int .i64 K) (.string cn) (.int .i64 cq) (.bool cb)) (w.heap.size + 1) (.int .i64 6) (.int .i64 0) (.string ⟨#[]⟩) (.slice none 0 0) (.slice none 0 0) (.int .i64 ck) (.string ct) (.slice A n c) (.int .i64 K) (.string cn) (.int .i64 cq) (.bool cb) _ rfl HF.out) rfl ?_
        exact ⟨⟨6, 0, ⟨#[]⟩, [], [], ck, ct, L, K, ⟨cn, cq, cb⟩⟩, none, 0, 0, none, 0, 0, A, n, c, rfl, evw_chg ck ct A n c L K ⟨cn, cq, cb⟩ ⟨HW.out.l.1, HW.out.l.2.1, HW.out.l.2.2.1.below hbe, HW.out.l.2.2.2⟩ HW.out.ct HW.out.cl, hbe⟩
  · have q3 : (k == 3) = false := by simp; omega
    have q4 : (k == 4) = false := by simp; omega
    have q5 : (k == 5) = false := by simp; omega
    have q6 : (k == 6) = false := by simp; omega
    have q35 : k < 3 ∨ 5 < k := by omega
    cases hp : plF T t
    · rcases q35 with q3a | q3a
      · have q3b : ¬ (3 : Int) ≤ k := by omega
        go_enter Tryd.func8, Tryd.ntmps8
        go_wp2_with fail
        refine HFD.out.mono ?_
        rintro e w2 ⟨rfl, hb2⟩
        rw [tfV_no HTT.out.sort hp]
        by_cases hnt : 0 < nt
        · have g0 : (0 : Int) < (nt : Int) := by omega
          obtain ⟨W3z, hW3z⟩ : ∃ W, W = w2.alloc (.cells #[.slice none 0 0, .int .i64 0] 27) := ⟨_, rfl⟩
          have hsz2 : w.heap.size + 1 < w2.heap.size := Nat.lt_of_lt_of_le hsz1 hb2.out.size
          have HS3z : Hid (Su w W3z w2.heap.size #[.int .i64 k, .int .i64 m, .string t, .slice Ab nb zb, .slice Aa na za, .int .i64 ck, .string ct, .slice A n c, .int .i64 K, .string cn, .int .i64 cq, .bool cb] (.slice none 0 0) (.int .i64 0)) := by
            rw [hW3z]
            exact ⟨(HE1.out.below hb2.out HE1.out.lt).alloc _, (HR1.out.below hb2.out HR1.out.lt).alloc _, Has.new _ _ _, (HB1.out.trans (hb2.out.mono HB1.out.size)).alloc (HB1.out.trans (hb2.out.mono HB1.out.size)).size _, hsz2⟩
          replace hW3z := hW3z.symm
          obtain ⟨g, hg⟩ : ∃ g, w2.heap.size = g := ⟨_, rfl⟩
          rw [hg] at HS3z hsz2
          clear hb2 HFD HE1 HR1 HB1 u2 hw1
          have zz0 := HS3z.out.hs.cell 0
          have zz1 := HS3z.out.hs.cell 1
          have zzf0 := HS3z.out.hs.free 0
          have zzf1 := HS3z.out.hs.free 1
          simp only [List.getElem?_toArray, List.getElem?_cons_zero, List.getElem?_cons_succ] at zz0 zz1
          obtain ⟨W3, hW3⟩ : ∃ W, W = (W3z.setCell ⟨g, 0, none⟩ (.slice none 0 0)).setCell ⟨g, 1, none⟩ (.int .i64 0) := ⟨_, rfl⟩
          have HS3 : Hid (Su w W3 g #[.int .i64 k, .int .i64 m, .string t, .slice Ab nb zb, .slice Aa na za, .int .i64 ck, .string ct, .slice A n c, .int .i64 K, .string cn, .int .i64 cq, .bool cb] (.slice none 0 0) (.int .i64 0)) := by rw [hW3]; exact HS3z.out.puts _ _
          replace hW3 := hW3.symm
          have x_e0 := HS3.out.he.cell 0
          have x_ef0 := HS3.out.he.free 0
          simp only [List.getElem?_toArray, List.getElem?_cons_zero, List.getElem?_cons_succ] at x_e0
          obtain ⟨W4z, hW4z⟩ : ∃ W, W = W3.alloc (.cells #[.int .i64 0, .int .i64 0, .string ⟨#[]⟩, .slice none 0 0, .slice none 0 0, .int .i64 0, .string ⟨#[]⟩, .slice none 0 0, .int .i64 0, .string ⟨#[]⟩, .int .i64 0, .bool false] 33) := ⟨_, rfl⟩
          have s4 := HS3.out.out #[.int .i64 0, .int .i64 0, .string ⟨#[]⟩, .slice none 0 0, .slice none 0 0, .int .i64 0, .string ⟨#[]⟩, .slice none 0 0, .int .i64 0, .string ⟨#[]⟩, .int .i64 0, .bool false]
          rw [← hW4z] at s4
          replace hW4z := hW4z.symm
          obtain ⟨q, hq⟩ : ∃ q, W3.heap.size = q := ⟨_, rfl⟩
          rw [hq] at s4
          have HS4z := Lib.hid s4
          have nz0 := HS4z.out.ho.cell 0
          have nz1 := HS4z.out.ho.cell 1
          have nz2 := HS4z.out.ho.cell 2
          have nz3 := HS4z.out.ho.cell 3
          have nz4 := HS4z.out.ho.cell 4
          have nz5 := HS4z.out.ho.cell 5
          have nz6 := HS4z.out.ho.cell 6
          have nz7 := HS4z.out.ho.cell 7
          have nz8 := HS4z.out.ho.cell 8
          have nz9 := HS4z.out.ho.cell 9
          have nz10 := HS4z.out.ho.cell 10
          have nz11 := HS4z.out.ho.cell 11
          have nzf0 := HS4z.out.ho.free 0
          have nzf1 := HS4z.out.ho.free 1
          have nzf2 := HS4z.out.ho.free 2
          have nzf3 := HS4z.out.ho.free 3
          have nzf4 := HS4z.out.ho.free 4
          have nzf5 := HS4z.out.ho.free 5
          have nzf6 := HS4z.out.ho.free 6
          have nzf7 := HS4z.out.ho.free 7
          have nzf8 := HS4z.out.ho.free 8
          have nzf9 := HS4z.out.ho.free 9
          have nzf10 := HS4z.out.ho.free 10
          have nzf11 := HS4z.out.ho.free 11
          simp only [List.getElem?_toArray, List.getElem?_cons_zero, List.getElem?_cons_succ] at nz0 nz1 nz2 nz3 nz4 nz5 nz6 nz7 nz8 nz9 nz10 nz11
          obtain ⟨W4, hW4⟩ : ∃ W, put12 W4z q (.int .i64 k) (.int .i64 0) (.string ⟨#[]⟩) (.slice none 0 0) (.slice none 0 0) (.int .i64 0) (.string ⟨#[]⟩) (.slice none 0 0) (.int .i64 0) (.string ⟨#[]⟩) (.int .i64 0) (.bool false) = W := ⟨_, rfl⟩
          have s4b := s4.put12 (.int .i64 k) (.int .i64 0) (.string ⟨#[]⟩) (.slice none 0 0) (.slice none 0 0) (.int .i64 0) (.string ⟨#[]⟩) (.slice none 0 0) (.int .i64 0) (.string ⟨#[]⟩) (.int .i64 0) (.bool false)
          rw [hW4] at s4b
          have HS4 : Hid (Sv w W4 g q _ _ _ #[.int .i64 k, .int .i64 0, .string ⟨#[]⟩, .slice none 0 0, .slice none 0 0, .int .i64 0, .string ⟨#[]⟩, .slice none 0 0, .int .i64 0, .string ⟨#[]⟩, .int .i64 0, .bool false]) := s4b
          have hW4' : ((((((((((((W4z.setCell ⟨q, 0, none⟩ (.int .i64 k)).setCell ⟨q, 1, none⟩ (.int .i64 0)).setCell ⟨q, 2, none⟩ (.string ⟨#[]⟩)).setCell ⟨q, 3, none⟩ (.slice none 0 0)).setCell ⟨q, 4, none⟩ (.slice none 0 0)).setCell ⟨q, 5, none⟩ (.int .i64 0)).setCell ⟨q, 6, none⟩ (.string ⟨#[]⟩)).setCell ⟨q, 7, none⟩ (.slice none 0 0)).setCell ⟨q, 8, none⟩ (.int .i64 0)).setCell ⟨q, 9, none⟩ (.string ⟨#[]⟩)).setCell ⟨q, 10, none⟩ (.int .i64 0)).setCell ⟨q, 11, none⟩ (.bool false)) = W4 := hW4
          clear s4 s4b hW4
          have hlo := HS4.out.lo
          have e0 := HS3.out.he.cell 0
          have ef0 := HS3.out.he.free 0
          simp only [List.getElem?_toArray, List.getElem?_cons_zero, List.getElem?_cons_succ] at e0
          have a0 := HS4.out.he.cell 0
          have a1 := HS4.out.he.cell 1
          have a2 := HS4.out.he.cell 2
          have af0 := HS4.out.he.free 0
          have af1 := HS4.out.he.free 1
          have af2 := HS4.out.he.free 2
          simp only [List.getElem?_toArray, List.getElem?_cons_zero, List.getElem?_cons_succ] at a0 a1 a2
          have b1 := HS4.out.ho.cell 1
          have bf1 := HS4.out.ho.free 1
          simp only [List.getElem?_toArray, List.getElem?_cons_zero, List.getElem?_cons_succ] at b1
          obtain ⟨W5, hW5⟩ : ∃ W, W = (W4.setCell ⟨q, 1, none⟩ (.int .i64 m)) := ⟨_, rfl⟩
          have HS5 : Hid (Sv w W5 g q #[.int .i64 k, .int .i64 m, .string t, .slice Ab nb zb, .slice Aa na za, .int .i64 ck, .string ct, .slice A n c, .int .i64 K, .string cn, .int .i64 cq, .bool cb] (.slice none 0 0) (.int .i64 0) #[.int .i64 k, .int .i64 m, .string ⟨#[]⟩, .slice none 0 0, .slice none 0 0, .int .i64 0, .string ⟨#[]⟩, .slice none 0 0, .int .i64 0, .string ⟨#[]⟩, .int .i64 0, .bool false]) := by rw [hW5]; exact (HS4.out.put 1 (.int .i64 m))
          replace hW5 := hW5.symm
          have c1 := HS5.out.ho.cell 1
          have cf1 := HS5.out.ho.free 1
          simp only [List.getElem?_toArray, List.getElem?_cons_zero, List.getElem?_cons_succ] at c1
          by_cases hm0 : m < 0
          · obtain ⟨W7, hW7⟩ : ∃ W, W = (W5.setCell ⟨q, 1, none⟩ (.int .i64 (-(m + 1)))) := ⟨_, rfl⟩
            have HS7 : Hid (Sv w W7 g q #[.int .i64 k, .int .i64 m, .string t, .slice Ab nb zb, .slice Aa na za, .int .i64 ck, .string ct, .slice A n c, .int .i64 K, .string cn, .int .i64 cq, .bool cb] (.slice none 0 0) (.int .i64 0) #[.int .i64 k, .int .i64 (-(m + 1)), .string ⟨#[]⟩, .slice none 0 0, .slice none 0 0, .int .i64 0, .string ⟨#[]⟩, .slice none 0 0, .int .i64 0, .string ⟨#[]⟩, .int .i64 0, .bool false]) := by rw [hW7]; exact (HS5.out.put 1 (.int .i64 (-(m + 1))))
            replace hW7 := hW7.symm
            have u0 := HS7.out.ho.cell 0
            have u1 := HS7.out.ho.cell 1
            have u2 := HS7.out.ho.cell 2
            have u3 := HS7.out.ho.cell 3
            have u4 := HS7.out.ho.cell 4
            have u5 := HS7.out.ho.cell 5
            have u6 := HS7.out.ho.cell 6
            have u7 := HS7.out.ho.cell 7
            have u8 := HS7.out.ho.cell 8
            have u9 := HS7.out.ho.cell 9
            have u10 := HS7.out.ho.cell 10
            have u11 := HS7.out.ho.cell 11
            have uf0 := HS7.out.ho.free 0
            have uf1 := HS7.out.ho.free 1
            have uf2 := HS7.out.ho.free 2
            have uf3 := HS7.out.ho.free 3
            have uf4 := HS7.out.ho.free 4
            have uf5 := HS7.out.ho.free 5
            have uf6 := HS7.out.ho.free 6
            have uf7 := HS7.out.ho.free 7
            have uf8 := HS7.out.ho.free 8
            have uf9 := HS7.out.ho.free 9
            have uf10 := HS7.out.ho.free 10
            have uf11 := HS7.out.ho.free 11
            simp only [List.getElem?_toArray, List.getElem?_cons_zero, List.getElem?_cons_succ] at u0 u1 u2 u3 u4 u5 u6 u7 u8 u9 u10 u11
            have v0 := HS7.out.hr.cell 0
            have v1 := HS7.out.hr.cell 1
            have v2 := HS7.out.hr.cell 2
            have v3 := HS7.out.hr.cell 3
            have v4 := HS7.out.hr.cell 4
            have v5 := HS7.out.hr.cell 5
            have v6 := HS7.out.hr.cell 6
            have v7 := HS7.out.hr.cell 7
            have v8 := HS7.out.hr.cell 8
            have v9 := HS7.out.hr.cell 9
            have v10 := HS7.out.hr.cell 10
            have v11 := HS7.out.hr.cell 11
            have vf0 := HS7.out.hr.free 0
            have vf1 := HS7.out.hr.free 1
            have vf2 := HS7.out.hr.free 2
            have vf3 := HS7.out.hr.free 3
            have vf4 := HS7.out.hr.free 4
            have vf5 := HS7.out.hr.free 5
            have vf6 := HS7.out.hr.free 6
            have vf7 := HS7.out.hr.free 7
            have vf8 := HS7.out.hr.free 8
            have vf9 := HS7.out.hr.free 9
            have vf10 := HS7.out.hr.free 10
            have vf11 := HS7.out.hr.free 11
            simp only [List.getElem?_toArray, List.getElem?_cons_zero, List.getElem?_cons_succ] at v0 v1 v2 v3 v4 v5 v6 v7 v8 v9 v10 v11
            go_wp2_with fail
            have HF : Hid (Has (put12 W7 (w.heap.size + 1) (.int .i64 k) (.int .i64 (-(m + 1))) (.string ⟨#[]⟩) (.slice none 0 0) (.slice none 0 0) (.int .i64 0) (.string ⟨#[]⟩) (.slice none 0 0) (.int .i64 0) (.string ⟨#[]⟩) (.int .i64 0) (.bool false)) (w.heap.size + 1) 33 #[.int .i64 k, .int .i64 (-(m + 1)), .string ⟨#[]⟩, .slice none 0 0, .slice none 0 0, .int .i64 0, .string ⟨#[]⟩, .slice none 0 0, .int .i64 0, .string ⟨#[]⟩, .int .i64 0, .bool false]) := put12_has HS7.out.hr (.int .i64 k) (.int .i64 (-(m + 1))) (.string ⟨#[]⟩) (.slice none 0 0) (.slice none 0 0) (.int .i64 0) (.string ⟨#[]⟩) (.slice none 0 0) (.int .i64 0) (.string ⟨#[]⟩) (.int .i64 0) (.bool false)
            have ht : Tur [w.heap.size + 1] W7 (put12 W7 (w.heap.size + 1) (.int .i64 k) (.int .i64 (-(m + 1))) (.string ⟨#[]⟩) (.slice none 0 0) (.slice none 0 0) (.int .i64 0) (.string ⟨#[]⟩) (.slice none 0 0) (.int .i64 0) (.string ⟨#[]⟩) (.int .i64 0) (.bool false)) := put12_tur _ _ (.int .i64 k) (.int .i64 (-(m + 1))) (.string ⟨#[]⟩) (.slice none 0 0) (.slice none 0 0) (.int .i64 0) (.string ⟨#[]⟩) (.slice none 0 0) (.int .i64 0) (.string ⟨#[]⟩) (.int .i64 0) (.bool false)
            have hbe : Below w.heap.size w (put12 W7 (w.heap.size + 1) (.int .i64 k) (.int .i64 (-(m + 1))) (.string ⟨#[]⟩) (.slice none 0 0) (.slice none 0 0) (.int .i64 0) (.string ⟨#[]⟩) (.slice none 0 0) (.int .i64 0) (.string ⟨#[]⟩) (.int .i64 0) (.bool false)) := (Tur.of_below (X := [w.heap.size + 1]) HS7.out.bel).trans ht (Fre.refl _ _) |>.below (B := w.heap.size) (fun k hk => by simp at hk; omega) (Nat.le_refl _)
            refine bodyPost_ret (v := .agg #[.int .i64 k, .int .i64 (-(m + 1)), .string ⟨#[]⟩, .slice none 0 0, .slice none 0 0, .int .i64 0, .string ⟨#[]⟩, .slice none 0 0, .int .i64 0, .string ⟨#[]⟩, .int .i64 0, .bool false]) (evEnd (put12 W7 (w.heap.size + 1) (.int .i64 k) (.int .i64 (-(m + 1))) (.string ⟨#[]⟩) (.slice none 0 0) (.slice none 0 0) (.int .i64 0) (.string ⟨#[]⟩) (.slice none 0 0) (.int .i64 0) (.string ⟨#[]⟩) (.int .i64 0) (.bool false)) (w.heap.size + 1) (.int .i64 k) (.int .i64 (-(m + 1))) (.string ⟨#[]⟩) (.slice none 0 0) (.slice none 0 0) (.int .i64 0) (.string ⟨#[]⟩) (.slice none 0 0) (.int .i64 0) (.string ⟨#[]⟩) (.int .i64 0) (.bool false) _ rfl HF.out) rfl ?_
            exact ⟨⟨k, -(m + 1), ⟨#[]⟩, [], [], 0, ⟨#[]⟩, [], 0, ⟨⟨#[]⟩, 0, false⟩⟩, none, 0, 0, none, 0, 0, none, 0, 0, rfl, evw_row k (-(m + 1)) ⟨#[]⟩ [] [] none 0 0 none 0 0 (nilB _) (nilB _) (by omega) (by omega), hbe⟩
          · have u0 := HS5.out.ho.cell 0
            have u1 := HS5.out.ho.cell 1
            have u2 := HS5.out.ho.cell 2
            have u3 := HS5.out.ho.cell 3
            have u4 := HS5.out.ho.cell 4
            have u5 := HS5.out.ho.cell 5
            have u6 := HS5.out.ho.cell 6
            have u7 := HS5.out.ho.cell 7
            have u8 := HS5.out.ho.cell 8
            have u9 := HS5.out.ho.cell 9
            have u10 := HS5.out.ho.cell 10
            have u11 := HS5.out.ho.cell 11
            have uf0 := HS5.out.ho.free 0
            have uf1 := HS5.out.ho.free 1
            have uf2 := HS5.out.ho.free 2
            have uf3 := HS5.out.ho.free 3
            have uf4 := HS5.out.ho.free 4
            have uf5 := HS5.out.ho.free 5
            have uf6 := HS5.out.ho.free 6
            have uf7 := HS5.out.ho.free 7
            have uf8 := HS5.out.ho.free 8
            have uf9 := HS5.out.ho.free 9
            have uf10 := HS5.out.ho.free 10
            have uf11 := HS5.out.ho.free 11
            simp only [List.getElem?_toArray, List.getElem?_cons_zero, List.getElem?_cons_succ] at u0 u1 u2 u3 u4 u5 u6 u7 u8 u9 u10 u11
            have v0 := HS5.out.hr.cell 0
            have v1 := HS5.out.hr.cell 1
            have v2 := HS5.out.hr.cell 2
            have v3 := HS5.out.hr.cell 3
            have v4 := HS5.out.hr.cell 4
            have v5 := HS5.out.hr.cell 5
            have v6 := HS5.out.hr.cell 6
            have v7 := HS5.out.hr.cell 7
            have v8 := HS5.out.hr.cell 8
            have v9 := HS5.out.hr.cell 9
            have v10 := HS5.out.hr.cell 10
            have v11 := HS5.out.hr.cell 11
            have vf0 := HS5.out.hr.free 0
            have vf1 := HS5.out.hr.free 1
            have vf2 := HS5.out.hr.free 2
            have vf3 := HS5.out.hr.free 3
            have vf4 := HS5.out.hr.free 4
            have vf5 := HS5.out.hr.free 5
            have vf6 := HS5.out.hr.free 6
            have vf7 := HS5.out.hr.free 7
            have vf8 := HS5.out.hr.free 8
            have vf9 := HS5.out.hr.free 9
            have vf10 := HS5.out.hr.free 10
            have vf11 := HS5.out.hr.free 11
            simp only [List.getElem?_toArray, List.getElem?_cons_zero, List.getElem?_cons_succ] at v0 v1 v2 v3 v4 v5 v6 v7 v8 v9 v10 v11
            go_wp2_with fail
            have HF : Hid (Has (put12 W5 (w.heap.size + 1) (.int .i64 k) (.int .i64 m) (.string ⟨#[]⟩) (.slice none 0 0) (.slice none 0 0) (.int .i64 0) (.string ⟨#[]⟩) (.slice none 0 0) (.int .i64 0) (.string ⟨#[]⟩) (.int .i64 0) (.bool false)) (w.heap.size + 1) 33 #[.int .i64 k, .int .i64 m, .string ⟨#[]⟩, .slice none 0 0, .slice none 0 0, .int .i64 0, .string ⟨#[]⟩, .slice none 0 0, .int .i64 0, .string ⟨#[]⟩, .int .i64 0, .bool false]) := put12_has HS5.out.hr (.int .i64 k) (.int .i64 m) (.string ⟨#[]⟩) (.slice none 0 0) (.slice none 0 0) (.int .i64 0) (.string ⟨#[]⟩) (.slice none 0 0) (.int .i64 0) (.string ⟨#[]⟩) (.int .i64 0) (.bool false)
            have ht : Tur [w.heap.size + 1] W5 (put12 W5 (w.heap.size + 1) (.int .i64 k) (.int .i64 m) (.string ⟨#[]⟩) (.slice none 0 0) (.slice none 0 0) (.int .i64 0) (.string ⟨#[]⟩) (.slice none 0 0) (.int .i64 0) (.string ⟨#[]⟩) (.int .i64 0) (.bool false)) := put12_tur _ _ (.int .i64 k) (.int .i64 m) (.string ⟨#[]⟩) (.slice none 0 0) (.slice none 0 0) (.int .i64 0) (.string ⟨#[]⟩) (.slice none 0 0) (.int .i64 0) (.string ⟨#[]⟩) (.int .i64 0) (.bool false)
            have hbe : Below w.heap.size w (put12 W5 (w.heap.size + 1) (.int .i64 k) (.int .i64 m) (.string ⟨#[]⟩) (.slice none 0 0) (.slice none 0 0) (.int .i64 0) (.string ⟨#[]⟩) (.slice none 0 0) (.int .i64 0) (.string ⟨#[]⟩) (.int .i64 0) (.bool false)) := (Tur.of_below (X := [w.heap.size + 1]) HS5.out.bel).trans ht (Fre.refl _ _) |>.below (B := w.heap.size) (fun k hk => by simp at hk; omega) (Nat.le_refl _)
            refine bodyPost_ret (v := .agg #[.int .i64 k, .int .i64 m, .string ⟨#[]⟩, .slice none 0 0, .slice none 0 0, .int .i64 0, .string ⟨#[]⟩, .slice none 0 0, .int .i64 0, .string ⟨#[]⟩, .int .i64 0, .bool false]) (evEnd (put12 W5 (w.heap.size + 1) (.int .i64 k) (.int .i64 m) (.string ⟨#[]⟩) (.slice none 0 0) (.slice none 0 0) (.int .i64 0) (.string ⟨#[]⟩) (.slice none 0 0) (.int .i64 0) (.string ⟨#[]⟩) (.int .i64 0) (.bool false)) (w.heap.size + 1) (.int .i64 k) (.int .i64 m) (.string ⟨#[]⟩) (.slice none 0 0) (.slice none 0 0) (.int .i64 0) (.string ⟨#[]⟩) (.slice none 0 0) (.int .i64 0) (.string ⟨#[]⟩) (.int .i64 0) (.bool false) _ rfl HF.out) rfl ?_
            exact ⟨⟨k, m, ⟨#[]⟩, [], [], 0, ⟨#[]⟩, [], 0, ⟨⟨#[]⟩, 0, false⟩⟩, none, 0, 0, none, 0, 0, none, 0, 0, rfl, evw_row k (m) ⟨#[]⟩ [] [] none 0 0 none 0 0 (nilB _) (nilB _) (by omega) (by omega), hbe⟩
        · have g0 : ¬ (0 : Int) < (nt : Int) := by omega
          obtain ⟨W3z, hW3z⟩ : ∃ W, W = w2.alloc (.cells #[.slice none 0 0, .int .i64 0] 27) := ⟨_, rfl⟩
          have hsz2 : w.heap.size + 1 < w2.heap.size := Nat.lt_of_lt_of_le hsz1 hb2.out.size
          have HS3z : Hid (Su w W3z w2.heap.size #[.int .i64 k, .int .i64 m, .string t, .slice Ab nb zb, .slice Aa na za, .int .i64 ck, .string ct, .slice A n c, .int .i64 K, .string cn, .int .i64 cq, .bool cb] (.slice none 0 0) (.int .i64 0)) := by
            rw [hW3z]
            exact ⟨(HE1.out.below hb2.out HE1.out.lt).alloc _, (HR1.out.below hb2.out HR1.out.lt).alloc _, Has.new _ _ _, (HB1.out.trans (hb2.out.mono HB1.out.size)).alloc (HB1.out.trans (hb2.out.mono HB1.out.size)).size _, hsz2⟩
          replace hW3z := hW3z.symm
          obtain ⟨g, hg⟩ : ∃ g, w2.heap.size = g := ⟨_, rfl⟩
          rw [hg] at HS3z hsz2
          clear hb2 HFD HE1 HR1 HB1 u2 hw1
          have zz0 := HS3z.out.hs.cell 0
          have zz1 := HS3z.out.hs.cell 1
          have zzf0 := HS3z.out.hs.free 0
          have zzf1 := HS3z.out.hs.free 1
          simp only [List.getElem?_toArray, List.getElem?_cons_zero, List.getElem?_cons_succ] at zz0 zz1
          obtain ⟨W3, hW3⟩ : ∃ W, W = (W3z.setCell ⟨g, 0, none⟩ (.slice none 0 0)).setCell ⟨g, 1, none⟩ (.int .i64 0) := ⟨_, rfl⟩
          have HS3 : Hid (Su w W3 g #[.int .i64 k, .int .i64 m, .string t, .slice Ab nb zb, .slice Aa na za, .int .i64 ck, .string ct, .slice A n c, .int .i64 K, .string cn, .int .i64 cq, .bool cb] (.slice none 0 0) (.int .i64 0)) := by rw [hW3]; exact HS3z.out.puts _ _
          replace hW3 := hW3.symm
          have x_e0 := HS3.out.he.cell 0
          have x_ef0 := HS3.out.he.free 0
          simp only [List.getElem?_toArray, List.getElem?_cons_zero, List.getElem?_cons_succ] at x_e0
          obtain ⟨W4z, hW4z⟩ : ∃ W, W = W3.alloc (.cells #[.int .i64 0, .int .i64 0, .string ⟨#[]⟩, .slice none 0 0, .slice none 0 0, .int .i64 0, .string ⟨#[]⟩, .slice none 0 0, .int .i64 0, .string ⟨#[]⟩, .int .i64 0, .bool false] 33) := ⟨_, rfl⟩
          have s4 := HS3.out.out #[.int .i64 0, .int .i64 0, .string ⟨#[]⟩, .slice none 0 0, .slice none 0 0, .int .i64 0, .string ⟨#[]⟩, .slice none 0 0, .int .i64 0, .string ⟨#[]⟩, .int .i64 0, .bool false]
          rw [← hW4z] at s4
          replace hW4z := hW4z.symm
          obtain ⟨q, hq⟩ : ∃ q, W3.heap.size = q := ⟨_, rfl⟩
          rw [hq] at s4
          have HS4z := Lib.hid s4
          have nz0 := HS4z.out.ho.cell 0
          have nz1 := HS4z.out.ho.cell 1
          have nz2 := HS4z.out.ho.cell 2
          have nz3 := HS4z.out.ho.cell 3
          have nz4 := HS4z.out.ho.cell 4
          have nz5 := HS4z.out.ho.cell 5
          have nz6 := HS4z.out.ho.cell 6
          have nz7 := HS4z.out.ho.cell 7
          have nz8 := HS4z.out.ho.cell 8
          have nz9 := HS4z.out.ho.cell 9
          have nz10 := HS4z.out.ho.cell 10
          have nz11 := HS4z.out.ho.cell 11
          have nzf0 := HS4z.out.ho.free 0
          have nzf1 := HS4z.out.ho.free 1
          have nzf2 := HS4z.out.ho.free 2
          have nzf3 := HS4z.out.ho.free 3
          have nzf4 := HS4z.out.ho.free 4
          have nzf5 := HS4z.out.ho.free 5
          have nzf6 := HS4z.out.ho.free 6
          have nzf7 := HS4z.out.ho.free 7
          have nzf8 := HS4z.out.ho.free 8
          have nzf9 := HS4z.out.ho.free 9
          have nzf10 := HS4z.out.ho.free 10
          have nzf11 := HS4z.out.ho.free 11
          simp only [List.getElem?_toArray, List.getElem?_cons_zero, List.getElem?_cons_succ] at nz0 nz1 nz2 nz3 nz4 nz5 nz6 nz7 nz8 nz9 nz10 nz11
          obtain ⟨W4, hW4⟩ : ∃ W, put12 W4z q (.int .i64 k) (.int .i64 0) (.string ⟨#[]⟩) (.slice none 0 0) (.slice none 0 0) (.int .i64 0) (.string ⟨#[]⟩) (.slice none 0 0) (.int .i64 0) (.string ⟨#[]⟩) (.int .i64 0) (.bool false) = W := ⟨_, rfl⟩
          have s4b := s4.put12 (.int .i64 k) (.int .i64 0) (.string ⟨#[]⟩) (.slice none 0 0) (.slice none 0 0) (.int .i64 0) (.string ⟨#[]⟩) (.slice none 0 0) (.int .i64 0) (.string ⟨#[]⟩) (.int .i64 0) (.bool false)
          rw [hW4] at s4b
          have HS4 : Hid (Sv w W4 g q _ _ _ #[.int .i64 k, .int .i64 0, .string ⟨#[]⟩, .slice none 0 0, .slice none 0 0, .int .i64 0, .string ⟨#[]⟩, .slice none 0 0, .int .i64 0, .string ⟨#[]⟩, .int .i64 0, .bool false]) := s4b
          have hW4' : ((((((((((((W4z.setCell ⟨q, 0, none⟩ (.int .i64 k)).setCell ⟨q, 1, none⟩ (.int .i64 0)).setCell ⟨q, 2, none⟩ (.string ⟨#[]⟩)).setCell ⟨q, 3, none⟩ (.slice none 0 0)).setCell ⟨q, 4, none⟩ (.slice none 0 0)).setCell ⟨q, 5, none⟩ (.int .i64 0)).setCell ⟨q, 6, none⟩ (.string ⟨#[]⟩)).setCell ⟨q, 7, none⟩ (.slice none 0 0)).setCell ⟨q, 8, none⟩ (.int .i64 0)).setCell ⟨q, 9, none⟩ (.string ⟨#[]⟩)).setCell ⟨q, 10, none⟩ (.int .i64 0)).setCell ⟨q, 11, none⟩ (.bool false)) = W4 := hW4
          clear s4 s4b hW4
          have hlo := HS4.out.lo
          have e0 := HS3.out.he.cell 0
          have ef0 := HS3.out.he.free 0
          simp only [List.getElem?_toArray, List.getElem?_cons_zero, List.getElem?_cons_succ] at e0
          have a0 := HS4.out.he.cell 0
          have a1 := HS4.out.he.cell 1
          have a2 := HS4.out.he.cell 2
          have af0 := HS4.out.he.free 0
          have af1 := HS4.out.he.free 1
          have af2 := HS4.out.he.free 2
          simp only [List.getElem?_toArray, List.getElem?_cons_zero, List.getElem?_cons_succ] at a0 a1 a2
          have b1 := HS4.out.ho.cell 1
          have bf1 := HS4.out.ho.free 1
          simp only [List.getElem?_toArray, List.getElem?_cons_zero, List.getElem?_cons_succ] at b1
          obtain ⟨W5, hW5⟩ : ∃ W, W = (W4.setCell ⟨q, 1, none⟩ (.int .i64 m)) := ⟨_, rfl⟩
          have HS5 : Hid (Sv w W5 g q #[.int .i64 k, .int .i64 m, .string t, .slice Ab nb zb, .slice Aa na za, .int .i64 ck, .string ct, .slice A n c, .int .i64 K, .string cn, .int .i64 cq, .bool cb] (.slice none 0 0) (.int .i64 0) #[.int .i64 k, .int .i64 m, .string ⟨#[]⟩, .slice none 0 0, .slice none 0 0, .int .i64 0, .string ⟨#[]⟩, .slice none 0 0, .int .i64 0, .string ⟨#[]⟩, .int .i64 0, .bool false]) := by rw [hW5]; exact (HS4.out.put 1 (.int .i64 m))
          replace hW5 := hW5.symm
          have c1 := HS5.out.ho.cell 1
          have cf1 := HS5.out.ho.free 1
          simp only [List.getElem?_toArray, List.getElem?_cons_zero, List.getElem?_cons_succ] at c1
          by_cases hm0 : m < 0
          · obtain ⟨W7, hW7⟩ : ∃ W, W = (W5.setCell ⟨q, 1, none⟩ (.int .i64 (-(m + 1)))) := ⟨_, rfl⟩
            have HS7 : Hid (Sv w W7 g q #[.int .i64 k, .int .i64 m, .string t, .slice Ab nb zb, .slice Aa na za, .int .i64 ck, .string ct, .slice A n c, .int .i64 K, .string cn, .int .i64 cq, .bool cb] (.slice none 0 0) (.int .i64 0) #[.int .i64 k, .int .i64 (-(m + 1)), .string ⟨#[]⟩, .slice none 0 0, .slice none 0 0, .int .i64 0, .string ⟨#[]⟩, .slice none 0 0, .int .i64 0, .string ⟨#[]⟩, .int .i64 0, .bool false]) := by rw [hW7]; exact (HS5.out.put 1 (.int .i64 (-(m + 1))))
            replace hW7 := hW7.symm
            have u0 := HS7.out.ho.cell 0
            have u1 := HS7.out.ho.cell 1
            have u2 := HS7.out.ho.cell 2
            have u3 := HS7.out.ho.cell 3
            have u4 := HS7.out.ho.cell 4
            have u5 := HS7.out.ho.cell 5
            have u6 := HS7.out.ho.cell 6
            have u7 := HS7.out.ho.cell 7
            have u8 := HS7.out.ho.cell 8
            have u9 := HS7.out.ho.cell 9
            have u10 := HS7.out.ho.cell 10
            have u11 := HS7.out.ho.cell 11
            have uf0 := HS7.out.ho.free 0
            have uf1 := HS7.out.ho.free 1
            have uf2 := HS7.out.ho.free 2
            have uf3 := HS7.out.ho.free 3
            have uf4 := HS7.out.ho.free 4
            have uf5 := HS7.out.ho.free 5
            have uf6 := HS7.out.ho.free 6
            have uf7 := HS7.out.ho.free 7
            have uf8 := HS7.out.ho.free 8
            have uf9 := HS7.out.ho.free 9
            have uf10 := HS7.out.ho.free 10
            have uf11 := HS7.out.ho.free 11
            simp only [List.getElem?_toArray, List.getElem?_cons_zero, List.getElem?_cons_succ] at u0 u1 u2 u3 u4 u5 u6 u7 u8 u9 u10 u11
            have v0 := HS7.out.hr.cell 0
            have v1 := HS7.out.hr.cell 1
            have v2 := HS7.out.hr.cell 2
            have v3 := HS7.out.hr.cell 3
            have v4 := HS7.out.hr.cell 4
            have v5 := HS7.out.hr.cell 5
            have v6 := HS7.out.hr.cell 6
            have v7 := HS7.out.hr.cell 7
            have v8 := HS7.out.hr.cell 8
            have v9 := HS7.out.hr.cell 9
            have v10 := HS7.out.hr.cell 10
            have v11 := HS7.out.hr.cell 11
            have vf0 := HS7.out.hr.free 0
            have vf1 := HS7.out.hr.free 1
            have vf2 := HS7.out.hr.free 2
            have vf3 := HS7.out.hr.free 3
            have vf4 := HS7.out.hr.free 4
            have vf5 := HS7.out.hr.free 5
            have vf6 := HS7.out.hr.free 6
            have vf7 := HS7.out.hr.free 7
            have vf8 := HS7.out.hr.free 8
            have vf9 := HS7.out.hr.free 9
            have vf10 := HS7.out.hr.free 10
            have vf11 := HS7.out.hr.free 11
            simp only [List.getElem?_toArray, List.getElem?_cons_zero, List.getElem?_cons_succ] at v0 v1 v2 v3 v4 v5 v6 v7 v8 v9 v10 v11
            go_wp2_with fail
            have HF : Hid (Has (put12 W7 (w.heap.size + 1) (.int .i64 k) (.int .i64 (-(m + 1))) (.string ⟨#[]⟩) (.slice none 0 0) (.slice none 0 0) (.int .i64 0) (.string ⟨#[]⟩) (.slice none 0 0) (.int .i64 0) (.string ⟨#[]⟩) (.int .i64 0) (.bool false)) (w.heap.size + 1) 33 #[.int .i64 k, .int .i64 (-(m + 1)), .string ⟨#[]⟩, .slice none 0 0, .slice none 0 0, .int .i64 0, .string ⟨#[]⟩, .slice none 0 0, .int .i64 0, .string ⟨#[]⟩, .int .i64 0, .bool false]) := put12_has HS7.out.hr (.int .i64 k) (.int .i64 (-(m + 1))) (.string ⟨#[]⟩) (.slice none 0 0) (.slice none 0 0) (.int .i64 0) (.string ⟨#[]⟩) (.slice none 0 0) (.int .i64 0) (.string ⟨#[]⟩) (.int .i64 0) (.bool false)
            have ht : Tur [w.heap.size + 1] W7 (put12 W7 (w.heap.size + 1) (.int .i64 k) (.int .i64 (-(m + 1))) (.string ⟨#[]⟩) (.slice none 0 0) (.slice none 0 0) (.int .i64 0) (.string ⟨#[]⟩) (.slice none 0 0) (.int .i64 0) (.string ⟨#[]⟩) (.int .i64 0) (.bool false)) := put12_tur _ _ (.int .i64 k) (.int .i64 (-(m + 1))) (.string ⟨#[]⟩) (.slice none 0 0) (.slice none 0 0) (.int .i64 0) (.string ⟨#[]⟩) (.slice none 0 0) (.int .i64 0) (.string ⟨#[]⟩) (.int .i64 0) (.bool false)
            have hbe : Below w.heap.size w (put12 W7 (w.heap.size + 1) (.int .i64 k) (.int .i64 (-(m + 1))) (.string ⟨#[]⟩) (.slice none 0 0) (.slice none 0 0) (.int .i64 0) (.string ⟨#[]⟩) (.slice none 0 0) (.int .i64 0) (.string ⟨#[]⟩) (.int .i64 0) (.bool false)) := (Tur.of_below (X := [w.heap.size + 1]) HS7.out.bel).trans ht (Fre.refl _ _) |>.below (B := w.heap.size) (fun k hk => by simp at hk; omega) (Nat.le_refl _)
            refine bodyPost_ret (v := .agg #[.int .i64 k, .int .i64 (-(m + 1)), .string ⟨#[]⟩, .slice none 0 0, .slice none 0 0, .int .i64 0, .string ⟨#[]⟩, .slice none 0 0, .int .i64 0, .string ⟨#[]⟩, .int .i64 0, .bool false]) (evEnd (put12 W7 (w.heap.size + 1) (.int .i64 k) (.int .i64 (-(m + 1))) (.string ⟨#[]⟩) (.slice none 0 0) (.slice none 0 0) (.int .i64 0) (.string ⟨#[]⟩) (.slice none 0 0) (.int .i64 0) (.string ⟨#[]⟩) (.int .i64 0) (.bool false)) (w.heap.size + 1) (.int .i64 k) (.int .i64 (-(m + 1))) (.string ⟨#[]⟩) (.slice none 0 0) (.slice none 0 0) (.int .i64 0) (.string ⟨#[]⟩) (.slice none 0 0) (.int .i64 0) (.string ⟨#[]⟩) (.int .i64 0) (.bool false) _ rfl HF.out) rfl ?_
            exact ⟨⟨k, -(m + 1), ⟨#[]⟩, [], [], 0, ⟨#[]⟩, [], 0, ⟨⟨#[]⟩, 0, false⟩⟩, none, 0, 0, none, 0, 0, none, 0, 0, rfl, evw_row k (-(m + 1)) ⟨#[]⟩ [] [] none 0 0 none 0 0 (nilB _) (nilB _) (by omega) (by omega), hbe⟩
          · have u0 := HS5.out.ho.cell 0
            have u1 := HS5.out.ho.cell 1
            have u2 := HS5.out.ho.cell 2
            have u3 := HS5.out.ho.cell 3
            have u4 := HS5.out.ho.cell 4
            have u5 := HS5.out.ho.cell 5
            have u6 := HS5.out.ho.cell 6
            have u7 := HS5.out.ho.cell 7
            have u8 := HS5.out.ho.cell 8
            have u9 := HS5.out.ho.cell 9
            have u10 := HS5.out.ho.cell 10
            have u11 := HS5.out.ho.cell 11
            have uf0 := HS5.out.ho.free 0
            have uf1 := HS5.out.ho.free 1
            have uf2 := HS5.out.ho.free 2
            have uf3 := HS5.out.ho.free 3
            have uf4 := HS5.out.ho.free 4
            have uf5 := HS5.out.ho.free 5
            have uf6 := HS5.out.ho.free 6
            have uf7 := HS5.out.ho.free 7
            have uf8 := HS5.out.ho.free 8
            have uf9 := HS5.out.ho.free 9
            have uf10 := HS5.out.ho.free 10
            have uf11 := HS5.out.ho.free 11
            simp only [List.getElem?_toArray, List.getElem?_cons_zero, List.getElem?_cons_succ] at u0 u1 u2 u3 u4 u5 u6 u7 u8 u9 u10 u11
            have v0 := HS5.out.hr.cell 0
            have v1 := HS5.out.hr.cell 1
            have v2 := HS5.out.hr.cell 2
            have v3 := HS5.out.hr.cell 3
            have v4 := HS5.out.hr.cell 4
            have v5 := HS5.out.hr.cell 5
            have v6 := HS5.out.hr.cell 6
            have v7 := HS5.out.hr.cell 7
            have v8 := HS5.out.hr.cell 8
            have v9 := HS5.out.hr.cell 9
            have v10 := HS5.out.hr.cell 10
            have v11 := HS5.out.hr.cell 11
            have vf0 := HS5.out.hr.free 0
            have vf1 := HS5.out.hr.free 1
            have vf2 := HS5.out.hr.free 2
            have vf3 := HS5.out.hr.free 3
            have vf4 := HS5.out.hr.free 4
            have vf5 := HS5.out.hr.free 5
            have vf6 := HS5.out.hr.free 6
            have vf7 := HS5.out.hr.free 7
            have vf8 := HS5.out.hr.free 8
            have vf9 := HS5.out.hr.free 9
            have vf10 := HS5.out.hr.free 10
            have vf11 := HS5.out.hr.free 11
            simp only [List.getElem?_toArray, List.getElem?_cons_zero, List.getElem?_cons_succ] at v0 v1 v2 v3 v4 v5 v6 v7 v8 v9 v10 v11
            go_wp2_with fail
            have HF : Hid (Has (put12 W5 (w.heap.size + 1) (.int .i64 k) (.int .i64 m) (.string ⟨#[]⟩) (.slice none 0 0) (.slice none 0 0) (.int .i64 0) (.string ⟨#[]⟩) (.slice none 0 0) (.int .i64 0) (.string ⟨#[]⟩) (.int .i64 0) (.bool false)) (w.heap.size + 1) 33 #[.int .i64 k, .int .i64 m, .string ⟨#[]⟩, .slice none 0 0, .slice none 0 0, .int .i64 0, .string ⟨#[]⟩, .slice none 0 0, .int .i64 0, .string ⟨#[]⟩, .int .i64 0, .bool false]) := put12_has HS5.out.hr (.int .i64 k) (.int .i64 m) (.string ⟨#[]⟩) (.slice none 0 0) (.slice none 0 0) (.int .i64 0) (.string ⟨#[]⟩) (.slice none 0 0) (.int .i64 0) (.string ⟨#[]⟩) (.int .i64 0) (.bool false)
            have ht : Tur [w.heap.size + 1] W5 (put12 W5 (w.heap.size + 1) (.int .i64 k) (.int .i64 m) (.string ⟨#[]⟩) (.slice none 0 0) (.slice none 0 0) (.int .i64 0) (.string ⟨#[]⟩) (.slice none 0 0) (.int .i64 0) (.string ⟨#[]⟩) (.int .i64 0) (.bool false)) := put12_tur _ _ (.int .i64 k) (.int .i64 m) (.string ⟨#[]⟩) (.slice none 0 0) (.slice none 0 0) (.int .i64 0) (.string ⟨#[]⟩) (.slice none 0 0) (.int .i64 0) (.string ⟨#[]⟩) (.int .i64 0) (.bool false)
            have hbe : Below w.heap.size w (put12 W5 (w.heap.size + 1) (.int .i64 k) (.int .i64 m) (.string ⟨#[]⟩) (.slice none 0 0) (.slice none 0 0) (.int .i64 0) (.string ⟨#[]⟩) (.slice none 0 0) (.int .i64 0) (.string ⟨#[]⟩) (.int .i64 0) (.bool false)) := (Tur.of_below (X := [w.heap.size + 1]) HS5.out.bel).trans ht (Fre.refl _ _) |>.below (B := w.heap.size) (fun k hk => by simp at hk; omega) (Nat.le_refl _)
            refine bodyPost_ret (v := .agg #[.int .i64 k, .int .i64 m, .string ⟨#[]⟩, .slice none 0 0, .slice none 0 0, .int .i64 0, .string ⟨#[]⟩, .slice none 0 0, .int .i64 0, .string ⟨#[]⟩, .int .i64 0, .bool false]) (evEnd (put12 W5 (w.heap.size + 1) (.int .i64 k) (.int .i64 m) (.string ⟨#[]⟩) (.slice none 0 0) (.slice none 0 0) (.int .i64 0) (.string ⟨#[]⟩) (.slice none 0 0) (.int .i64 0) (.string ⟨#[]⟩) (.int .i64 0) (.bool false)) (w.heap.size + 1) (.int .i64 k) (.int .i64 m) (.string ⟨#[]⟩) (.slice none 0 0) (.slice none 0 0) (.int .i64 0) (.string ⟨#[]⟩) (.slice none 0 0) (.int .i64 0) (.string ⟨#[]⟩) (.int .i64 0) (.bool false) _ rfl HF.out) rfl ?_
            exact ⟨⟨k, m, ⟨#[]⟩, [], [], 0, ⟨#[]⟩, [], 0, ⟨⟨#[]⟩, 0, false⟩⟩, none, 0, 0, none, 0, 0, none, 0, 0, rfl, evw_row k (m) ⟨#[]⟩ [] [] none 0 0 none 0 0 (nilB _) (nilB _) (by omega) (by omega), hbe⟩
      · have q3b : (3 : Int) ≤ k := by omega
        have q3c : ¬ k ≤ 5 := by omega
        go_enter Tryd.func8, Tryd.ntmps8
        go_wp2_with fail
        refine HFD.out.mono ?_
        rintro e w2 ⟨rfl, hb2⟩
        rw [tfV_no HTT.out.sort hp]
        by_cases hnt : 0 < nt
        · have g0 : (0 : Int) < (nt : Int) := by omega
          obtain ⟨W3z, hW3z⟩ : ∃ W, W = w2.alloc (.cells #[.slice none 0 0, .int .i64 0] 27) := ⟨_, rfl⟩
          have hsz2 : w.heap.size + 1 < w2.heap.size := Nat.lt_of_lt_of_le hsz1 hb2.out.size
          have HS3z : Hid (Su w W3z w2.heap.size #[.int .i64 k, .int .i64 m, .string t, .slice Ab nb zb, .slice Aa na za, .int .i64 ck, .string ct, .slice A n c, .int .i64 K, .string cn, .int .i64 cq, .bool cb] (.slice none 0 0) (.int .i64 0)) := by
            rw [hW3z]
            exact ⟨(HE1.out.below hb2.out HE1.out.lt).alloc _, (HR1.out.below hb2.out HR1.out.lt).alloc _, Has.new _ _ _, (HB1.out.trans (hb2.out.mono HB1.out.size)).alloc (HB1.out.trans (hb2.out.mono HB1.out.size)).size _, hsz2⟩
          replace hW3z := hW3z.symm
          obtain ⟨g, hg⟩ : ∃ g, w2.heap.size = g := ⟨_, rfl⟩
          rw [hg] at HS3z hsz2
          clear hb2 HFD HE1 HR1 HB1 u2 hw1
          have zz0 := HS3z.out.hs.cell 0
          have zz1 := HS3z.out.hs.cell 1
          have zzf0 := HS3z.out.hs.free 0
          have zzf1 := HS3z.out.hs.free 1
          simp only [List.getElem?_toArray, List.getElem?_cons_zero, List.getElem?_cons_succ] at zz0 zz1
          obtain ⟨W3, hW3⟩ : ∃ W, W = (W3z.setCell ⟨g, 0, none⟩ (.slice none 0 0)).setCell ⟨g, 1, none⟩ (.int .i64 0) := ⟨_, rfl⟩
          have HS3 : Hid (Su w W3 g #[.int .i64 k, .int .i64 m, .string t, .slice Ab nb zb, .slice Aa na za, .int .i64 ck, .string ct, .slice A n c, .int .i64 K, .string cn, .int .i64 cq, .bool cb] (.slice none 0 0) (.int .i64 0)) := by rw [hW3]; exact HS3z.out.puts _ _
          replace hW3 := hW3.symm
          have x_e0 := HS3.out.he.cell 0
          have x_ef0 := HS3.out.he.free 0
          simp only [List.getElem?_toArray, List.getElem?_cons_zero, List.getElem?_cons_succ] at x_e0
          obtain ⟨W4z, hW4z⟩ : ∃ W, W = W3.alloc (.cells #[.int .i64 0, .int .i64 0, .string ⟨#[]⟩, .slice none 0 0, .slice none 0 0, .int .i64 0, .string ⟨#[]⟩, .slice none 0 0, .int .i64 0, .string ⟨#[]⟩, .int .i64 0, .bool false] 33) := ⟨_, rfl⟩
          have s4 := HS3.out.out #[.int .i64 0, .int .i64 0, .string ⟨#[]⟩, .slice none 0 0, .slice none 0 0, .int .i64 0, .string ⟨#[]⟩, .slice none 0 0, .int .i64 0, .string ⟨#[]⟩, .int .i64 0, .bool false]
          rw [← hW4z] at s4
          replace hW4z := hW4z.symm
          obtain ⟨q, hq⟩ : ∃ q, W3.heap.size = q := ⟨_, rfl⟩
          rw [hq] at s4
          have HS4z := Lib.hid s4
          have nz0 := HS4z.out.ho.cell 0
          have nz1 := HS4z.out.ho.cell 1
          have nz2 := HS4z.out.ho.cell 2
          have nz3 := HS4z.out.ho.cell 3
          have nz4 := HS4z.out.ho.cell 4
          have nz5 := HS4z.out.ho.cell 5
          have nz6 := HS4z.out.ho.cell 6
          have nz7 := HS4z.out.ho.cell 7
          have nz8 := HS4z.out.ho.cell 8
          have nz9 := HS4z.out.ho.cell 9
          have nz10 := HS4z.out.ho.cell 10
          have nz11 := HS4z.out.ho.cell 11
          have nzf0 := HS4z.out.ho.free 0
          have nzf1 := HS4z.out.ho.free 1
          have nzf2 := HS4z.out.ho.free 2
          have nzf3 := HS4z.out.ho.free 3
          have nzf4 := HS4z.out.ho.free 4
          have nzf5 := HS4z.out.ho.free 5
          have nzf6 := HS4z.out.ho.free 6
          have nzf7 := HS4z.out.ho.free 7
          have nzf8 := HS4z.out.ho.free 8
          have nzf9 := HS4z.out.ho.free 9
          have nzf10 := HS4z.out.ho.free 10
          have nzf11 := HS4z.out.ho.free 11
          simp only [List.getElem?_toArray, List.getElem?_cons_zero, List.getElem?_cons_succ] at nz0 nz1 nz2 nz3 nz4 nz5 nz6 nz7 nz8 nz9 nz10 nz11
          obtain ⟨W4, hW4⟩ : ∃ W, put12 W4z q (.int .i64 k) (.int .i64 0) (.string ⟨#[]⟩) (.slice none 0 0) (.slice none 0 0) (.int .i64 0) (.string ⟨#[]⟩) (.slice none 0 0) (.int .i64 0) (.string ⟨#[]⟩) (.int .i64 0) (.bool false) = W := ⟨_, rfl⟩
          have s4b := s4.put12 (.int .i64 k) (.int .i64 0) (.string ⟨#[]⟩) (.slice none 0 0) (.slice none 0 0) (.int .i64 0) (.string ⟨#[]⟩) (.slice none 0 0) (.int .i64 0) (.string ⟨#[]⟩) (.int .i64 0) (.bool false)
          rw [hW4] at s4b
          have HS4 : Hid (Sv w W4 g q _ _ _ #[.int .i64 k, .int .i64 0, .string ⟨#[]⟩, .slice none 0 0, .slice none 0 0, .int .i64 0, .string ⟨#[]⟩, .slice none 0 0, .int .i64 0, .string ⟨#[]⟩, .int .i64 0, .bool false]) := s4b
          have hW4' : ((((((((((((W4z.setCell ⟨q, 0, none⟩ (.int .i64 k)).setCell ⟨q, 1, none⟩ (.int .i64 0)).setCell ⟨q, 2, none⟩ (.string ⟨#[]⟩)).setCell ⟨q, 3, none⟩ (.slice none 0 0)).setCell ⟨q, 4, none⟩ (.slice none 0 0)).setCell ⟨q, 5, none⟩ (.int .i64 0)).setCell ⟨q, 6, none⟩ (.string ⟨#[]⟩)).setCell ⟨q, 7, none⟩ (.slice none 0 0)).setCell ⟨q, 8, none⟩ (.int .i64 0)).setCell ⟨q, 9, none⟩ (.string ⟨#[]⟩)).setCell ⟨q, 10, none⟩ (.int .i64 0)).setCell ⟨q, 11, none⟩ (.bool false)) = W4 := hW4
          clear s4 s4b hW4
          have hlo := HS4.out.lo
          have e0 := HS3.out.he.cell 0
          have ef0 := HS3.out.he.free 0
          simp only [List.getElem?_toArray, List.getElem?_cons_zero, List.getElem?_cons_succ] at e0
          have a0 := HS4.out.he.cell 0
          have a1 := HS4.out.he.cell 1
          have a2 := HS4.out.he.cell 2
          have af0 := HS4.out.he.free 0
          have af1 := HS4.out.he.free 1
          have af2 := HS4.out.he.free 2
          simp only [List.getElem?_toArray, List.getElem?_cons_zero, List.getElem?_cons_succ] at a0 a1 a2
          have b1 := HS4.out.ho.cell 1
          have bf1 := HS4.out.ho.free 1
          simp only [List.getElem?_toArray, List.getElem?_cons_zero, List.getElem?_cons_succ] at b1
          obtain ⟨W5, hW5⟩ : ∃ W, W = (W4.setCell ⟨q, 1, none⟩ (.int .i64 m)) := ⟨_, rfl⟩
          have HS5 : Hid (Sv w W5 g q #[.int .i64 k, .int .i64 m, .string t, .slice Ab nb zb, .slice Aa na za, .int .i64 ck, .string ct, .slice A n c, .int .i64 K, .string cn, .int .i64 cq, .bool cb] (.slice none 0 0) (.int .i64 0) #[.int .i64 k, .int .i64 m, .string ⟨#[]⟩, .slice none 0 0, .slice none 0 0, .int .i64 0, .string ⟨#[]⟩, .slice none 0 0, .int .i64 0, .string ⟨#[]⟩, .int .i64 0, .bool false]) := by rw [hW5]; exact (HS4.out.put 1 (.int .i64 m))
          replace hW5 := hW5.symm
          have c1 := HS5.out.ho.cell 1
          have cf1 := HS5.out.ho.free 1
          simp only [List.getElem?_toArray, List.getElem?_cons_zero, List.getElem?_cons_succ] at c1
          by_cases hm0 : m < 0
          · obtain ⟨W7, hW7⟩ : ∃ W, W = (W5.setCell ⟨q, 1, none⟩ (.int .i64 (-(m + 1)))) := ⟨_, rfl⟩
            have HS7 : Hid (Sv w W7 g q #[.int .i64 k, .int .i64 m, .string t, .slice Ab nb zb, .slice Aa na za, .int .i64 ck, .string ct, .slice A n c, .int .i64 K, .string cn, .int .i64 cq, .bool cb] (.slice none 0 0) (.int .i64 0) #[.int .i64 k, .int .i64 (-(m + 1)), .string ⟨#[]⟩, .slice none 0 0, .slice none 0 0, .int .i64 0, .string ⟨#[]⟩, .slice none 0 0, .int .i64 0, .string ⟨#[]⟩, .int .i64 0, .bool false]) := by rw [hW7]; exact (HS5.out.put 1 (.int .i64 (-(m + 1))))
            replace hW7 := hW7.symm
            have u0 := HS7.out.ho.cell 0
            have u1 := HS7.out.ho.cell 1
            have u2 := HS7.out.ho.cell 2
            have u3 := HS7.out.ho.cell 3
            have u4 := HS7.out.ho.cell 4
            have u5 := HS7.out.ho.cell 5
            have u6 := HS7.out.ho.cell 6
            have u7 := HS7.out.ho.cell 7
            have u8 := HS7.out.ho.cell 8
            have u9 := HS7.out.ho.cell 9
            have u10 := HS7.out.ho.cell 10
            have u11 := HS7.out.ho.cell 11
            have uf0 := HS7.out.ho.free 0
            have uf1 := HS7.out.ho.free 1
            have uf2 := HS7.out.ho.free 2
            have uf3 := HS7.out.ho.free 3
            have uf4 := HS7.out.ho.free 4
            have uf5 := HS7.out.ho.free 5
            have uf6 := HS7.out.ho.free 6
            have uf7 := HS7.out.ho.free 7
            have uf8 := HS7.out.ho.free 8
            have uf9 := HS7.out.ho.free 9
            have uf10 := HS7.out.ho.free 10
            have uf11 := HS7.out.ho.free 11
            simp only [List.getElem?_toArray, List.getElem?_cons_zero, List.getElem?_cons_succ] at u0 u1 u2 u3 u4 u5 u6 u7 u8 u9 u10 u11
            have v0 := HS7.out.hr.cell 0
            have v1 := HS7.out.hr.cell 1
            have v2 := HS7.out.hr.cell 2
            have v3 := HS7.out.hr.cell 3
            have v4 := HS7.out.hr.cell 4
            have v5 := HS7.out.hr.cell 5
            have v6 := HS7.out.hr.cell 6
            have v7 := HS7.out.hr.cell 7
            have v8 := HS7.out.hr.cell 8
            have v9 := HS7.out.hr.cell 9
            have v10 := HS7.out.hr.cell 10
            have v11 := HS7.out.hr.cell 11
            have vf0 := HS7.out.hr.free 0
            have vf1 := HS7.out.hr.free 1
            have vf2 := HS7.out.hr.free 2
            have vf3 := HS7.out.hr.free 3
            have vf4 := HS7.out.hr.free 4
            have vf5 := HS7.out.hr.free 5
            have vf6 := HS7.out.hr.free 6
            have vf7 := HS7.out.hr.free 7
            have vf8 := HS7.out.hr.free 8
            have vf9 := HS7.out.hr.free 9
            have vf10 := HS7.out.hr.free 10
            have vf11 := HS7.out.hr.free 11
            simp only [List.getElem?_toArray, List.getElem?_cons_zero, List.getElem?_cons_succ] at v0 v1 v2 v3 v4 v5 v6 v7 v8 v9 v10 v11
            go_wp2_with fail
            have HF : Hid (Has (put12 W7 (w.heap.size + 1) (.int .i64 k) (.int .i64 (-(m + 1))) (.string ⟨#[]⟩) (.slice none 0 0) (.slice none 0 0) (.int .i64 0) (.string ⟨#[]⟩) (.slice none 0 0) (.int .i64 0) (.string ⟨#[]⟩) (.int .i64 0) (.bool false)) (w.heap.size + 1) 33 #[.int .i64 k, .int .i64 (-(m + 1)), .string ⟨#[]⟩, .slice none 0 0, .slice none 0 0, .int .i64 0, .string ⟨#[]⟩, .slice none 0 0, .int .i64 0, .string ⟨#[]⟩, .int .i64 0, .bool false]) := put12_has HS7.out.hr (.int .i64 k) (.int .i64 (-(m + 1))) (.string ⟨#[]⟩) (.slice none 0 0) (.slice none 0 0) (.int .i64 0) (.string ⟨#[]⟩) (.slice none 0 0) (.int .i64 0) (.string ⟨#[]⟩) (.int .i64 0) (.bool false)
            have ht : Tur [w.heap.size + 1] W7 (put12 W7 (w.heap.size + 1) (.int .i64 k) (.int .i64 (-(m + 1))) (.string ⟨#[]⟩) (.slice none 0 0) (.slice none 0 0) (.int .i64 0) (.string ⟨#[]⟩) (.slice none 0 0) (.int .i64 0) (.string ⟨#[]⟩) (.int .i64 0) (.bool false)) := put12_tur _ _ (.int .i64 k) (.int .i64 (-(m + 1))) (.string ⟨#[]⟩) (.slice none 0 0) (.slice none 0 0) (.int .i64 0) (.string ⟨#[]⟩) (.slice none 0 0) (.int .i64 0) (.string ⟨#[]⟩) (.int .i64 0) (.bool false)
            have hbe : Below w.heap.size w (put12 W7 (w.heap.size + 1) (.int .i64 k) (.int .i64 (-(m + 1))) (.string ⟨#[]⟩) (.slice none 0 0) (.slice none 0 0) (.int .i64 0) (.string ⟨#[]⟩) (.slice none 0 0) (.int .i64 0) (.string ⟨#[]⟩) (.int .i64 0) (.bool false)) := (Tur.of_below (X := [w.heap.size + 1]) HS7.out.bel).trans ht (Fre.refl _ _) |>.below (B := w.heap.size) (fun k hk => by simp at hk; omega) (Nat.le_refl _)
            refine bodyPost_ret (v := .agg #[.int .i64 k, .int .i64 (-(m + 1)), .string ⟨#[]⟩, .slice none 0 0, .slice none 0 0, .int .i64 0, .string ⟨#[]⟩, .slice none 0 0, .int .i64 0, .string ⟨#[]⟩, .int .i64 0, .bool false]) (evEnd (put12 W7 (w.heap.size + 1) (.int .i64 k) (.int .i64 (-(m + 1))) (.string ⟨#[]⟩) (.slice none 0 0) (.slice none 0 0) (.int .i64 0) (.string ⟨#[]⟩) (.slice none 0 0) (.int .i64 0) (.string ⟨#[]⟩) (.int .i64 0) (.bool false)) (w.heap.size + 1) (.int .i64 k) (.int .i64 (-(m + 1))) (.string ⟨#[]⟩) (.slice none 0 0) (.slice none 0 0) (.int .i64 0) (.string ⟨#[]⟩) (.slice none 0 0) (.int .i64 0) (.string ⟨#[]⟩) (.int .i64 0) (.bool false) _ rfl HF.out) rfl ?_
            exact ⟨⟨k, -(m + 1), ⟨#[]⟩, [], [], 0, ⟨#[]⟩, [], 0, ⟨⟨#[]⟩, 0, false⟩⟩, none, 0, 0, none, 0, 0, none, 0, 0, rfl, evw_row k (-(m + 1)) ⟨#[]⟩ [] [] none 0 0 none 0 0 (nilB _) (nilB _) (by omega) (by omega), hbe⟩
          · have u0 := HS5.out.ho.cell 0
            have u1 := HS5.out.ho.cell 1
            have u2 := HS5.out.ho.cell 2
            have u3 := HS5.out.ho.cell 3
            have u4 := HS5.out.ho.cell 4
            have u5 := HS5.out.ho.cell 5
            have u6 := HS5.out.ho.cell 6
            have u7 := HS5.out.ho.cell 7
            have u8 := HS5.out.ho.cell 8
            have u9 := HS5.out.ho.cell 9
            have u10 := HS5.out.ho.cell 10
            have u11 := HS5.out.ho.cell 11
            have uf0 := HS5.out.ho.free 0
            have uf1 := HS5.out.ho.free 1
            have uf2 := HS5.out.ho.free 2
            have uf3 := HS5.out.ho.free 3
            have uf4 := HS5.out.ho.free 4
            have uf5 := HS5.out.ho.free 5
            have uf6 := HS5.out.ho.free 6
            have uf7 := HS5.out.ho.free 7
            have uf8 := HS5.out.ho.free 8
            have uf9 := HS5.out.ho.free 9
            have uf10 := HS5.out.ho.free 10
            have uf11 := HS5.out.ho.free 11
            simp only [List.getElem?_toArray, List.getElem?_cons_zero, List.getElem?_cons_succ] at u0 u1 u2 u3 u4 u5 u6 u7 u8 u9 u10 u11
            have v0 := HS5.out.hr.cell 0
            have v1 := HS5.out.hr.cell 1
            have v2 := HS5.out.hr.cell 2
            have v3 := HS5.out.hr.cell 3
            have v4 := HS5.out.hr.cell 4
            have v5 := HS5.out.hr.cell 5
            have v6 := HS5.out.hr.cell 6
            have v7 := HS5.out.hr.cell 7
            have v8 := HS5.out.hr.cell 8
            have v9 := HS5.out.hr.cell 9
            have v10 := HS5.out.hr.cell 10
            have v11 := HS5.out.hr.cell 11
            have vf0 := HS5.out.hr.free 0
            have vf1 := HS5.out.hr.free 1
            have vf2 := HS5.out.hr.free 2
            have vf3 := HS5.out.hr.free 3
            have vf4 := HS5.out.hr.free 4
            have vf5 := HS5.out.hr.free 5
            have vf6 := HS5.out.hr.free 6
            have vf7 := HS5.out.hr.free 7
            have vf8 := HS5.out.hr.free 8
            have vf9 := HS5.out.hr.free 9
            have vf10 := HS5.out.hr.free 10
            have vf11 := HS5.out.hr.free 11
            simp only [List.getElem?_toArray, List.getElem?_cons_zero, List.getElem?_cons_succ] at v0 v1 v2 v3 v4 v5 v6 v7 v8 v9 v10 v11
            go_wp2_with fail
            have HF : Hid (Has (put12 W5 (w.heap.size + 1) (.int .i64 k) (.int .i64 m) (.string ⟨#[]⟩) (.slice none 0 0) (.slice none 0 0) (.int .i64 0) (.string ⟨#[]⟩) (.slice none 0 0) (.int .i64 0) (.string ⟨#[]⟩) (.int .i64 0) (.bool false)) (w.heap.size + 1) 33 #[.int .i64 k, .int .i64 m, .string ⟨#[]⟩, .slice none 0 0, .slice none 0 0, .int .i64 0, .string ⟨#[]⟩, .slice none 0 0, .int .i64 0, .string ⟨#[]⟩, .int .i64 0, .bool false]) := put12_has HS5.out.hr (.int .i64 k) (.int .i64 m) (.string ⟨#[]⟩) (.slice none 0 0) (.slice none 0 0) (.int .i64 0) (.string ⟨#[]⟩) (.slice none 0 0) (.int .i64 0) (.string ⟨#[]⟩) (.int .i64 0) (.bool false)
            have ht : Tur [w.heap.size + 1] W5 (put12 W5 (w.heap.size + 1) (.int .i64 k) (.int .i64 m) (.string ⟨#[]⟩) (.slice none 0 0) (.slice none 0 0) (.int .i64 0) (.string ⟨#[]⟩) (.slice none 0 0) (.int .i64 0) (.string ⟨#[]⟩) (.int .i64 0) (.bool false)) := put12_tur _ _ (.int .i64 k) (.int .i64 m) (.string ⟨#[]⟩) (.slice none 0 0) (.slice none 0 0) (.int .i64 0) (.string ⟨#[]⟩) (.slice none 0 0) (.int .i64 0) (.string ⟨#[]⟩) (.int .i64 0) (.bool false)
            have hbe : Below w.heap.size w (put12 W5 (w.heap.size + 1) (.int .i64 k) (.int .i64 m) (.string ⟨#[]⟩) (.slice none 0 0) (.slice none 0 0) (.int .i64 0) (.string ⟨#[]⟩) (.slice none 0 0) (.int .i64 0) (.string ⟨#[]⟩) (.int .i64 0) (.bool false)) := (Tur.of_below (X := [w.heap.size + 1]) HS5.out.bel).trans ht (Fre.refl _ _) |>.below (B := w.heap.size) (fun k hk => by simp at hk; omega) (Nat.le_refl _)
            refine bodyPost_ret (v := .agg #[.int .i64 k, .int .i64 m, .string ⟨#[]⟩, .slice none 0 0, .slice none 0 0, .int .i64 0, .string ⟨#[]⟩, .slice none 0 0, .int .i64 0, .string ⟨#[]⟩, .int .i64 0, .bool false]) (evEnd (put12 W5 (w.heap.size + 1) (.int .i64 k) (.int .i64 m) (.string ⟨#[]⟩) (.slice none 0 0) (.slice none 0 0) (.int .i64 0) (.string ⟨#[]⟩) (.slice none 0 0) (.int .i64 0) (.string ⟨#[]⟩) (.int .i64 0) (.bool false)) (w.heap.size + 1) (.int .i64 k) (.int .i64 m) (.string ⟨#[]⟩) (.slice none 0 0) (.slice none 0 0) (.int .i64 0) (.string ⟨#[]⟩) (.slice none 0 0) (.int .i64 0) (.string ⟨#[]⟩) (.int .i64 0) (.bool false) _ rfl HF.out) rfl ?_
            exact ⟨⟨k, m, ⟨#[]⟩, [], [], 0, ⟨#[]⟩, [], 0, ⟨⟨#[]⟩, 0, false⟩⟩, none, 0, 0, none, 0, 0, none, 0, 0, rfl, evw_row k (m) ⟨#[]⟩ [] [] none 0 0 none 0 0 (nilB _) (nilB _) (by omega) (by omega), hbe⟩
        · have g0 : ¬ (0 : Int) < (nt : Int) := by omega
          obtain ⟨W3z, hW3z⟩ : ∃ W, W = w2.alloc (.cells #[.slice none 0 0, .int .i64 0] 27) := ⟨_, rfl⟩
          have hsz2 : w.heap.size + 1 < w2.heap.size := Nat.lt_of_lt_of_le hsz1 hb2.out.size
          have HS3z : Hid (Su w W3z w2.heap.size #[.int .i64 k, .int .i64 m, .string t, .slice Ab nb zb, .slice Aa na za, .int .i64 ck, .string ct, .slice A n c, .int .i64 K, .string cn, .int .i64 cq, .bool cb] (.slice none 0 0) (.int .i64 0)) := by
            rw [hW3z]
            exact ⟨(HE1.out.below hb2.out HE1.out.lt).alloc _, (HR1.out.below hb2.out HR1.out.lt).alloc _, Has.new _ _ _, (HB1.out.trans (hb2.out.mono HB1.out.size)).alloc (HB1.out.trans (hb2.out.mono HB1.out.size)).size _, hsz2⟩
          replace hW3z := hW3z.symm
          obtain ⟨g, hg⟩ : ∃ g, w2.heap.size = g := ⟨_, rfl⟩
          rw [hg] at HS3z hsz2
          clear hb2 HFD HE1 HR1 HB1 u2 hw1
          have zz0 := HS3z.out.hs.cell 0
          have zz1 := HS3z.out.hs.cell 1
          have zzf0 := HS3z.out.hs.free 0
          have zzf1 := HS3z.out.hs.free 1
          simp only [List.getElem?_toArray, List.getElem?_cons_zero, List.getElem?_cons_succ] at zz0 zz1
          obtain ⟨W3, hW3⟩ : ∃ W, W = (W3z.setCell ⟨g, 0, none⟩ (.slice none 0 0)).setCell ⟨g, 1, none⟩ (.int .i64 0) := ⟨_, rfl⟩
          have HS3 : Hid (Su w W3 g #[.int .i64 k, .int .i64 m, .string t, .slice Ab nb zb, .slice Aa na za, .int .i64 ck, .string ct, .slice A n c, .int .i64 K, .string cn, .int .i64 cq, .bool cb] (.slice none 0 0) (.int .i64 0)) := by rw [hW3]; exact HS3z.out.puts _ _
          replace hW3 := hW3.symm
          have x_e0 := HS3.out.he.cell 0
          have x_ef0 := HS3.out.he.free 0
          simp only [List.getElem?_toArray, List.getElem?_cons_zero, List.getElem?_cons_succ] at x_e0
          obtain ⟨W4z, hW4z⟩ : ∃ W, W = W3.alloc (.cells #[.int .i64 0, .int .i64 0, .string ⟨#[]⟩, .slice none 0 0, .slice none 0 0, .int .i64 0, .string ⟨#[]⟩, .slice none 0 0, .int .i64 0, .string ⟨#[]⟩, .int .i64 0, .bool false] 33) := ⟨_, rfl⟩
          have s4 := HS3.out.out #[.int .i64 0, .int .i64 0, .string ⟨#[]⟩, .slice none 0 0, .slice none 0 0, .int .i64 0, .string ⟨#[]⟩, .slice none 0 0, .int .i64 0, .string ⟨#[]⟩, .int .i64 0, .bool false]
          rw [← hW4z] at s4
          replace hW4z := hW4z.symm
          obtain ⟨q, hq⟩ : ∃ q, W3.heap.size = q := ⟨_, rfl⟩
          rw [hq] at s4
          have HS4z := Lib.hid s4
          have nz0 := HS4z.out.ho.cell 0
          have nz1 := HS4z.out.ho.cell 1
          have nz2 := HS4z.out.ho.cell 2
          have nz3 := HS4z.out.ho.cell 3
          have nz4 := HS4z.out.ho.cell 4
          have nz5 := HS4z.out.ho.cell 5
          have nz6 := HS4z.out.ho.cell 6
          have nz7 := HS4z.out.ho.cell 7
          have nz8 := HS4z.out.ho.cell 8
          have nz9 := HS4z.out.ho.cell 9
          have nz10 := HS4z.out.ho.cell 10
          have nz11 := HS4z.out.ho.cell 11
          have nzf0 := HS4z.out.ho.free 0
          have nzf1 := HS4z.out.ho.free 1
          have nzf2 := HS4z.out.ho.free 2
          have nzf3 := HS4z.out.ho.free 3
          have nzf4 := HS4z.out.ho.free 4
          have nzf5 := HS4z.out.ho.free 5
          have nzf6 := HS4z.out.ho.free 6
          have nzf7 := HS4z.out.ho.free 7
          have nzf8 := HS4z.out.ho.free 8
          have nzf9 := HS4z.out.ho.free 9
          have nzf10 := HS4z.out.ho.free 10
          have nzf11 := HS4z.out.ho.free 11
          simp only [List.getElem?_toArray, List.getElem?_cons_zero, List.getElem?_cons_succ] at nz0 nz1 nz2 nz3 nz4 nz5 nz6 nz7 nz8 nz9 nz10 nz11
          obtain ⟨W4, hW4⟩ : ∃ W, put12 W4z q (.int .i64 k) (.int .i64 0) (.string ⟨#[]⟩) (.slice none 0 0) (.slice none 0 0) (.int .i64 0) (.string ⟨#[]⟩) (.slice none 0 0) (.int .i64 0) (.string ⟨#[]⟩) (.int .i64 0) (.bool false) = W := ⟨_, rfl⟩
          have s4b := s4.put12 (.int .i64 k) (.int .i64 0) (.string ⟨#[]⟩) (.slice none 0 0) (.slice none 0 0) (.int .i64 0) (.string ⟨#[]⟩) (.slice none 0 0) (.int .i64 0) (.string ⟨#[]⟩) (.int .i64 0) (.bool false)
          rw [hW4] at s4b
          have HS4 : Hid (Sv w W4 g q _ _ _ #[.int .i64 k, .int .i64 0, .string ⟨#[]⟩, .slice none 0 0, .slice none 0 0, .int .i64 0, .string ⟨#[]⟩, .slice none 0 0, .int .i64 0, .string ⟨#[]⟩, .int .i64 0, .bool false]) := s4b
          have hW4' : ((((((((((((W4z.setCell ⟨q, 0, none⟩ (.int .i64 k)).setCell ⟨q, 1, none⟩ (.int .i64 0)).setCell ⟨q, 2, none⟩ (.string ⟨#[]⟩)).setCell ⟨q, 3, none⟩ (.slice none 0 0)).setCell ⟨q, 4, none⟩ (.slice none 0 0)).setCell ⟨q, 5, none⟩ (.int .i64 0)).setCell ⟨q, 6, none⟩ (.string ⟨#[]⟩)).setCell ⟨q, 7, none⟩ (.slice none 0 0)).setCell ⟨q, 8, none⟩ (.int .i64 0)).setCell ⟨q, 9, none⟩ (.string ⟨#[]⟩)).setCell ⟨q, 10, none⟩ (.int .i64 0)).setCell ⟨q, 11, none⟩ (.bool false)) = W4 := hW4
          clear s4 s4b hW4
          have hlo := HS4.out.lo
          have e0 := HS3.out.he.cell 0
          have ef0 := HS3.out.he.free 0
          simp only [List.getElem?_toArray, List.getElem?_cons_zero, List.getElem?_cons_succ] at e0
          have a0 := HS4.out.he.cell 0
          have a1 := HS4.out.he.cell 1
          have a2 := HS4.out.he.cell 2
          have af0 := HS4.out.he.free 0
          have af1 := HS4.out.he.free 1
          have af2 := HS4.out.he.free 2
          simp only [List.getElem?_toArray, List.getElem?_cons_zero, List.getElem?_cons_succ] at a0 a1 a2
          have b1 := HS4.out.ho.cell 1
          have bf1 := HS4.out.ho.free 1
          simp only [List.getElem?_toArray, List.getElem?_cons_zero, List.getElem?_cons_succ] at b1
          obtain ⟨W5, hW5⟩ : ∃ W, W = (W4.setCell ⟨q, 1, none⟩ (.int .i64 m)) := ⟨_, rfl⟩
          have HS5 : Hid (Sv w W5 g q #[.int .i64 k, .int .i64 m, .string t, .slice Ab nb zb, .slice Aa na za, .int .i64 ck, .string ct, .slice A n c, .int .i64 K, .string cn, .int .i64 cq, .bool cb] (.slice none 0 0) (.int .i64 0) #[.int .i64 k, .int .i64 m, .string ⟨#[]⟩, .slice none 0 0, .slice none 0 0, .int .i64 0, .string ⟨#[]⟩, .slice none 0 0, .int .i64 0, .string ⟨#[]⟩, .int .i64 0, .bool false]) := by rw [hW5]; exact (HS4.out.put 1 (.int .i64 m))
          replace hW5 := hW5.symm
          have c1 := HS5.out.ho.cell 1
          have cf1 := HS5.out.ho.free 1
          simp only [List.getElem?_toArray, List.getElem?_cons_zero, List.getElem?_cons_succ] at c1
          by_cases hm0 : m < 0
          · obtain ⟨W7, hW7⟩ : ∃ W, W = (W5.setCell ⟨q, 1, none⟩ (.int .i64 (-(m + 1)))) := ⟨_, rfl⟩
            have HS7 : Hid (Sv w W7 g q #[.int .i64 k, .int .i64 m, .string t, .slice Ab nb zb, .slice Aa na za, .int .i64 ck, .string ct, .slice A n c, .int .i64 K, .string cn, .int .i64 cq, .bool cb] (.slice none 0 0) (.int .i64 0) #[.int .i64 k, .int .i64 (-(m + 1)), .string ⟨#[]⟩, .slice none 0 0, .slice none 0 0, .int .i64 0, .string ⟨#[]⟩, .slice none 0 0, .int .i64 0, .string ⟨#[]⟩, .int .i64 0, .bool false]) := by rw [hW7]; exact (HS5.out.put 1 (.int .i64 (-(m + 1))))
            replace hW7 := hW7.symm
            have u0 := HS7.out.ho.cell 0
            have u1 := HS7.out.ho.cell 1
            have u2 := HS7.out.ho.cell 2
            have u3 := HS7.out.ho.cell 3
            have u4 := HS7.out.ho.cell 4
            have u5 := HS7.out.ho.cell 5
            have u6 := HS7.out.ho.cell 6
            have u7 := HS7.out.ho.cell 7
            have u8 := HS7.out.ho.cell 8
            have u9 := HS7.out.ho.cell 9
            have u10 := HS7.out.ho.cell 10
            have u11 := HS7.out.ho.cell 11
            have uf0 := HS7.out.ho.free 0
            have uf1 := HS7.out.ho.free 1
            have uf2 := HS7.out.ho.free 2
            have uf3 := HS7.out.ho.free 3
            have uf4 := HS7.out.ho.free 4
            have uf5 := HS7.out.ho.free 5
            have uf6 := HS7.out.ho.free 6
            have uf7 := HS7.out.ho.free 7
            have uf8 := HS7.out.ho.free 8
            have uf9 := HS7.out.ho.free 9
            have uf10 := HS7.out.ho.free 10
            have uf11 := HS7.out.ho.free 11
            simp only [List.getElem?_toArray, List.getElem?_cons_zero, List.getElem?_cons_succ] at u0 u1 u2 u3 u4 u5 u6 u7 u8 u9 u10 u11
            have v0 := HS7.out.hr.cell 0
            have v1 := HS7.out.hr.cell 1
            have v2 := HS7.out.hr.cell 2
            have v3 := HS7.out.hr.cell 3
            have v4 := HS7.out.hr.cell 4
            have v5 := HS7.out.hr.cell 5
            have v6 := HS7.out.hr.cell 6
            have v7 := HS7.out.hr.cell 7
            have v8 := HS7.out.hr.cell 8
            have v9 := HS7.out.hr.cell 9
            have v10 := HS7.out.hr.cell 10
            have v11 := HS7.out.hr.cell 11
            have vf0 := HS7.out.hr.free 0
            have vf1 := HS7.out.hr.free 1
            have vf2 := HS7.out.hr.free 2
            have vf3 := HS7.out.hr.free 3
            have vf4 := HS7.out.hr.free 4
            have vf5 := HS7.out.hr.free 5
            have vf6 := HS7.out.hr.free 6
            have vf7 := HS7.out.hr.free 7
            have vf8 := HS7.out.hr.free 8
            have vf9 := HS7.out.hr.free 9
            have vf10 := HS7.out.hr.free 10
            have vf11 := HS7.out.hr.free 11
            simp only [List.getElem?_toArray, List.getElem?_cons_zero, List.getElem?_cons_succ] at v0 v1 v2 v3 v4 v5 v6 v7 v8 v9 v10 v11
            go_wp2_with fail
            have HF : Hid (Has (put12 W7 (w.heap.size + 1) (.int .i64 k) (.int .i64 (-(m + 1))) (.string ⟨#[]⟩) (.slice none 0 0) (.slice none 0 0) (.int .i64 0) (.string ⟨#[]⟩) (.slice none 0 0) (.int .i64 0) (.string ⟨#[]⟩) (.int .i64 0) (.bool false)) (w.heap.size + 1) 33 #[.int .i64 k, .int .i64 (-(m + 1)), .string ⟨#[]⟩, .slice none 0 0, .slice none 0 0, .int .i64 0, .string ⟨#[]⟩, .slice none 0 0, .int .i64 0, .string ⟨#[]⟩, .int .i64 0, .bool false]) := put12_has HS7.out.hr (.int .i64 k) (.int .i64 (-(m + 1))) (.string ⟨#[]⟩) (.slice none 0 0) (.slice none 0 0) (.int .i64 0) (.string ⟨#[]⟩) (.slice none 0 0) (.int .i64 0) (.string ⟨#[]⟩) (.int .i64 0) (.bool false)
            have ht : Tur [w.heap.size + 1] W7 (put12 W7 (w.heap.size + 1) (.int .i64 k) (.int .i64 (-(m + 1))) (.string ⟨#[]⟩) (.slice none 0 0) (.slice none 0 0) (.int .i64 0) (.string ⟨#[]⟩) (.slice none 0 0) (.int .i64 0) (.string ⟨#[]⟩) (.int .i64 0) (.bool false)) := put12_tur _ _ (.int .i64 k) (.int .i64 (-(m + 1))) (.string ⟨#[]⟩) (.slice none 0 0) (.slice none 0 0) (.int .i64 0) (.string ⟨#[]⟩) (.slice none 0 0) (.int .i64 0) (.string ⟨#[]⟩) (.int .i64 0) (.bool false)
            have hbe : Below w.heap.size w (put12 W7 (w.heap.size + 1) (.int .i64 k) (.int .i64 (-(m + 1))) (.string ⟨#[]⟩) (.slice none 0 0) (.slice none 0 0) (.int .i64 0) (.string ⟨#[]⟩) (.slice none 0 0) (.int .i64 0) (.string ⟨#[]⟩) (.int .i64 0) (.bool false)) := (Tur.of_below (X := [w.heap.size + 1]) HS7.out.bel).trans ht (Fre.refl _ _) |>.below (B := w.heap.size) (fun k hk => by simp at hk; omega) (Nat.le_refl _)
            refine bodyPost_ret (v := .agg #[.int .i64 k, .int .i64 (-(m + 1)), .string ⟨#[]⟩, .slice none 0 0, .slice none 0 0, .int .i64 0, .string ⟨#[]⟩, .slice none 0 0, .int .i64 0, .string ⟨#[]⟩, .int .i64 0, .bool false]) (evEnd (put12 W7 (w.heap.size + 1) (.int .i64 k) (.int .i64 (-(m + 1))) (.string ⟨#[]⟩) (.slice none 0 0) (.slice none 0 0) (.int .i64 0) (.string ⟨#[]⟩) (.slice none 0 0) (.int .i64 0) (.string ⟨#[]⟩) (.int .i64 0) (.bool false)) (w.heap.size + 1) (.int .i64 k) (.int .i64 (-(m + 1))) (.string ⟨#[]⟩) (.slice none 0 0) (.slice none 0 0) (.int .i64 0) (.string ⟨#[]⟩) (.slice none 0 0) (.int .i64 0) (.string ⟨#[]⟩) (.int .i64 0) (.bool false) _ rfl HF.out) rfl ?_
            exact ⟨⟨k, -(m + 1), ⟨#[]⟩, [], [], 0, ⟨#[]⟩, [], 0, ⟨⟨#[]⟩, 0, false⟩⟩, none, 0, 0, none, 0, 0, none, 0, 0, rfl, evw_row k (-(m + 1)) ⟨#[]⟩ [] [] none 0 0 none 0 0 (nilB _) (nilB _) (by omega) (by omega), hbe⟩
          · have u0 := HS5.out.ho.cell 0
            have u1 := HS5.out.ho.cell 1
            have u2 := HS5.out.ho.cell 2
            have u3 := HS5.out.ho.cell 3
            have u4 := HS5.out.ho.cell 4
            have u5 := HS5.out.ho.cell 5
            have u6 := HS5.out.ho.cell 6
            have u7 := HS5.out.ho.cell 7
            have u8 := HS5.out.ho.cell 8
            have u9 := HS5.out.ho.cell 9
            have u10 := HS5.out.ho.cell 10
            have u11 := HS5.out.ho.cell 11
            have uf0 := HS5.out.ho.free 0
            have uf1 := HS5.out.ho.free 1
            have uf2 := HS5.out.ho.free 2
            have uf3 := HS5.out.ho.free 3
            have uf4 := HS5.out.ho.free 4
            have uf5 := HS5.out.ho.free 5
            have uf6 := HS5.out.ho.free 6
            have uf7 := HS5.out.ho.free 7
            have uf8 := HS5.out.ho.free 8
            have uf9 := HS5.out.ho.free 9
            have uf10 := HS5.out.ho.free 10
            have uf11 := HS5.out.ho.free 11
            simp only [List.getElem?_toArray, List.getElem?_cons_zero, List.getElem?_cons_succ] at u0 u1 u2 u3 u4 u5 u6 u7 u8 u9 u10 u11
            have v0 := HS5.out.hr.cell 0
            have v1 := HS5.out.hr.cell 1
            have v2 := HS5.out.hr.cell 2
            have v3 := HS5.out.hr.cell 3
            have v4 := HS5.out.hr.cell 4
            have v5 := HS5.out.hr.cell 5
            have v6 := HS5.out.hr.cell 6
            have v7 := HS5.out.hr.cell 7
            have v8 := HS5.out.hr.cell 8
            have v9 := HS5.out.hr.cell 9
            have v10 := HS5.out.hr.cell 10
            have v11 := HS5.out.hr.cell 11
            have vf0 := HS5.out.hr.free 0
            have vf1 := HS5.out.hr.free 1
            have vf2 := HS5.out.hr.free 2
            have vf3 := HS5.out.hr.free 3
            have vf4 := HS5.out.hr.free 4
            have vf5 := HS5.out.hr.free 5
            have vf6 := HS5.out.hr.free 6
            have vf7 := HS5.out.hr.free 7
            have vf8 := HS5.out.hr.free 8
            have vf9 := HS5.out.hr.free 9
            have vf10 := HS5.out.hr.free 10
            have vf11 := HS5.out.hr.free 11
            simp only [List.getElem?_toArray, List.getElem?_cons_zero, List.getElem?_cons_succ] at v0 v1 v2 v3 v4 v5 v6 v7 v8 v9 v10 v11
            go_wp2_with fail
            have HF : Hid (Has (put12 W5 (w.heap.size + 1) (.int .i64 k) (.int .i64 m) (.string ⟨#[]⟩) (.slice none 0 0) (.slice none 0 0) (.int .i64 0) (.string ⟨#[]⟩) (.slice none 0 0) (.int .i64 0) (.string ⟨#[]⟩) (.int .i64 0) (.bool false)) (w.heap.size + 1) 33 #[.int .i64 k, .int .i64 m, .string ⟨#[]⟩, .slice none 0 0, .slice none 0 0, .int .i64 0, .string ⟨#[]⟩, .slice none 0 0, .int .i64 0, .string ⟨#[]⟩, .int .i64 0, .bool false]) := put12_has HS5.out.hr (.int .i64 k) (.int .i64 m) (.string ⟨#[]⟩) (.slice none 0 0) (.slice none 0 0) (.int .i64 0) (.string ⟨#[]⟩) (.slice none 0 0) (.int .i64 0) (.string ⟨#[]⟩) (.int .i64 0) (.bool false)
            have ht : Tur [w.heap.size + 1] W5 (put12 W5 (w.heap.size + 1) (.int .i64 k) (.int .i64 m) (.string ⟨#[]⟩) (.slice none 0 0) (.slice none 0 0) (.int .i64 0) (.string ⟨#[]⟩) (.slice none 0 0) (.int .i64 0) (.string ⟨#[]⟩) (.int .i64 0) (.bool false)) := put12_tur _ _ (.int .i64 k) (.int .i64 m) (.string ⟨#[]⟩) (.slice none 0 0) (.slice none 0 0) (.int .i64 0) (.string ⟨#[]⟩) (.slice none 0 0) (.int .i64 0) (.string ⟨#[]⟩) (.int .i64 0) (.bool false)
            have hbe : Below w.heap.size w (put12 W5 (w.heap.size + 1) (.int .i64 k) (.int .i64 m) (.string ⟨#[]⟩) (.slice none 0 0) (.slice none 0 0) (.int .i64 0) (.string ⟨#[]⟩) (.slice none 0 0) (.int .i64 0) (.string ⟨#[]⟩) (.int .i64 0) (.bool false)) := (Tur.of_below (X := [w.heap.size + 1]) HS5.out.bel).trans ht (Fre.refl _ _) |>.below (B := w.heap.size) (fun k hk => by simp at hk; omega) (Nat.le_refl _)
            refine bodyPost_ret (v := .agg #[.int .i64 k, .int .i64 m, .string ⟨#[]⟩, .slice none 0 0, .slice none 0 0, .int .i64 0, .string ⟨#[]⟩, .slice none 0 0, .int .i64 0, .string ⟨#[]⟩, .int .i64 0, .bool false]) (evEnd (put12 W5 (w.heap.size + 1) (.int .i64 k) (.int .i64 m) (.string ⟨#[]⟩) (.slice none 0 0) (.slice none 0 0) (.int .i64 0) (.string ⟨#[]⟩) (.slice none 0 0) (.int .i64 0) (.string ⟨#[]⟩) (.int .i64 0) (.bool false)) (w.heap.size + 1) (.int .i64 k) (.int .i64 m) (.string ⟨#[]⟩) (.slice none 0 0) (.slice none 0 0) (.int .i64 0) (.string ⟨#[]⟩) (.slice none 0 0) (.int .i64 0) (.string ⟨#[]⟩) (.int .i64 0) (.bool false) _ rfl HF.out) rfl ?_
            exact ⟨⟨k, m, ⟨#[]⟩, [], [], 0, ⟨#[]⟩, [], 0, ⟨⟨#[]⟩, 0, false⟩⟩, none, 0, 0, none, 0, 0, none, 0, 0, rfl, evw_row k (m) ⟨#[]⟩ [] [] none 0 0 none 0 0 (nilB _) (nilB _) (by omega) (by omega), hbe⟩
    · obtain ⟨hl, _⟩ := plF_tat hp
      go_enter Tryd.func8, Tryd.ntmps8
      go_wp2_with fail
      refine HFD.out.mono ?_
      rintro e w2 ⟨rfl, hb2⟩
      rw [tfV_yes hp hl]
      obtain ⟨y, hy⟩ : ∃ y, T[lbN T t] = y := ⟨_, rfl⟩
      have hyT : y ∈ T := hy ▸ List.getElem_mem hl
      rw [hy]
      clear hy
      obtain ⟨kk, hK, hgs⟩ := HGS.out y hyT
      have hok := HTT.out.ok y hyT
      obtain ⟨ynm, yA, yn, yc, yL, yK⟩ := y
      dsimp only at hK hgs hok ⊢
      subst hK
      obtain ⟨W3, hW3⟩ : ∃ W, W = w2.alloc (.cells #[.slice yA yn yc, .int .i64 (kk : Int)] 27) := ⟨_, rfl⟩
      have hsz2 : w.heap.size + 1 < w2.heap.size := Nat.lt_of_lt_of_le hsz1 hb2.out.size
      have HS3 : Hid (Su w W3 w2.heap.size #[.int .i64 k, .int .i64 m, .string t, .slice Ab nb zb, .slice Aa na za, .int .i64 ck, .string ct, .slice A n c, .int .i64 K, .string cn, .int .i64 cq, .bool cb] (.slice yA yn yc) (.int .i64 (kk : Int))) := by
        rw [hW3]
        exact ⟨(HE1.out.below hb2.out HE1.out.lt).alloc _, (HR1.out.below hb2.out HR1.out.lt).alloc _, Has.new _ _ _, (HB1.out.trans (hb2.out.mono HB1.out.size)).alloc (HB1.out.trans (hb2.out.mono HB1.out.size)).size _, hsz2⟩
      replace hW3 := hW3.symm
      obtain ⟨g, hg⟩ : ∃ g, w2.heap.size = g := ⟨_, rfl⟩
      rw [hg] at HS3 hsz2
      clear hb2 HFD HE1 HR1 HB1 u2 hw1
      obtain ⟨W4z, hW4z⟩ : ∃ W, W = W3.alloc (.cells #[.int .i64 0, .int .i64 0, .string ⟨#[]⟩, .slice none 0 0, .slice none 0 0, .int .i64 0, .string ⟨#[]⟩, .slice none 0 0, .int .i64 0, .string ⟨#[]⟩, .int .i64 0, .bool false] 33) := ⟨_, rfl⟩
      have s4 := HS3.out.out #[.int .i64 0, .int .i64 0, .string ⟨#[]⟩, .slice none 0 0, .slice none 0 0, .int .i64 0, .string ⟨#[]⟩, .slice none 0 0, .int .i64 0, .string ⟨#[]⟩, .int .i64 0, .bool false]
      rw [← hW4z] at s4
      replace hW4z := hW4z.symm
      obtain ⟨q, hq⟩ : ∃ q, W3.heap.size = q := ⟨_, rfl⟩
      rw [hq] at s4
      have HS4z := Lib.hid s4
      have nz0 := HS4z.out.ho.cell 0
      have nz1 := HS4z.out.ho.cell 1
      have nz2 := HS4z.out.ho.cell 2
      have nz3 := HS4z.out.ho.cell 3
      have nz4 := HS4z.out.ho.cell 4
      have nz5 := HS4z.out.ho.cell 5
      have nz6 := HS4z.out.ho.cell 6
      have nz7 := HS4z.out.ho.cell 7
      have nz8 := HS4z.out.ho.cell 8
      have nz9 := HS4z.out.ho.cell 9
      have nz10 := HS4z.out.ho.cell 10
      have nz11 := HS4z.out.ho.cell 11
      have nzf0 := HS4z.out.ho.free 0
      have nzf1 := HS4z.out.ho.free 1
      have nzf2 := HS4z.out.ho.free 2
      have nzf3 := HS4z.out.ho.free 3
      have nzf4 := HS4z.out.ho.free 4
      have nzf5 := HS4z.out.ho.free 5
      have nzf6 := HS4z.out.ho.free 6
      have nzf7 := HS4z.out.ho.free 7
      have nzf8 := HS4z.out.ho.free 8
      have nzf9 := HS4z.out.ho.free 9
      have nzf10 := HS4z.out.ho.free 10
      have nzf11 := HS4z.out.ho.free 11
      simp only [List.getElem?_toArray, List.getElem?_cons_zero, List.getElem?_cons_succ] at nz0 nz1 nz2 nz3 nz4 nz5 nz6 nz7 nz8 nz9 nz10 nz11
      obtain ⟨W4, hW4⟩ : ∃ W, put12 W4z q (.int .i64 k) (.int .i64 0) (.string ⟨#[]⟩) (.slice none 0 0) (.slice none 0 0) (.int .i64 0) (.string ⟨#[]⟩) (.slice none 0 0) (.int .i64 0) (.string ⟨#[]⟩) (.int .i64 0) (.bool false) = W := ⟨_, rfl⟩
      have s4b := s4.put12 (.int .i64 k) (.int .i64 0) (.string ⟨#[]⟩) (.slice none 0 0) (.slice none 0 0) (.int .i64 0) (.string ⟨#[]⟩) (.slice none 0 0) (.int .i64 0) (.string ⟨#[]⟩) (.int .i64 0) (.bool false)
      rw [hW4] at s4b
      have HS4 : Hid (Sv w W4 g q _ _ _ #[.int .i64 k, .int .i64 0, .string ⟨#[]⟩, .slice none 0 0, .slice none 0 0, .int .i64 0, .string ⟨#[]⟩, .slice none 0 0, .int .i64 0, .string ⟨#[]⟩, .int .i64 0, .bool false]) := s4b
      have hW4' : ((((((((((((W4z.setCell ⟨q, 0, none⟩ (.int .i64 k)).setCell ⟨q, 1, none⟩ (.int .i64 0)).setCell ⟨q, 2, none⟩ (.string ⟨#[]⟩)).setCell ⟨q, 3, none⟩ (.slice none 0 0)).setCell ⟨q, 4, none⟩ (.slice none 0 0)).setCell ⟨q, 5, none⟩ (.int .i64 0)).setCell ⟨q, 6, none⟩ (.string ⟨#[]⟩)).setCell ⟨q, 7, none⟩ (.slice none 0 0)).setCell ⟨q, 8, none⟩ (.int .i64 0)).setCell ⟨q, 9, none⟩ (.string ⟨#[]⟩)).setCell ⟨q, 10, none⟩ (.int .i64 0)).setCell ⟨q, 11, none⟩ (.bool false)) = W4 := hW4
      clear s4 s4b hW4
      have hlo := HS4.out.lo
      have e0 := HS3.out.he.cell 0
      have ef0 := HS3.out.he.free 0
      simp only [List.getElem?_toArray, List.getElem?_cons_zero, List.getElem?_cons_succ] at e0
      have a0 := HS4.out.he.cell 0
      have a1 := HS4.out.he.cell 1
      have a2 := HS4.out.he.cell 2
      have af0 := HS4.out.he.free 0
      have af1 := HS4.out.he.free 1
      have af2 := HS4.out.he.free 2
      simp only [List.getElem?_toArray, List.getElem?_cons_zero, List.getElem?_cons_succ] at a0 a1 a2
      have b1 := HS4.out.ho.cell 1
      have bf1 := HS4.out.ho.free 1
      simp only [List.getElem?_toArray, List.getElem?_cons_zero, List.getElem?_cons_succ] at b1
      obtain ⟨W5, hW5⟩ : ∃ W, W = (W4.setCell ⟨q, 1, none⟩ (.int .i64 m)) := ⟨_, rfl⟩
      have HS5 : Hid (Sv w W5 g q #[.int .i64 k, .int .i64 m, .string t, .slice Ab nb zb, .slice Aa na za, .int .i64 ck, .string ct, .slice A n c, .int .i64 K, .string cn, .int .i64 cq, .bool cb] (.slice yA yn yc) (.int .i64 (kk : Int)) #[.int .i64 k, .int .i64 m, .string ⟨#[]⟩, .slice none 0 0, .slice none 0 0, .int .i64 0, .string ⟨#[]⟩, .slice none 0 0, .int .i64 0, .string ⟨#[]⟩, .int .i64 0, .bool false]) := by rw [hW5]; exact (HS4.out.put 1 (.int .i64 m))
      replace hW5 := hW5.symm
      have c1 := HS5.out.ho.cell 1
      have cf1 := HS5.out.ho.free 1
      simp only [List.getElem?_toArray, List.getElem?_cons_zero, List.getElem?_cons_succ] at c1
      by_cases hm0 : m < 0
      · obtain ⟨W7, hW7⟩ : ∃ W, W = (W5.setCell ⟨q, 1, none⟩ (.int .i64 (-(m + 1)))) := ⟨_, rfl⟩
        have HS7 : Hid (Sv w W7 g q #[.int .i64 k, .int .i64 m, .string t, .slice Ab nb zb, .slice Aa na za, .int .i64 ck, .string ct, .slice A n c, .int .i64 K, .string cn, .int .i64 cq, .bool cb] (.slice yA yn yc) (.int .i64 (kk : Int)) #[.int .i64 k, .int .i64 (-(m + 1)), .string ⟨#[]⟩, .slice none 0 0, .slice none 0 0, .int .i64 0, .string ⟨#[]⟩, .slice none 0 0, .int .i64 0, .string ⟨#[]⟩, .int .i64 0, .bool false]) := by rw [hW7]; exact (HS5.out.put 1 (.int .i64 (-(m + 1))))
        replace hW7 := hW7.symm
        have u0 := HS7.out.ho.cell 0
        have u1 := HS7.out.ho.cell 1
        have u2 := HS7.out.ho.cell 2
        have u3 := HS7.out.ho.cell 3
        have u4 := HS7.out.ho.cell 4
        have u5 := HS7.out.ho.cell 5
        have u6 := HS7.out.ho.cell 6
        have u7 := HS7.out.ho.cell 7
        have u8 := HS7.out.ho.cell 8
        have u9 := HS7.out.ho.cell 9
        have u10 := HS7.out.ho.cell 10
        have u11 := HS7.out.ho.cell 11
        have uf0 := HS7.out.ho.free 0
        have uf1 := HS7.out.ho.free 1
        have uf2 := HS7.out.ho.free 2
        have uf3 := HS7.out.ho.free 3
        have uf4 := HS7.out.ho.free 4
        have uf5 := HS7.out.ho.free 5
        have uf6 := HS7.out.ho.free 6
        have uf7 := HS7.out.ho.free 7
        have uf8 := HS7.out.ho.free 8
        have uf9 := HS7.out.ho.free 9
        have uf10 := HS7.out.ho.free 10
        have uf11 := HS7.out.ho.free 11
        simp only [List.getElem?_toArray, List.getElem?_cons_zero, List.getElem?_cons_succ] at u0 u1 u2 u3 u4 u5 u6 u7 u8 u9 u10 u11
        have v0 := HS7.out.hr.cell 0
        have v1 := HS7.out.hr.cell 1
        have v2 := HS7.out.hr.cell 2
        have v3 := HS7.out.hr.cell 3
        have v4 := HS7.out.hr.cell 4
        have v5 := HS7.out.hr.cell 5
        have v6 := HS7.out.hr.cell 6
        have v7 := HS7.out.hr.cell 7
        have v8 := HS7.out.hr.cell 8
        have v9 := HS7.out.hr.cell 9
        have v10 := HS7.out.hr.cell 10
        have v11 := HS7.out.hr.cell 11
        have vf0 := HS7.out.hr.free 0
        have vf1 := HS7.out.hr.free 1
        have vf2 := HS7.out.hr.free 2
        have vf3 := HS7.out.hr.free 3
        have vf4 := HS7.out.hr.free 4
        have vf5 := HS7.out.hr.free 5
        have vf6 := HS7.out.hr.free 6
        have vf7 := HS7.out.hr.free 7
        have vf8 := HS7.out.hr.free 8
        have vf9 := HS7.out.hr.free 9
        have vf10 := HS7.out.hr.free 10
        have vf11 := HS7.out.hr.free 11
        simp only [List.getElem?_toArray, List.getElem?_cons_zero, List.getElem?_cons_succ] at v0 v1 v2 v3 v4 v5 v6 v7 v8 v9 v10 v11
        go_wp2_with fail
        have HF : Hid (Has (put12 W7 (w.heap.size + 1) (.int .i64 k) (.int .i64 (-(m + 1))) (.string ⟨#[]⟩) (.slice none 0 0) (.slice none 0 0) (.int .i64 0) (.string ⟨#[]⟩) (.slice none 0 0) (.int .i64 0) (.string ⟨#[]⟩) (.int .i64 0) (.bool false)) (w.heap.size + 1) 33 #[.int .i64 k, .int .i64 (-(m + 1)), .string ⟨#[]⟩, .slice none 0 0, .slice none 0 0, .int .i64 0, .string ⟨#[]⟩, .slice none 0 0, .int .i64 0, .string ⟨#[]⟩, .int .i64 0, .bool false]) := put12_has HS7.out.hr (.int .i64 k) (.int .i64 (-(m + 1))) (.string ⟨#[]⟩) (.slice none 0 0) (.slice none 0 0) (.int .i64 0) (.string ⟨#[]⟩) (.slice none 0 0) (.int .i64 0) (.string ⟨#[]⟩) (.int .i64 0) (.bool false)
        have ht : Tur [w.heap.size + 1] W7 (put12 W7 (w.heap.size + 1) (.int .i64 k) (.int .i64 (-(m + 1))) (.string ⟨#[]⟩) (.slice none 0 0) (.slice none 0 0) (.int .i64 0) (.string ⟨#[]⟩) (.slice none 0 0) (.int .i64 0) (.string ⟨#[]⟩) (.int .i64 0) (.bool false)) := put12_tur _ _ (.int .i64 k) (.int .i64 (-(m + 1))) (.string ⟨#[]⟩) (.slice none 0 0) (.slice none 0 0) (.int .i64 0) (.string ⟨#[]⟩) (.slice none 0 0) (.int .i64 0) (.string ⟨#[]⟩) (.int .i64 0) (.bool false)
        have hbe : Below w.heap.size w (put12 W7 (w.heap.size + 1) (.int .i64 k) (.int .i64 (-(m + 1))) (.string ⟨#[]⟩) (.slice none 0 0) (.slice none 0 0) (.int .i64 0) (.string ⟨#[]⟩) (.slice none 0 0) (.int .i64 0) (.string ⟨#[]⟩) (.int .i64 0) (.bool false)) := (Tur.of_below (X := [w.heap.size + 1]) HS7.out.bel).trans ht (Fre.refl _ _) |>.below (B := w.heap.size) (fun k hk => by simp at hk; omega) (Nat.le_refl _)
        refine bodyPost_ret (v := .agg #[.int .i64 k, .int .i64 (-(m + 1)), .string ⟨#[]⟩, .slice none 0 0, .slice none 0 0, .int .i64 0, .string ⟨#[]⟩, .slice none 0 0, .int .i64 0, .string ⟨#[]⟩, .int .i64 0, .bool false]) (evEnd (put12 W7 (w.heap.size + 1) (.int .i64 k) (.int .i64 (-(m + 1))) (.string ⟨#[]⟩) (.slice none 0 0) (.slice none 0 0) (.int .i64 0) (.string ⟨#[]⟩) (.slice none 0 0) (.int .i64 0) (.string ⟨#[]⟩) (.int .i64 0) (.bool false)) (w.heap.size + 1) (.int .i64 k) (.int .i64 (-(m + 1))) (.string ⟨#[]⟩) (.slice none 0 0) (.slice none 0 0) (.int .i64 0) (.string ⟨#[]⟩) (.slice none 0 0) (.int .i64 0) (.string ⟨#[]⟩) (.int .i64 0) (.bool false) _ rfl HF.out) rfl ?_
        exact ⟨⟨k, -(m + 1), ⟨#[]⟩, [], [], 0, ⟨#[]⟩, [], 0, ⟨⟨#[]⟩, 0, false⟩⟩, none, 0, 0, none, 0, 0, none, 0, 0, rfl, evw_row k (-(m + 1)) ⟨#[]⟩ [] [] none 0 0 none 0 0 (nilB _) (nilB _) (by omega) (by omega), hbe⟩
      · have u0 := HS5.out.ho.cell 0
        have u1 := HS5.out.ho.cell 1
        have u2 := HS5.out.ho.cell 2
        have u3 := HS5.out.ho.cell 3
        have u4 := HS5.out.ho.cell 4
        have u5 := HS5.out.ho.cell 5
        have u6 := HS5.out.ho.cell 6
        have u7 := HS5.out.ho.cell 7
        have u8 := HS5.out.ho.cell 8
        have u9 := HS5.out.ho.cell 9
        have u10 := HS5.out.ho.cell 10
        have u11 := HS5.out.ho.cell 11
        have uf0 := HS5.out.ho.free 0
        have uf1 := HS5.out.ho.free 1
        have uf2 := HS5.out.ho.free 2
        have uf3 := HS5.out.ho.free 3
        have uf4 := HS5.out.ho.free 4
        have uf5 := HS5.out.ho.free 5
        have uf6 := HS5.out.ho.free 6
        have uf7 := HS5.out.ho.free 7
        have uf8 := HS5.out.ho.free 8
        have uf9 := HS5.out.ho.free 9
        have uf10 := HS5.out.ho.free 10
        have uf11 := HS5.out.ho.free 11
        simp only [List.getElem?_toArray, List.getElem?_cons_zero, List.getElem?_cons_succ] at u0 u1 u2 u3 u4 u5 u6 u7 u8 u9 u10 u11
        have v0 := HS5.out.hr.cell 0
        have v1 := HS5.out.hr.cell 1
        have v2 := HS5.out.hr.cell 2
        have v3 := HS5.out.hr.cell 3
        have v4 := HS5.out.hr.cell 4
        have v5 := HS5.out.hr.cell 5
        have v6 := HS5.out.hr.cell 6
        have v7 := HS5.out.hr.cell 7
        have v8 := HS5.out.hr.cell 8
        have v9 := HS5.out.hr.cell 9
        have v10 := HS5.out.hr.cell 10
        have v11 := HS5.out.hr.cell 11
        have vf0 := HS5.out.hr.free 0
        have vf1 := HS5.out.hr.free 1
        have vf2 := HS5.out.hr.free 2
        have vf3 := HS5.out.hr.free 3
        have vf4 := HS5.out.hr.free 4
        have vf5 := HS5.out.hr.free 5
        have vf6 := HS5.out.hr.free 6
        have vf7 := HS5.out.hr.free 7
        have vf8 := HS5.out.hr.free 8
        have vf9 := HS5.out.hr.free 9
        have vf10 := HS5.out.hr.free 10
        have vf11 := HS5.out.hr.free 11
        simp only [List.getElem?_toArray, List.getElem?_cons_zero, List.getElem?_cons_succ] at v0 v1 v2 v3 v4 v5 v6 v7 v8 v9 v10 v11
        go_wp2_with fail
        have HF : Hid (Has (put12 W5 (w.heap.size + 1) (.int .i64 k) (.int .i64 m) (.string ⟨#[]⟩) (.slice none 0 0) (.slice none 0 0) (.int .i64 0) (.string ⟨#[]⟩) (.slice none 0 0) (.int .i64 0) (.string ⟨#[]⟩) (.int .i64 0) (.bool false)) (w.heap.size + 1) 33 #[.int .i64 k, .int .i64 m, .string ⟨#[]⟩, .slice none 0 0, .slice none 0 0, .int .i64 0, .string ⟨#[]⟩, .slice none 0 0, .int .i64 0, .string ⟨#[]⟩, .int .i64 0, .bool false]) := put12_has HS5.out.hr (.int .i64 k) (.int .i64 m) (.string ⟨#[]⟩) (.slice none 0 0) (.slice none 0 0) (.int .i64 0) (.string ⟨#[]⟩) (.slice none 0 0) (.int .i64 0) (.string ⟨#[]⟩) (.int .i64 0) (.bool false)
        have ht : Tur [w.heap.size + 1] W5 (put12 W5 (w.heap.size + 1) (.int .i64 k) (.int .i64 m) (.string ⟨#[]⟩) (.slice none 0 0) (.slice none 0 0) (.int .i64 0) (.string ⟨#[]⟩) (.slice none 0 0) (.int .i64 0) (.string ⟨#[]⟩) (.int .i64 0) (.bool false)) := put12_tur _ _ (.int .i64 k) (.int .i64 m) (.string ⟨#[]⟩) (.slice none 0 0) (.slice none 0 0) (.int .i64 0) (.string ⟨#[]⟩) (.slice none 0 0) (.int .i64 0) (.string ⟨#[]⟩) (.int .i64 0) (.bool false)
        have hbe : Below w.heap.size w (put12 W5 (w.heap.size + 1) (.int .i64 k) (.int .i64 m) (.string ⟨#[]⟩) (.slice none 0 0) (.slice none 0 0) (.int .i64 0) (.string ⟨#[]⟩) (.slice none 0 0) (.int .i64 0) (.string ⟨#[]⟩) (.int .i64 0) (.bool false)) := (Tur.of_below (X := [w.heap.size + 1]) HS5.out.bel).trans ht (Fre.refl _ _) |>.below (B := w.heap.size) (fun k hk => by simp at hk; omega) (Nat.le_refl _)
        refine bodyPost_ret (v := .agg #[.int .i64 k, .int .i64 m, .string ⟨#[]⟩, .slice none 0 0, .slice none 0 0, .int .i64 0, .string ⟨#[]⟩, .slice none 0 0, .int .i64 0, .string ⟨#[]⟩, .int .i64 0, .bool false]) (evEnd (put12 W5 (w.heap.size + 1) (.int .i64 k) (.int .i64 m) (.string ⟨#[]⟩) (.slice none 0 0) (.slice none 0 0) (.int .i64 0) (.string ⟨#[]⟩) (.slice none 0 0) (.int .i64 0) (.string ⟨#[]⟩) (.int .i64 0) (.bool false)) (w.heap.size + 1) (.int .i64 k) (.int .i64 m) (.string ⟨#[]⟩) (.slice none 0 0) (.slice none 0 0) (.int .i64 0) (.string ⟨#[]⟩) (.slice none 0 0) (.int .i64 0) (.string ⟨#[]⟩) (.int .i64 0) (.bool false) _ rfl HF.out) rfl ?_
        exact ⟨⟨k, m, ⟨#[]⟩, [], [], 0, ⟨#[]⟩, [], 0, ⟨⟨#[]⟩, 0, false⟩⟩, none, 0, 0, none, 0, 0, none, 0, 0, rfl, evw_row k (m) ⟨#[]⟩ [] [] none 0 0 none 0 0 (nilB _) (nilB _) (by omega) (by omega), hbe⟩
end Go.Proofs.YtjkmbggaoinkdaaDoor
