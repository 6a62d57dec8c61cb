/-
  Put together: ranges over functions, trees of rows, what is told from a key on.
-/
import Derived.Test.YtcdjeibcnkpadaaDoorKit
import Derived.RangeFuncNested
import Derived.RangeFuncBound
import Derived.RangeFuncCalls
import Derived.RangeFuncLeaves
import Derived.Test.YtcdjeibcnkpadaaDoorProg
import Derived.WalkKit
import Derived.OwnWalkIn
import Derived.TacticsInMore
import Derived.LoopNIn
import Derived.LoopIn
import Derived.Shelf.RegionOpen
import Derived.Maps.AppendAt
namespace Go.Proofs.YtcdjeibcnkpadaaDoor
open Go.RowKit
/-- Whatever was there and is none of X lies as it lay. -/
structure Tur (X : List Nat) (w w' : World) : Prop where
  os : w'.os = w.os
  tape : w'.tape = w.tape
  output : w'.output = w.output
  size : w.heap.size ≤ w'.heap.size
  block : ∀ k, k < w.heap.size → k ∉ X → w'.heap[k]? = w.heap[k]?
/-- What is there now was there, or is new. -/
def Fre (X X' : List Nat) (w : World) : Prop := ∀ b ∈ X', b ∈ X ∨ w.heap.size ≤ b
theorem Tur.refl (X : List Nat) (w : World) : Tur X w w := ⟨rfl, rfl, rfl, Nat.le_refl _, fun _ _ _ => rfl⟩
theorem Fre.refl (X : List Nat) (w : World) : Fre X X w := fun _ h => .inl h
theorem Tur.trans {X X' : List Nat} {a b c : World} (h : Tur X a b) (k : Tur X' b c) (hf : Fre X X' a) : Tur X a c :=
  ⟨k.os.trans h.os, k.tape.trans h.tape, k.output.trans h.output, Nat.le_trans h.size k.size, fun i hi hx => (k.block i (Nat.lt_of_lt_of_le hi h.size) fun hx' => (hf i hx').elim hx (fun hh => by omega)).trans (h.block i hi hx)⟩
theorem Fre.trans {X X' X2 : List Nat} {a b : World} (h : Fre X X' a) (k : Fre X' X2 b) (hs : a.heap.size ≤ b.heap.size) : Fre X X2 a := fun i hi => (k i hi).elim (h i) fun hh => .inr (by omega)
theorem Tur.of_below {X : List Nat} {w w' : World} (h : Below w.heap.size w w') : Tur X w w' := ⟨h.os, h.tape, h.output, h.size, fun k hk _ => h.block k hk⟩
theorem Tur.below {X : List Nat} {w w' : World} {B : Nat} (h : Tur X w w') (hx : ∀ b ∈ X, B ≤ b) (hB : B ≤ w.heap.size) : Below B w w' :=
  ⟨h.os, h.tape, h.output, h.size, fun k hk => h.block k (by omega) fun hh => by have := hx k hh; omega⟩
theorem Tur.setCell {X : List Nat} (w : World) {p : Addr} (hp : p.block ∈ X) (u : Value) : Tur X w (w.setCell p u) :=
  ⟨rfl, rfl, rfl, by simp [World.setCell], fun k _ hx => Below.heap_setCell _ _ _ _ (fun e => hx (e ▸ hp))⟩
theorem Tur.alloc (X : List Nat) (w : World) (o : Obj) : Tur X w (w.alloc o) := Tur.of_below ((Below.refl _ w).alloc (Nat.le_refl _) o)
theorem Tur.drew (X : List Nat) (w : World) : Tur X w w.drew := ⟨rfl, rfl, rfl, Nat.le_refl _, fun _ _ _ => rfl⟩
theorem Tur.grown {X : List Nat} {w w' : World} {row : Option Nat} (hg : w.grownBy w' row) (hr : ∀ k, row = some k → k ∈ X) : Tur X w w' :=
  ⟨hg.os, hg.tape, hg.output, hg.size, fun k hk hx => hg.block k hk fun e => hx (hr k e.symm)⟩
theorem Tur.sub {X Y : List Nat} {w w' : World} (h : Tur X w w') (hs : ∀ b ∈ X, b ∈ Y) : Tur Y w w' := ⟨h.os, h.tape, h.output, h.size, fun k hk hy => h.block k hk fun hx => hy (hs k hx)⟩
theorem Tur.putObj {X : List Nat} (w : World) {l : Nat} (hl : l ∈ X) (o : Obj) : Tur X w (w.putObj l o) :=
  ⟨rfl, rfl, rfl, by simp, fun k _ hx => World.putObj_heap_other (fun e => hx (e ▸ hl))⟩
theorem Has.tur {X : List Nat} {w w' : World} {g : Nat} {t : TypeId} {cs : Array Value} (h : Has w g t cs) (ht : Tur X w w') (hg : g ∉ X) : Has w' g t cs := (ht.block g h.lt hg).trans h
/-- It stands where blocks from B on, none of its own, turn. -/
def Stays {α : Type} (B : Nat) (J : List α → List Nat → World → Prop) : Prop :=
  ∀ pre X W W' Z, J pre X W → Tur Z W W' → (∀ b ∈ Z, B ≤ b ∧ b ∉ X) → J pre X W'
theorem Stays.mono {α : Type} {B C : Nat} {J : List α → List Nat → World → Prop} (h : Stays B J) (hBC : B ≤ C) : Stays C J :=
  fun pre X W W' Z hj ht hz => h pre X W W' Z hj ht fun b hb => ⟨Nat.le_trans hBC (hz b hb).1, (hz b hb).2⟩
/-- What a round of loop l is worth to the iterator. -/
def Round {α : Type} (F : Fence) (P : Program) (l : Nat) (encs : α → Array Value) (xs : List α) (J Jx : List α → List Nat → World → Prop) : Prop :=
  ∀ m pre x X W1, J pre X W1 → pre ++ [x] <+: xs → YieldAt F m P l (encs x) W1 fun e W' =>
    ∃ X', ((e = .returned (.bool true) ∧ J (pre ++ [x]) X' W') ∨ (e = .returned (.bool false) ∧ Jx (pre ++ [x]) X' W')) ∧ Tur X W1 W' ∧ Fre X X' W1
/-- The iterator tells xs, if nothing of K turns. -/
def Tells {α : Type} (F : Fence) (P : Program) (g : Nat) (lb : Array Value) (encs : α → Array Value) (K : Nat → Prop) (xs : List α) (w : World) : Prop :=
  ∀ (n l : Nat) (J Jx : List α → List Nat → World → Prop) (W : World) (X : List Nat), w.heap.size ≤ W.heap.size → (∀ b, K b → W.heap[b]? = w.heap[b]?) → (∀ b ∈ X, ¬ K b) →
    Stays W.heap.size J → Stays W.heap.size Jx → (∀ pre X W, J pre X W → ∀ b ∈ X, b < W.heap.size) → Round F P l encs xs J Jx → J [] X W →
    CallsIn F n P g (#[.func (.yield l) #[] #[]] ++ lb) W fun e W' => (∃ v, e = .returned v) ∧ ∃ X', J xs X' W' ∨ ∃ pre, Jx pre X' W'
/-- How a round's body may be left. -/
def Left {α : Type} (I : List α → List Nat → World → Prop) (Ix : Code → List α → List Nat → World → Prop) (xs : List α) (X : List Nat) (W : World) : Exit → Act → World → Prop
  | .normal, _, W' => ∃ X', I xs X' W' ∧ Tur X W W' ∧ Fre X X' W
  | .ret, _, W' => ∃ X', Ix .ret xs X' W' ∧ Tur X W W' ∧ Fre X X' W
  | .exit id, _, W' => ∃ X', Ix (.exit id) xs X' W' ∧ Tur X W W' ∧ Fre X X' W
  | .goto t, _, W' => ∃ X', Ix (.goto t) xs X' W' ∧ Tur X W W' ∧ Fre X X' W
  | _, _, _ => False
section
variable {F : Fence} {n : Nat} {P : Program}
/-- The loop. -/
theorem wp_tells {α : Type} {g : Operand} {ps : Array Tmp} {assign body : Code} {Q : Exit → Act → World → Prop} {a : Act} {w : World}
    (hd : F.depth = none) (hro : F.round = none) {gf : Nat} {lb : Array Value} (hg : a.eval g = .func (.func gf) #[] lb) (hFg : F.fn gf) (eg : ∀ args w, (callFunc gf args).run P w = .ok (.enter gf args) w)
    {encs : α → Array Value} {K : Nat → Prop} {xs : List α} {w0 : World} (hseq : Tells F P gf lb encs K xs w0) (hw0 : w0.heap.size ≤ w.heap.size) (hK0 : ∀ b, K b → w.heap[b]? = w0.heap[b]?) (hK1 : ∀ b, K b → b < w.heap.size) (hps : ∀ x, (encs x).size = ps.size)
    (I : List α → List Nat → World → Prop) (Ix : Code → List α → List Nat → World → Prop) (hI : Stays w.heap.size I) (hIx : ∀ c, Stays w.heap.size (Ix c)) (hIl : ∀ pre X W, I pre X W → ∀ b ∈ X, b < W.heap.size)
    (X0 : List Nat) (hX0 : ∀ b ∈ X0, ¬ K b) (h0 : I [] X0 w) 
    (hloop : ∃ a₁ : α → Act, (∀ (m l : Nat) (x : α) (W : World) (K : Act → World → Prop), K (a₁ x) W →
        assign.wpIn (F.inRound l) m P (Exit.then K (fun _ _ _ => False)) { tmps := (ps.zip (encs x)).foldl (fun t (p, v) => t.setIfInBounds p v) a.tmps, defers := [] } W) ∧
      ∀ (m l : Nat) (pre : List α) (x : α) (X : List Nat) (W : World), I pre X W → pre ++ [x] <+: xs → body.wpIn (F.inRound l) m P (Left I Ix (pre ++ [x]) X W) (a₁ x) W)
    (hdone : ∀ (D : Nat) (X : List Nat) (W : World), w.heap.size ≤ D → I xs X W → D ∉ X → W.heap[D]? = some (.deferred (some [])) → Q .normal { a with defers := { target := .collected D, args := #[] } :: a.defers } W)
    (hstop : ∀ (D : Nat) (c : Code) (pre : List α) (X : List Nat) (W : World), w.heap.size ≤ D → Ix c pre X W → D ∉ X → W.heap[D]? = some (.deferred (some [])) → c.wpIn F n P Q { a with defers := { target := .collected D, args := #[] } :: a.defers } W) :
    (Code.rangeFunc g ps assign body).wpIn F n P Q a w := by
  obtain ⟨a₁, hassign, hbody⟩ := hloop
  refine wpIn_rangeFunc fun fn hfn => ?_
  rw [hro]
  generalize hD : w.heap.size = D at *
  -- the record, as it is in each state
  let rec_ : LoopState → Option Code → Obj := fun st pe => .loop { state := st, pending := pe, fn, tmps := a.tmps, params := ps, assign, body, defers := D }
  let W1 := (w.alloc (.deferred (some []))).alloc (rec_ .ready none)
  have s1 : W1.heap.size = D + 2 := by show ((w.alloc _).alloc _).heap.size = _; simp [hD]
  have t1 : Tur [] w W1 := (Tur.alloc [] w _).trans (Tur.alloc [] _ _) (Fre.refl _ _)
  have l1 : W1.heap[D + 1]? = some (rec_ .ready none) := by
    have := World.alloc_heap_new (w.alloc (.deferred (some []))) (rec_ .ready none)
    rwa [World.size_alloc, hD] at this
  have d1 : W1.heap[D]? = some (.deferred (some [])) := by
    have h1 := World.alloc_heap_new w (.deferred (some []))
    rw [hD] at h1
    exact (Below.heap_alloc _ _ _ (by simp [hD])).trans h1
  let J : List α → List Nat → World → Prop := fun pre Y W => ∃ X, Y = (D + 1) :: X ∧ I pre X W ∧ D + 1 ∉ X ∧ D ∉ X ∧ W.heap[D + 1]? = some (rec_ .ready none) ∧ W.heap[D]? = some (.deferred (some []))
  let Jx : List α → List Nat → World → Prop := fun pre Y W => ∃ X c, Y = (D + 1) :: X ∧ Ix c pre X W ∧ D ∉ X ∧ D + 1 ∉ X ∧ W.heap[D + 1]? = some (rec_ .done (some c)) ∧ W.heap[D]? = some (.deferred (some []))
  have lt : ∀ {W : World} {k : Nat} {o : Obj}, W.heap[k]? = some o → k < W.heap.size := fun h => (Array.getElem?_eq_some_iff.1 h).1
  have hX0l := hIl _ _ _ h0
  refine ⟨D + 1, [{ target := .collected D, args := #[] }], W1, { target := .fn (.func gf) lb, args := #[.func (.yield (D + 1)) #[] #[]] }, W1, gf, #[.func (.yield (D + 1)) #[] #[]] ++ lb, W1, ?_, ?_, ?_, ?_, (fun h => (by rw [hd] at h; cases h)), ?_⟩
  · have := run_enterLoop_outer (P := P) (w := w) fn a.tmps ps assign body
    rw [hD] at this
    exact this
  · simp only [resolve, hg]
    simp [go_sem]
  · intro f' hf'
    simp [Target.leads] at hf'
    subst hf'
    exact hFg
  · simp [invoke, go_sem, eg]
  refine (hseq (n - 1) (D + 1) J Jx W1 ((D + 1) :: X0) (by omega) (fun b hb => (t1.block b (by have := hK1 b hb; omega) (by simp)).trans (hK0 b hb)) ?_ ?_ ?_ ?_ ?_ ⟨X0, rfl, hI _ _ _ _ [] h0 t1 (by simp), (fun h => (by have := hX0l _ h; omega)), (fun h => (by have := hX0l _ h; omega)), l1, d1⟩).mono ?_
  · intro b hb hk
    rcases List.mem_cons.1 hb with rfl | hb
    · have := hK1 _ hk; omega
    · exact hX0 b hb hk
  · rintro pre Y W W' Z ⟨X, rfl, hi, h1, h2, h3, h4⟩ ht hz
    have hz' : ∀ b ∈ Z, D + 2 ≤ b ∧ b ∉ X := fun b hb => ⟨by have := (hz b hb).1; omega, fun hx => (hz b hb).2 (List.mem_cons_of_mem _ hx)⟩
    exact ⟨X, rfl, hI _ _ _ _ Z hi ht (fun b hb => ⟨by have := (hz' b hb).1; omega, (hz' b hb).2⟩), h1, h2, (ht.block _ (lt h3) fun h => by have := (hz' _ h).1; omega).trans h3, (ht.block _ (lt h4) fun h => by have := (hz' _ h).1; omega).trans h4⟩
  · rintro pre Y W W' Z ⟨X, c, rfl, hi, h1, h2, h3, h4⟩ ht hz
    have hz' : ∀ b ∈ Z, D + 2 ≤ b ∧ b ∉ X := fun b hb => ⟨by have := (hz b hb).1; omega, fun hx => (hz b hb).2 (List.mem_cons_of_mem _ hx)⟩
    exact ⟨X, c, rfl, hIx c _ _ _ _ Z hi ht (fun b hb => ⟨by have := (hz' b hb).1; omega, (hz' b hb).2⟩), h1, h2, (ht.block _ (lt h3) fun h => by have := (hz' _ h).1; omega).trans h3, (ht.block _ (lt h4) fun h => by have := (hz' _ h).1; omega).trans h4⟩
  · rintro pre Y W ⟨X, rfl, hi, h1, h2, h3, h4⟩ b hb
    rcases List.mem_cons.1 hb with rfl | hb
    · exact lt h3
    · exact hIl _ _ _ hi b hb
  · rintro m pre x Y W ⟨X, rfl, hi, h1, h2, h3, h4⟩ hpre
    refine ⟨fn, _, assign, body, run_yield (P := P) (args := encs x) h3 (hps x), roundIn_of_wpIn hfn (hassign m _ x W _ ⟨_, run_beginRound h3 rfl, ?_⟩)⟩
    let W2 := W.putObj (D + 1) (rec_ .busy none)
    have t2 : Tur [D + 1] W W2 := Tur.putObj W (by simp) _
    have h32 : W2.heap[D + 1]? = some (rec_ .busy none) := World.putObj_heap_same (lt h3)
    have h42 : W2.heap[D]? = some (.deferred (some [])) := (t2.block D (lt h4) (by simp)).trans h4
    have s2 : W.heap.size ≤ W2.heap.size := t2.size
    have hone : ∀ b ∈ [D + 1], D ≤ b ∧ b ∉ X := fun b hb => by rw [List.mem_singleton.1 hb]; exact ⟨Nat.le_succ _, h1⟩
    refine wpIn_mono (hbody m (D + 1) pre x X W2 (hI _ _ _ _ _ hi t2 hone) hpre) ?_
    -- behind the body: the record is closed, by whatever way it was left
    have fin : ∀ (jump : Option Code) (X' : List Nat) (W3 : World), Tur X W2 W3 → Fre X X' W2 →
        ∃ W4, (Instr.endRound (D + 1) jump).run P W3 = .ok (.bool jump.isNone) W4 ∧ W4.heap[D + 1]? = some (rec_ (if jump.isNone then .ready else .done) jump) ∧ W4.heap[D]? = some (.deferred (some [])) ∧ Tur [D + 1] W3 W4 ∧ D + 1 ∉ X' ∧ D ∉ X' ∧ Tur ((D + 1) :: X) W W4 ∧ Fre ((D + 1) :: X) ((D + 1) :: X') W := by
      intro jump X' W3 ht hf
      have h33 : W3.heap[D + 1]? = some (rec_ .busy none) := (ht.block _ (lt h32) h1).trans h32
      have h43 : W3.heap[D]? = some (.deferred (some [])) := (ht.block _ (lt h42) h2).trans h42
      have t4 : Tur [D + 1] W3 (W3.putObj (D + 1) (rec_ (if jump.isNone then .ready else .done) jump)) := Tur.putObj W3 (by simp) _
      have sub1 : ∀ b ∈ [D + 1], b ∈ (D + 1) :: X := fun b hb => by rw [List.mem_singleton.1 hb]; exact List.mem_cons_self
      refine ⟨_, run_endRound (P := P) jump h33, World.putObj_heap_same (lt h33), (t4.block D (lt h43) (by simp)).trans h43, t4, fun h => ?_, fun h => ?_, ?_, fun b hb => ?_⟩
      · rcases hf _ h with h | h
        · exact h1 h
        · have := lt h32; omega
      · rcases hf _ h with h | h
        · exact h2 h
        · have := lt h42; omega
      · exact ((t2.sub sub1).trans (ht.sub fun b hb => List.mem_cons_of_mem _ hb) (Fre.refl _ _)).trans (t4.sub sub1) (Fre.refl _ _)
      · rcases List.mem_cons.1 hb with rfl | hb
        · exact .inl List.mem_cons_self
        · rcases hf _ hb with h | h
          · exact .inl (List.mem_cons_of_mem _ h)
          · exact .inr (by omega)
    have one' : ∀ {X' : List Nat}, D + 1 ∉ X' → ∀ b ∈ [D + 1], D ≤ b ∧ b ∉ X' := fun h b hb => by rw [List.mem_singleton.1 hb]; exact ⟨Nat.le_succ _, h⟩
    rintro e a3 W3 hp
    cases e with
    | normal =>
      obtain ⟨X', hi3, ht, hf⟩ := hp
      obtain ⟨W4, hr, h34, h44, t4, n1, n2, tt, ff⟩ := fin none X' W3 ht hf
      exact ⟨_, W4, hr, _, .inl ⟨rfl, X', rfl, hI _ _ _ _ _ hi3 t4 (one' n1), n1, n2, h34, h44⟩, tt, ff⟩
    | ret =>
      obtain ⟨X', hi3, ht, hf⟩ := hp
      obtain ⟨W4, hr, h34, h44, t4, n1, n2, tt, ff⟩ := fin (some .ret) X' W3 ht hf
      exact ⟨_, W4, hr, _, .inr ⟨rfl, X', .ret, rfl, hIx _ _ _ _ _ _ hi3 t4 (one' n1), n2, n1, h34, h44⟩, tt, ff⟩
    | exit id =>
      obtain ⟨X', hi3, ht, hf⟩ := hp
      obtain ⟨W4, hr, h34, h44, t4, n1, n2, tt, ff⟩ := fin (some (.exit id)) X' W3 ht hf
      exact ⟨_, W4, hr, _, .inr ⟨rfl, X', .exit id, rfl, hIx _ _ _ _ _ _ hi3 t4 (one' n1), n2, n1, h34, h44⟩, tt, ff⟩
    | goto t =>
      obtain ⟨X', hi3, ht, hf⟩ := hp
      obtain ⟨W4, hr, h34, h44, t4, n1, n2, tt, ff⟩ := fin (some (.goto t)) X' W3 ht hf
      exact ⟨_, W4, hr, _, .inr ⟨rfl, X', .goto t, rfl, hIx _ _ _ _ _ _ hi3 t4 (one' n1), n2, n1, h34, h44⟩, tt, ff⟩
    | panic ch => exact hp.elim
    | outgrown => exact hp.elim
  · rintro e W2 ⟨⟨v, rfl⟩, Y, (⟨X, rfl, hi, h1, h2, h3, h4⟩ | ⟨pre, X, c, rfl, hi, h2, h1, h3, h4⟩)⟩
    · have t3 : Tur [D + 1] W2 (W2.putObj (D + 1) (rec_ .exhausted none)) := Tur.putObj W2 (by simp) _
      exact ⟨none, _, run_endLoop (P := P) h3 (by simp), hdone D X _ (Nat.le_refl _) (hI _ _ _ _ _ hi t3 fun b hb => by rw [List.mem_singleton.1 hb]; exact ⟨Nat.le_succ _, h1⟩) h2 ((t3.block D (lt h4) (by simp)).trans h4)⟩
    · have t3 : Tur [D + 1] W2 (W2.putObj (D + 1) (rec_ .exhausted (some c))) := Tur.putObj W2 (by simp) _
      exact ⟨some c, _, run_endLoop (P := P) h3 (by simp), hstop D c pre X _ (Nat.le_refl _) (hIx c _ _ _ _ _ hi t3 fun b hb => by rw [List.mem_singleton.1 hb]; exact ⟨Nat.le_succ _, h1⟩) h2 ((t3.block D (lt h4) (by simp)).trans h4)⟩
end
end Go.Proofs.YtcdjeibcnkpadaaDoor
namespace Go.Proofs.YtcdjeibcnkpadaaDoor
open Go.RowKit Go.Shelf
set_option linter.unusedVariables false
/-- A thing: a row's slice. -/
structure Sl where
  a : Option Addr
  n : Nat
  c : Nat
/-- A tree: each node with its block, its key and thing, and two numbers of which nothing is said. -/
inductive Tr where
  | nil
  | node (b : Nat) (l : Tr) (k : ByteArray) (v : Sl) (lo le : Int) (r : Tr)
namespace Tr
def ptr : Tr → Option Addr
  | nil => none
  | node b _ _ _ _ _ _ => some ⟨b, 0, none⟩
def size : Tr → Nat
  | nil => 0
  | node _ l _ _ _ _ r => l.size + 1 + r.size
def ht : Tr → Nat
  | nil => 0
  | node _ l _ _ _ _ r => 1 + max l.ht r.ht
def row (l : Tr) (k : ByteArray) (v : Sl) (lo le : Int) (r : Tr) : Array Value :=
  #[.string k, .slice v.a v.n v.c, .pointer l.ptr, .pointer r.ptr, .int .i64 ((l.size + 1 + r.size : Nat) : Int), .int .i64 ((1 + max l.ht r.ht : Nat) : Int), .int .i64 lo, .int .i64 le]
end Tr
/-- It lies there, below n. -/
def IsTr (n : Nat) (w : World) : Tr → Prop
  | .nil => True
  | .node b l k v lo le r => b < n ∧ Has w b 124 (Tr.row l k v lo le r) ∧ IsTr n w l ∧ IsTr n w r
theorem IsTr.keep {n : Nat} {w w' : World} (h : ∀ b, b < n → w'.heap[b]? = w.heap[b]?) : ∀ {T : Tr}, IsTr n w T → IsTr n w' T
  | .nil, _ => trivial
  | .node b l k v lo le r, ⟨h1, h2, h3, h4⟩ => ⟨h1, (h b h1).trans h2, IsTr.keep h h3, IsTr.keep h h4⟩
theorem IsTr.mono {n m : Nat} {w : World} (h : n ≤ m) : ∀ {T : Tr}, IsTr n w T → IsTr m w T
  | .nil, _ => trivial
  | .node b l k v lo le r, ⟨h1, h2, h3, h4⟩ => ⟨Nat.lt_of_lt_of_le h1 h, h2, h3.mono h, h4.mono h⟩
theorem IsTr.below {n : Nat} {w w' : World} {T : Tr} (h : IsTr n w T) (hb : Below n w w') : IsTr n w' T := h.keep hb.block
/-- One text comes ahead of another one. -/
def kl (a b : ByteArray) : Bool := Op.bytesLess a.toList b.toList
/-- A node, as it is handed over. -/
structure Nd where
  b : Nat
  k : ByteArray
  v : Sl
def Nd.enc (x : Nd) : Array Value := #[.pointer (some ⟨x.b, 0, none⟩)]
def Tr.from (key : ByteArray) : Tr → List Nd
  | .nil => []
  | .node b l k v _ _ r => (if kl k key then [] else l.from key ++ [⟨b, k, v⟩]) ++ r.from key
theorem RoundIn.inR {F : Fence} {n : Nat} {P : Program} {l₀ l : Nat} {f : FuncId} {tmps : Array Value} {assign body : Code} {w : World} {R : Ending → World → Prop} (h : RoundIn F n P l f tmps assign body w R) : RoundIn (F.inRound l₀) n P l f tmps assign body w R := h
attribute [local go_sem] Oper.semAt_some
set_option maxRecDepth 100000 in
set_option maxHeartbeats 1000000 in
theorem nodes_any (w : World) (p : Option Addr) (key : ByteArray) :
    Calls Tryd.prog 70 #[.pointer p, .string key] w fun e w' => e = .returned (.func (.func 82) #[] #[.pointer (some ⟨w.heap.size, 0, none⟩), .pointer (some ⟨w.heap.size + 1, 0, none⟩)]) ∧
      w' = (w.alloc (.cells #[.pointer p] 105)).alloc (.cells #[.string key] 9) := by
  go_enter Tryd.func70, Tryd.ntmps70
  go_wp2_with fail
  go_ret
  exact ⟨rfl, rfl⟩
/-! ### the iterator -/
/-- Nothing of K is among X, and all of it lies as it lay. -/
def KeptT (K : Nat → Prop) (W0 : World) (X : List Nat) (W : World) : Prop := (∀ c ∈ X, ¬ K c) ∧ ∀ c, K c → W.heap[c]? = W0.heap[c]?
theorem lt_of_some {W : World} {c : Nat} {o : Obj} (h : W.heap[c]? = some o) : c < W.heap.size := (Array.getElem?_eq_some_iff.1 h).1
theorem KeptT.lt {K : Nat → Prop} {W0 W : World} {X : List Nat} (h : KeptT K W0 X W) (hK : ∀ c, K c → c < W0.heap.size) {c : Nat} (hc : K c) : c < W.heap.size := by
  have h1 := h.2 c hc
  rw [Array.getElem?_eq_getElem (hK c hc)] at h1
  exact lt_of_some h1
theorem KeptT.stays {α : Type} {K : Nat → Prop} {W0 : World} (hK : ∀ c, K c → c < W0.heap.size) : Stays W0.heap.size (fun (_ : List α) X W => KeptT K W0 X W) :=
  fun _ X W W' Z h ht hz => ⟨h.1, fun c hc => (ht.block c (h.lt hK hc) fun hcz => by have := (hz c hcz).1; have := hK c hc; omega).trans (h.2 c hc)⟩
theorem KeptT.step {K : Nat → Prop} {W0 W W' : World} {X X' : List Nat} (h : KeptT K W0 X W) (hK : ∀ c, K c → c < W0.heap.size) (ht : Tur X W W') (hf : Fre X X' W) : KeptT K W0 X' W' :=
  ⟨fun c hc hk => (hf c hc).elim (fun hx => h.1 c hx hk) (fun hl => by have := h.lt hK hk; omega), fun c hc => (ht.block c (h.lt hK hc) fun hx => h.1 c hx hc).trans (h.2 c hc)⟩
theorem Stays.and {α : Type} {B : Nat} {J J' : List α → List Nat → World → Prop} (h : Stays B J) (h' : Stays B J') : Stays B (fun p X W => J p X W ∧ J' p X W) :=
  fun p X W W' Z hj ht hz => ⟨h p X W W' Z hj.1 ht hz, h' p X W W' Z hj.2 ht hz⟩
theorem Stays.pure {α : Type} {B : Nat} (p : Prop) : Stays B (fun (_ : List α) _ _ => p) := fun _ _ _ _ _ h _ _ => h
theorem Stays.at {α : Type} {B : Nat} {J : List α → List Nat → World → Prop} (h : Stays B J) (q : List α) : Stays B (fun p X W => J (q ++ p) X W) :=
  fun p X W W' Z hj ht hz => h (q ++ p) X W W' Z hj ht hz
theorem Has.kept {K : Nat → Prop} {W0 W : World} {X : List Nat} {g : Nat} {t : TypeId} {cs : Array Value} (h : Has W0 g t cs) (hk : KeptT K W0 X W) (hg : K g) : Has W g t cs := (hk.2 g hg).trans h
structure Bx (T : Prop) : Prop where
  out : T
theorem meet {T G : Prop} (r : Bx T → G) (p : T) : G := r ⟨p⟩
set_option maxRecDepth 100000 in
set_option maxHeartbeats 4000000 in
theorem nodes1_tells (n₀ : Nat) (key : ByteArray) (T : Tr) : ∀ (w : World) (nb kb : Nat), IsTr n₀ w T → n₀ ≤ w.heap.size → Has w nb 105 #[.pointer T.ptr] → Has w kb 9 #[.string key] →
    Tells Fence.wide Tryd.prog 82 #[.pointer (some ⟨nb, 0, none⟩), .pointer (some ⟨kb, 0, none⟩)] Nd.enc (fun b => b < n₀ ∨ b = nb ∨ b = kb) (T.from key) w := by
  induction T with
  | nil =>
    intro w nb kb hT hn hnb hkb m l J Jx W X hs hK hX hJ hJx hJl hR h0
    have hnW : Has W nb 105 #[.pointer none] := (hK nb (.inr (.inl rfl))).trans hnb
    have cn := (hnW.alloc (.cells #[.func (.yield l) #[] #[]] 134)).cell 0
    have hro : Fence.wide.round = none := rfl
    refine callsIn_of_wp_marks Tryd.func82 rfl trivial ?_ rfl
    simp only [Tryd.ntmps82, List.size_toArray, List.length_cons, List.length_nil, Nat.reduceAdd, Nat.reduceSub, Array.replicate_succ, Array.replicate_zero, List.push_toArray, List.append_toArray, List.nil_append, List.cons_append]
    gi_wp2
    refine ⟨_, results_none rfl _ _ _, ⟨_, rfl⟩, X, .inl ?_⟩
    exact hJ _ _ _ _ [] h0 (Tur.alloc [] W _) (by simp)
  | node b tl k v lo le tr ihl ihr =>
    intro w nb kb hT hn hnb hkb m l J Jx W X hs hK hX hJ hJx hJl hR h0
    obtain ⟨hb, hrow, hTl, hTr⟩ := hT
    have hnW : Has W nb 105 #[.pointer (some ⟨b, 0, none⟩)] := (hK nb (.inr (.inl rfl))).trans hnb
    have hkW : Has W kb 9 #[.string key] := (hK kb (.inr (.inr rfl))).trans hkb
    have hrW : Has W b 124 (Tr.row tl k v lo le tr) := (hK b (.inl hb)).trans hrow
    have hTlW := hTl.keep fun c hc => hK c (.inl hc)
    have hTrW := hTr.keep fun c hc => hK c (.inl hc)
    have n1 := hnW.alloc (.cells #[.func (.yield l) #[] #[]] 134)
    have k1 := hkW.alloc (.cells #[.func (.yield l) #[] #[]] 134)
    have r1 := hrW.alloc (.cells #[.func (.yield l) #[] #[]] 134)
    have y1 := Has.new W 134 #[.func (.yield l) #[] #[]]
    have t1 : Tur [] W (W.alloc (.cells #[.func (.yield l) #[] #[]] 134)) := Tur.alloc [] W _
    have b1 : Below W.heap.size W (W.alloc (.cells #[.func (.yield l) #[] #[]] 134)) := (Below.refl _ W).alloc (Nat.le_refl _) _
    have hTl1 := hTlW.keep fun c hc => b1.block c (by omega)
    have hTr1 := hTrW.keep fun c hc => b1.block c (by omega)
    have j1 := hJ _ _ _ _ [] h0 t1 (by simp)
    have s1 : (W.alloc (.cells #[.func (.yield l) #[] #[]] 134)).heap.size = W.heap.size + 1 := by simp
    have q1 : ∀ c, (c < n₀ ∨ c = nb ∨ c = kb) ∨ c = W.heap.size → c < (W.alloc (.cells #[.func (.yield l) #[] #[]] 134)).heap.size := by
      intro c hc
      have := hnW.lt
      have := hkW.lt
      omega
    have x1 : ∀ c ∈ X, ¬ ((c < n₀ ∨ c = nb ∨ c = kb) ∨ c = W.heap.size) := fun c hc h => h.elim (hX c hc) fun e => by have := hJl _ _ _ h0 c hc; omega
    obtain ⟨W1, hW1⟩ : ∃ W1, Hid (W1 = W.alloc (.cells #[.func (.yield l) #[] #[]] 134)) := ⟨_, rfl⟩
    have cn := n1.cell 0
    have hro : Fence.wide.round = none := rfl
    refine callsIn_of_wp_marks Tryd.func82 rfl trivial ?_ rfl
    simp only [Tryd.ntmps82, List.size_toArray, List.length_cons, List.length_nil, Nat.reduceAdd, Nat.reduceSub, Array.replicate_succ, Array.replicate_zero, List.push_toArray, List.append_toArray, List.nil_append, List.cons_append]
    gi_wp2
    rw [← hW1.out] at n1 k1 r1 y1 hTl1 hTr1 j1 s1 q1 t1 ⊢
    clear cn b1
    have cn : W1.cell? ⟨nb, 0, none⟩ = some (.pointer (some ⟨b, 0, none⟩)) := n1.cell 0
    have ck : W1.cell? ⟨kb, 0, none⟩ = some (.string key) := k1.cell 0
    have c0 : W1.cell? ⟨b, 0, none⟩ = some (.string k) := r1.cell 0
    have c2 : W1.cell? ⟨b, 2, none⟩ = some (.pointer tl.ptr) := r1.cell 2
    have c3 : W1.cell? ⟨b, 3, none⟩ = some (.pointer tr.ptr) := r1.cell 3
    have hdd : ∀ k : Nat, (Fence.wide.depth.isSome = true → 1 ≤ k) := fun k h => by cases h
    have hmix : Tryd.prog.follows .mixedOrders = true := by kernel_rfl
    clear hnb hkb hrow hTl hTr hnW hkW hrW hTlW hTrW
    cases hc : kl k key with
    | true =>
      have hlt : Op.bytesLess k.toList key.toList = true := hc
      gi_region_o
      all_goals gi_wp2
      obtain ⟨X2, hX2⟩ : ∃ X2, X2 = X := ⟨_, rfl⟩
      rw [← hX2] at j1 x1
      have hXn2 : ∀ c ∈ X2, ¬ c < n₀ := fun c hc h => x1 c hc (.inl (.inl h))
      apply meet
      · intro hT
        (first | gi_region_with_o ((refine ⟨trivial, hdd _, ?_⟩); gi_at_call 70; refine (callsIn_wide.2 (nodes_any _ _ _)).mono ?_; rintro e w' ⟨rfl, rfl⟩) | fail)
        all_goals gi_wp2
        all_goals exact hT.out
      obtain ⟨V2, hV2⟩ : ∃ V, Hid (V = ((W1.alloc (.cells #[.pointer tr.ptr] 105)).alloc (.cells #[.string key] 9)).drew.drew) := ⟨_, rfl⟩
      rw [← hV2.out]
      have t2 : Tur [] W1 V2 := by
        rw [hV2.out]
        exact (((Tur.alloc [] W1 _).trans (Tur.alloc [] _ _) (Fre.refl _ _)).trans (Tur.drew [] _) (Fre.refl _ _)).trans (Tur.drew [] _) (Fre.refl _ _)
      have z2 : V2.heap.size = W1.heap.size + 2 := by rw [hV2.out]; simp
      have nn2 : Has V2 W1.heap.size 105 #[.pointer tr.ptr] := by
        rw [hV2.out]
        exact (Has.new W1 _ _).alloc _
      have kk2 : Has V2 (W1.heap.size + 1) 9 #[.string key] := by
        rw [hV2.out]
        have := Has.new (W1.alloc (.cells #[.pointer tr.ptr] 105)) 9 #[.string key]
        rw [World.size_alloc] at this
        exact this
      have tt2 : IsTr n₀ V2 tr := hTr1.keep fun c hc => t2.block c (by omega) (by simp)
      have jj2 : J ([]) X2 V2 := hJ _ _ _ _ [] j1 t2 (by simp)
      have xl2 := hJl _ _ _ j1
      have hK2 : ∀ c, (fun c => c = W.heap.size) c → c < V2.heap.size := by
        intro c hc
        have := (fun (c : Nat) (hc : c = W.heap.size) => (by rw [hc, s1]; exact Nat.lt_succ_self _ : c < W1.heap.size)) c hc
        omega
      have kp2 : KeptT (fun c => c = W.heap.size) V2 X2 V2 := ⟨(fun c hc h => x1 c hc (.inr h)), fun _ _ => rfl⟩
      clear hV2
      have y2 : Has V2 W.heap.size 134 #[.func (.yield l) #[] #[]] := y1.tur t2 (by simp)
      rw [← s1]
      refine wp_tells (xs := tr.from key) rfl rfl (gf := 82) (lb := #[.pointer (some ⟨W1.heap.size, 0, none⟩), .pointer (some ⟨W1.heap.size + 1, 0, none⟩)]) (rfl) trivial (enters_of Tryd.func82 (by kernel_rfl) rfl)
        (ihr V2 W1.heap.size (W1.heap.size + 1) tt2 (by omega) nn2 kk2) (Nat.le_refl _) (fun _ _ => rfl) (by intro c hc; have := nn2.lt; have := kk2.lt; omega) (fun _ => rfl)
        (fun p Y V => J ([] ++ p) Y V ∧ KeptT (fun c => c = W.heap.size) V2 Y V) (fun c p Y V => c = .ret ∧ Jx ([] ++ p) Y V ∧ KeptT (fun c => c = W.heap.size) V2 Y V)
        (Stays.and ((hJ.at _).mono (by omega)) (KeptT.stays hK2)) (fun c => Stays.and (Stays.pure _) (Stays.and ((hJx.at _).mono (by omega)) (KeptT.stays hK2))) (fun _ _ _ h => hJl _ _ _ h.1)
        X2 (by intro c hc h; have := xl2 c hc; have := hXn2 c hc; omega) ⟨by rw [List.append_nil]; exact jj2, kp2⟩ ?loop2 ?done2 ?stop2
      case loop2 =>
        apply Exists.intro
        constructor
        · intro m' l' x V K hK
          dsimp only [Nd.enc]
          gi_wp2
          exact hK
        · rintro m' l' p x Y V ⟨hj, hk⟩ hpre
          have hpre2 : [] ++ p ++ [x] <+: (Tr.node b tl k v lo le tr).from key := by
            simpa [Tr.from, hc] using hpre
          obtain ⟨fn, tmps, assign, body, hy0, hRR⟩ := hR (m' - 1) ([] ++ p) x Y V hj hpre2
          have hy : Sem.run Tryd.prog (Instr.yield l #[.pointer (some ⟨x.b, 0, none⟩)]) V = .ok (.round l fn tmps assign body) V := hy0
          have cy : V.cell? ⟨W.heap.size, 0, none⟩ = some (.func (.yield l) #[] #[]) := (y2.kept hk (by simp)).cell 0
          gi_wp2_with ((refine ⟨hdd _, ?_⟩); refine (RoundIn.inR hRR).mono ?_; rintro e V3 ⟨Y', (⟨rfl, hj3⟩ | ⟨rfl, hj3⟩), ht, hf⟩)
          · rw [List.append_assoc] at hj3
            exact ⟨Y', ⟨hj3, hk.step hK2 ht hf⟩, ht, hf⟩
          · rw [List.append_assoc] at hj3
            exact ⟨Y', ⟨rfl, hj3, hk.step hK2 ht hf⟩, ht, hf⟩
      case done2 =>
        rintro D Y V hD ⟨hj, hk⟩ hDY hDd
        gi_wp2
        refine ⟨by simp, .inl ⟨_, _, rfl, run_takeDeferred hDd, ?_⟩⟩
        refine ⟨_, results_none rfl _ _ _, ⟨_, rfl⟩, Y, .inl ?_⟩
        have hq : [] ++ tr.from key = (Tr.node b tl k v lo le tr).from key := by simp [Tr.from, hc]
        rw [← hq]
        exact hJ _ _ _ _ [D] hj (Tur.putObj V (by simp) _) (fun c hcD => by rw [List.mem_singleton.1 hcD]; exact ⟨by omega, hDY⟩)
      case stop2 =>
        rintro D c p Y V hD ⟨rfl, hj, hk⟩ hDY hDd
        gi_wp2
        refine ⟨by simp, .inl ⟨_, _, rfl, run_takeDeferred hDd, ?_⟩⟩
        refine ⟨_, results_none rfl _ _ _, ⟨_, rfl⟩, Y, .inr ⟨[] ++ p, ?_⟩⟩
        exact hJx _ _ _ _ [D] hj (Tur.putObj V (by simp) _) (fun c hcD => by rw [List.mem_singleton.1 hcD]; exact ⟨by omega, hDY⟩)
    | false =>
      have hlt : Op.bytesLess k.toList key.toList = false := hc
      gi_region_o
      all_goals gi_wp2
      obtain ⟨X3, hX3⟩ : ∃ X2, X2 = X := ⟨_, rfl⟩
      rw [← hX3] at j1 x1
      have hXn3 : ∀ c ∈ X3, ¬ c < n₀ := fun c hc h => x1 c hc (.inl (.inl h))
      apply meet
      · intro hT
        (first | gi_region_with_o ((refine ⟨trivial, hdd _, ?_⟩); gi_at_call 70; refine (callsIn_wide.2 (nodes_any _ _ _)).mono ?_; rintro e w' ⟨rfl, rfl⟩) | fail)
        all_goals gi_wp2
        all_goals exact hT.out
      obtain ⟨V3, hV3⟩ : ∃ V, Hid (V = ((W1.alloc (.cells #[.pointer tl.ptr] 105)).alloc (.cells #[.string key] 9)).drew.drew) := ⟨_, rfl⟩
      rw [← hV3.out]
      have t3 : Tur [] W1 V3 := by
        rw [hV3.out]
        exact (((Tur.alloc [] W1 _).trans (Tur.alloc [] _ _) (Fre.refl _ _)).trans (Tur.drew [] _) (Fre.refl _ _)).trans (Tur.drew [] _) (Fre.refl _ _)
      have z3 : V3.heap.size = W1.heap.size + 2 := by rw [hV3.out]; simp
      have nn3 : Has V3 W1.heap.size 105 #[.pointer tl.ptr] := by
        rw [hV3.out]
        exact (Has.new W1 _ _).alloc _
      have kk3 : Has V3 (W1.heap.size + 1) 9 #[.string key] := by
        rw [hV3.out]
        have := Has.new (W1.alloc (.cells #[.pointer tl.ptr] 105)) 9 #[.string key]
        rw [World.size_alloc] at this
        exact this
      have tt3 : IsTr n₀ V3 tl := hTl1.keep fun c hc => t3.block c (by omega) (by simp)
      have jj3 : J ([]) X3 V3 := hJ _ _ _ _ [] j1 t3 (by simp)
      have xl3 := hJl _ _ _ j1
      have hK3 : ∀ c, (fun c => (c < n₀ ∨ c = nb ∨ c = kb) ∨ c = W.heap.size) c → c < V3.heap.size := by
        intro c hc
        have := q1 c hc
        omega
      have kp3 : KeptT (fun c => (c < n₀ ∨ c = nb ∨ c = kb) ∨ c = W.heap.size) V3 X3 V3 := ⟨x1, fun _ _ => rfl⟩
      clear hV3
      have y3 : Has V3 W.heap.size 134 #[.func (.yield l) #[] #[]] := y1.tur t3 (by simp)
      have n3 := n1.tur t3 (by simp)
      have k3 := k1.tur t3 (by simp)
      have r3 := r1.tur t3 (by simp)
      have tr3 : IsTr n₀ V3 tr := hTr1.keep fun c hc => t3.block c (by omega) (by simp)
      rw [← s1]
      refine wp_tells (xs := tl.from key) rfl rfl (gf := 82) (lb := #[.pointer (some ⟨W1.heap.size, 0, none⟩), .pointer (some ⟨W1.heap.size + 1, 0, none⟩)]) (rfl) trivial (enters_of Tryd.func82 (by kernel_rfl) rfl)
        (ihl V3 W1.heap.size (W1.heap.size + 1) tt3 (by omega) nn3 kk3) (Nat.le_refl _) (fun _ _ => rfl) (by intro c hc; have := nn3.lt; have := kk3.lt; omega) (fun _ => rfl)
        (fun p Y V => J ([] ++ p) Y V ∧ KeptT (fun c => (c < n₀ ∨ c = nb ∨ c = kb) ∨ c = W.heap.size) V3 Y V) (fun c p Y V => c = .ret ∧ Jx ([] ++ p) Y V ∧ KeptT (fun c => (c < n₀ ∨ c = nb ∨ c = kb) ∨ c = W.heap.size) V3 Y V)
        (Stays.and ((hJ.at _).mono (by omega)) (KeptT.stays hK3)) (fun c => Stays.and (Stays.pure _) (Stays.and ((hJx.at _).mono (by omega)) (KeptT.stays hK3))) (fun _ _ _ h => hJl _ _ _ h.1)
        X3 (by intro c hc h; have := xl3 c hc; have := hXn3 c hc; omega) ⟨by rw [List.append_nil]; exact jj3, kp3⟩ ?loop3 ?done3 ?stop3
      case loop3 =>
        apply Exists.intro
        constructor
        · intro m' l' x V K hK
          dsimp only [Nd.enc]
          gi_wp2
          exact hK
        · rintro m' l' p x Y V ⟨hj, hk⟩ hpre
          have hpre2 : [] ++ p ++ [x] <+: (Tr.node b tl k v lo le tr).from key := by
            have := hpre.trans (List.prefix_append (tl.from key) ([⟨b, k, v⟩] ++ tr.from key)); simpa [Tr.from, hc] using this
          obtain ⟨fn, tmps, assign, body, hy0, hRR⟩ := hR (m' - 1) ([] ++ p) x Y V hj hpre2
          have hy : Sem.run Tryd.prog (Instr.yield l #[.pointer (some ⟨x.b, 0, none⟩)]) V = .ok (.round l fn tmps assign body) V := hy0
          have cy : V.cell? ⟨W.heap.size, 0, none⟩ = some (.func (.yield l) #[] #[]) := (y3.kept hk (by simp)).cell 0
          gi_wp2_with ((refine ⟨hdd _, ?_⟩); refine (RoundIn.inR hRR).mono ?_; rintro e V3 ⟨Y', (⟨rfl, hj3⟩ | ⟨rfl, hj3⟩), ht, hf⟩)
          · rw [List.append_assoc] at hj3
            exact ⟨Y', ⟨hj3, hk.step hK3 ht hf⟩, ht, hf⟩
          · rw [List.append_assoc] at hj3
            exact ⟨Y', ⟨rfl, hj3, hk.step hK3 ht hf⟩, ht, hf⟩
      case done3 =>
        rintro D Y V hD ⟨hj, hk⟩ hDY hDd
        have hpre2 : ([] ++ tl.from key) ++ [⟨b, k, v⟩] <+: (Tr.node b tl k v lo le tr).from key := by simp [Tr.from, hc]
        obtain ⟨fn, tmps, assign, body, hy0, hRR⟩ := hR (m - 1) ([] ++ tl.from key) ⟨b, k, v⟩ Y V hj hpre2
        have hy : Sem.run Tryd.prog (Instr.yield l #[.pointer (some ⟨b, 0, none⟩)]) V = .ok (.round l fn tmps assign body) V := hy0
        have cy : V.cell? ⟨W.heap.size, 0, none⟩ = some (.func (.yield l) #[] #[]) := (y3.kept hk (.inr rfl)).cell 0
        have cnV : V.cell? ⟨nb, 0, none⟩ = some (.pointer (some ⟨b, 0, none⟩)) := (n3.kept hk (.inl (.inr (.inl rfl)))).cell 0
        gi_wp2_with ((refine ⟨hdd _, ?_⟩); refine hRR.mono ?_; rintro e V4 ⟨Y', (⟨rfl, hj4⟩ | ⟨rfl, hj4⟩), ht, hf⟩)
        · have hk4 := hk.step hK3 ht hf
          have hD5 : V4.heap[D]? = some (.deferred (some [])) := (ht.block D (lt_of_some hDd) hDY).trans hDd
          have hDY5 : D ∉ Y' := fun h => (hf _ h).elim hDY (fun hh => by have := lt_of_some hDd; omega)
          have n4 := n3.kept hk4 (.inl (.inr (.inl rfl)))
          have k4 := k3.kept hk4 (.inl (.inr (.inr rfl)))
          have r4 := r3.kept hk4 (.inl (.inl hb))
          have y4 := y3.kept hk4 (.inr rfl)
          have tr4 : IsTr n₀ V4 tr := tr3.keep fun c hc => hk4.2 c (.inl (.inl hc))
          have l4 := n4.lt
          have l5 := y4.lt
          have z4 : n₀ ≤ V4.heap.size := by have := ht.size; have := hk.lt hK3 (c := W.heap.size) (.inr rfl); omega
          clear hy hy0 hRR cy cnV cn ck c0 c2 c3 hj ht hf
          have cn : V4.cell? ⟨nb, 0, none⟩ = some (.pointer (some ⟨b, 0, none⟩)) := n4.cell 0
          have ck : V4.cell? ⟨kb, 0, none⟩ = some (.string key) := k4.cell 0
          have c3 : V4.cell? ⟨b, 3, none⟩ = some (.pointer tr.ptr) := r4.cell 3
          obtain ⟨X5, hX5⟩ : ∃ X2, X2 = Y' := ⟨_, rfl⟩
          rw [← hX5] at hj4 hk4 hDY5
          have hXn5 : ∀ c ∈ X5, ¬ c < n₀ := fun c hc h => hk4.1 c hc (.inl (.inl h))
          have hj4' : J (tl.from key ++ [⟨b, k, v⟩]) X5 V4 := by simpa using hj4
          apply meet
          · intro hT
            (first | gi_region_with_o ((refine ⟨trivial, hdd _, ?_⟩); gi_at_call 70; refine (callsIn_wide.2 (nodes_any _ _ _)).mono ?_; rintro e w' ⟨rfl, rfl⟩) | fail)
            all_goals gi_wp2
            all_goals exact hT.out
          obtain ⟨V5, hV5⟩ : ∃ V, Hid (V = ((V4.alloc (.cells #[.pointer tr.ptr] 105)).alloc (.cells #[.string key] 9)).drew) := ⟨_, rfl⟩
          rw [← hV5.out]
          have t5 : Tur [] V4 V5 := by
            rw [hV5.out]
            exact ((Tur.alloc [] V4 _).trans (Tur.alloc [] _ _) (Fre.refl _ _)).trans (Tur.drew [] _) (Fre.refl _ _)
          have z5 : V5.heap.size = V4.heap.size + 2 := by rw [hV5.out]; simp
          have nn5 : Has V5 V4.heap.size 105 #[.pointer tr.ptr] := by
            rw [hV5.out]
            exact (Has.new V4 _ _).alloc _
          have kk5 : Has V5 (V4.heap.size + 1) 9 #[.string key] := by
            rw [hV5.out]
            have := Has.new (V4.alloc (.cells #[.pointer tr.ptr] 105)) 9 #[.string key]
            rw [World.size_alloc] at this
            exact this
          have tt5 : IsTr n₀ V5 tr := tr4.keep fun c hc => t5.block c (by omega) (by simp)
          have jj5 : J ((tl.from key ++ [⟨b, k, v⟩])) X5 V5 := hJ _ _ _ _ [] hj4' t5 (by simp)
          have xl5 := hJl _ _ _ hj4'
          have hK5 : ∀ c, (fun c => c = W.heap.size ∨ c = D) c → c < V5.heap.size := by
            intro c hc
            have := (fun (c : Nat) (hc : c = W.heap.size ∨ c = D) => (by have := lt_of_some hD5; rcases hc with rfl | rfl <;> omega : c < V4.heap.size)) c hc
            omega
          have kp5 : KeptT (fun c => c = W.heap.size ∨ c = D) V5 X5 V5 := ⟨(fun c hc h => h.elim (fun e => hk4.1 c hc (.inr e)) (fun e => hDY5 (e ▸ hc))), fun _ _ => rfl⟩
          clear hV5
          have y5 : Has V5 W.heap.size 134 #[.func (.yield l) #[] #[]] := y4.tur t5 (by simp)
          have hD5 : V5.heap[D]? = some (.deferred (some [])) := (t5.block D (lt_of_some hD5) (by simp)).trans hD5
          refine wp_tells (xs := tr.from key) rfl rfl (gf := 82) (lb := #[.pointer (some ⟨V4.heap.size, 0, none⟩), .pointer (some ⟨V4.heap.size + 1, 0, none⟩)]) (rfl) trivial (enters_of Tryd.func82 (by kernel_rfl) rfl)
            (ihr V5 V4.heap.size (V4.heap.size + 1) tt5 (by omega) nn5 kk5) (Nat.le_refl _) (fun _ _ => rfl) (by intro c hc; have := nn5.lt; have := kk5.lt; omega) (fun _ => rfl)
            (fun p Y V => J ((tl.from key ++ [⟨b, k, v⟩]) ++ p) Y V ∧ KeptT (fun c => c = W.heap.size ∨ c = D) V5 Y V) (fun c p Y V => c = .ret ∧ Jx ((tl.from key ++ [⟨b, k, v⟩]) ++ p) Y V ∧ KeptT (fun c => c = W.heap.size ∨ c = D) V5 Y V)
            (Stays.and ((hJ.at _).mono (by omega)) (KeptT.stays hK5)) (fun c => Stays.and (Stays.pure _) (Stays.and ((hJx.at _).mono (by omega)) (KeptT.stays hK5))) (fun _ _ _ h => hJl _ _ _ h.1)
            X5 (by intro c hc h; have := xl5 c hc; have := hXn5 c hc; omega) ⟨by rw [List.append_nil]; exact jj5, kp5⟩ ?loop5 ?done5 ?stop5
          case loop5 =>
            apply Exists.intro
            constructor
            · intro m' l' x V K hK
              dsimp only [Nd.enc]
              gi_wp2
              exact hK
            · rintro m' l' p x Y V ⟨hj, hk⟩ hpre
              have hpre2 : (tl.from key ++ [⟨b, k, v⟩]) ++ p ++ [x] <+: (Tr.node b tl k v lo le tr).from key := by
                simpa [Tr.from, hc] using hpre
              obtain ⟨fn, tmps, assign, body, hy0, hRR⟩ := hR (m' - 1) ((tl.from key ++ [⟨b, k, v⟩]) ++ p) x Y V hj hpre2
              have hy : Sem.run Tryd.prog (Instr.yield l #[.pointer (some ⟨x.b, 0, none⟩)]) V = .ok (.round l fn tmps assign body) V := hy0
              have cy : V.cell? ⟨W.heap.size, 0, none⟩ = some (.func (.yield l) #[] #[]) := (y5.kept hk (by simp)).cell 0
              gi_wp2_with ((refine ⟨hdd _, ?_⟩); refine (RoundIn.inR hRR).mono ?_; rintro e V3 ⟨Y', (⟨rfl, hj3⟩ | ⟨rfl, hj3⟩), ht, hf⟩)
              · rw [List.append_assoc] at hj3
                exact ⟨Y', ⟨hj3, hk.step hK5 ht hf⟩, ht, hf⟩
              · rw [List.append_assoc] at hj3
                exact ⟨Y', ⟨rfl, hj3, hk.step hK5 ht hf⟩, ht, hf⟩
          case done5 =>
            rintro D2 Y2 V6 hD2 ⟨hj, hk⟩ hDY2 hDd2
            have hD6 : V6.heap[D]? = some (.deferred (some [])) := (hk.2 D (.inr rfl)).trans hD5
            have hne : D ≠ D2 := by have := lt_of_some hD5; omega
            gi_wp2
            refine ⟨by simp, .inl ⟨_, _, rfl, run_takeDeferred hDd2, ?_⟩⟩
            refine ⟨by simp, .inl ⟨_, _, rfl, run_takeDeferred ((World.putObj_heap_other hne).trans hD6), ?_⟩⟩
            refine ⟨_, results_none rfl _ _ _, ⟨_, rfl⟩, Y2, .inl ?_⟩
            have hq : (tl.from key ++ [⟨b, k, v⟩]) ++ tr.from key = (Tr.node b tl k v lo le tr).from key := by simp [Tr.from, hc]
            rw [← hq]
            have j7 := hJ _ _ _ _ [D2] hj (Tur.putObj (l := D2) V6 (by simp) (.deferred none)) (fun c hcD => by rw [List.mem_singleton.1 hcD]; exact ⟨by omega, hDY2⟩)
            exact hJ _ _ _ _ [D] j7 (Tur.putObj _ (by simp) _) (fun c hcD => by rw [List.mem_singleton.1 hcD]; exact ⟨by omega, fun h => hk.1 _ h (.inr rfl)⟩)
          case stop5 =>
            rintro D2 c p Y2 V6 hD2 ⟨rfl, hj, hk⟩ hDY2 hDd2
            have hD6 : V6.heap[D]? = some (.deferred (some [])) := (hk.2 D (.inr rfl)).trans hD5
            have hne : D ≠ D2 := by have := lt_of_some hD5; omega
            gi_wp2
            refine ⟨by simp, .inl ⟨_, _, rfl, run_takeDeferred hDd2, ?_⟩⟩
            refine ⟨by simp, .inl ⟨_, _, rfl, run_takeDeferred ((World.putObj_heap_other hne).trans hD6), ?_⟩⟩
            refine ⟨_, results_none rfl _ _ _, ⟨_, rfl⟩, Y2, .inr ⟨(tl.from key ++ [⟨b, k, v⟩]) ++ p, ?_⟩⟩
            have j7 := hJx _ _ _ _ [D2] hj (Tur.putObj (l := D2) V6 (by simp) (.deferred none)) (fun c hcD => by rw [List.mem_singleton.1 hcD]; exact ⟨by omega, hDY2⟩)
            exact hJx _ _ _ _ [D] j7 (Tur.putObj _ (by simp) _) (fun c hcD => by rw [List.mem_singleton.1 hcD]; exact ⟨by omega, fun h => hk.1 _ h (.inr rfl)⟩)
        · gi_wp2
          have hD5 : V4.heap[D]? = some (.deferred (some [])) := (ht.block D (lt_of_some hDd) hDY).trans hDd
          have hDY5 : D ∉ Y' := fun h => (hf _ h).elim hDY (fun hh => by have := lt_of_some hDd; omega)
          refine ⟨by simp, .inl ⟨_, _, rfl, run_takeDeferred hD5, ?_⟩⟩
          refine ⟨_, results_none rfl _ _ _, ⟨_, rfl⟩, Y', .inr ⟨[] ++ tl.from key ++ [⟨b, k, v⟩], ?_⟩⟩
          exact hJx _ _ _ _ [D] hj4 (Tur.putObj V4 (by simp) _) (fun c hcD => by rw [List.mem_singleton.1 hcD]; exact ⟨by omega, hDY5⟩)
      case stop3 =>
        rintro D c p Y V hD ⟨rfl, hj, hk⟩ hDY hDd
        gi_wp2
        refine ⟨by simp, .inl ⟨_, _, rfl, run_takeDeferred hDd, ?_⟩⟩
        refine ⟨_, results_none rfl _ _ _, ⟨_, rfl⟩, Y, .inr ⟨[] ++ p, ?_⟩⟩
        exact hJx _ _ _ _ [D] hj (Tur.putObj V (by simp) _) (fun c hcD => by rw [List.mem_singleton.1 hcD]; exact ⟨by omega, hDY⟩)
end Go.Proofs.YtcdjeibcnkpadaaDoor
namespace Go.Proofs.YtcdjeibcnkpadaaDoor
open Go.RowKit Go.Shelf Go.Maps Dg
set_option linter.unusedVariables false
attribute [local go_sem] Oper.semAt_some
/-- Is a key left out, behind one? -/
def skp (after k : ByteArray) : Bool := (k.toList == after.toList) && !after.toList.isEmpty
def outL (after : ByteArray) (xs : List Nd) : List ByteArray := (xs.filter fun x => !skp after x.k).map Nd.k
def keysF (T : Tr) (after : ByteArray) (most : Int) : List ByteArray := if most < 1 then [] else (outL after (T.from after)).take most.toNat
theorem outL_no {after : ByteArray} {pre : List Nd} {x : Nd} (h : skp after x.k = true) : outL after (pre ++ [x]) = outL after pre := by simp [outL, h]
theorem outL_yes {after : ByteArray} {pre : List Nd} {x : Nd} (h : skp after x.k = false) : outL after (pre ++ [x]) = outL after pre ++ [x.k] := by simp [outL, h]
theorem outL_take {after : ByteArray} {pre xs : List Nd} (h : pre <+: xs) : (outL after xs).take (outL after pre).length = outL after pre := by
  obtain ⟨r, rfl⟩ := h
  simp [outL]
theorem outL_len (after : ByteArray) (xs : List Nd) : (outL after xs).length ≤ xs.length := by
  unfold outL
  rw [List.length_map]
  exact List.length_filter_le _ _
theorem from_len (key : ByteArray) : ∀ T : Tr, (T.from key).length ≤ T.size
  | .nil => Nat.le_refl _
  | .node b l k v lo le r => by
    have h1 := from_len key l
    have h2 := from_len key r
    unfold Tr.from Tr.size
    split <;> simp <;> omega
/-- A node that is told lies there. -/
theorem from_at {n : Nat} {w : World} (key : ByteArray) : ∀ {T : Tr}, IsTr n w T → ∀ x ∈ T.from key, x.b < n ∧ w.cell? ⟨x.b, 0, none⟩ = some (.string x.k) ∧ w.cell? ⟨x.b, 1, none⟩ = some (.slice x.v.a x.v.n x.v.c)
  | .nil, _, x, hx => by cases hx
  | .node b l k v lo le r, ⟨h1, h2, h3, h4⟩, x, hx => by
    unfold Tr.from at hx
    rcases List.mem_append.1 hx with hx | hx
    · split at hx
      · cases hx
      · rcases List.mem_append.1 hx with hx | hx
        · exact from_at key h3 x hx
        · rw [List.mem_singleton.1 hx]
          exact ⟨h1, h2.cell 0, h2.cell 1⟩
    · exact from_at key h4 x hx
end Go.Proofs.YtcdjeibcnkpadaaDoor
