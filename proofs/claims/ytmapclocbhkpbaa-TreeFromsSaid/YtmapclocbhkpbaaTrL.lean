/-
  A range over a function that itself ranges over functions: what the iterator tells, and the loop's walk, over footprints: the blocks that a round may turn.
-/
import Derived.Test.YtmapclocbhkpbaaKit
import Derived.RangeFuncNested
import Derived.RangeFuncBound
import Derived.RangeFuncCalls
import Derived.RangeFuncLeaves
namespace Go.Proofs.Ytmapclocbhkpbaa
open Go.RowKit
/-- Whatever was there and is none of X lies as it lay. -/
structure Tur (X : List Nat) (w w' : World) : Prop where
  os : w'.os = w.os
  tape : w'.tape = w.tape
  output : w'.output = w.output
  size : w.heap.size ≤ w'.heap.size
  block : ∀ k, k < w.heap.size → k ∉ X → w'.heap[k]? = w.heap[k]?
/-- What is there now was there, or is new. -/
def Fre (X X' : List Nat) (w : World) : Prop := ∀ b ∈ X', b ∈ X ∨ w.heap.size ≤ b
theorem Tur.refl (X : List Nat) (w : World) : Tur X w w := ⟨rfl, rfl, rfl, Nat.le_refl _, fun _ _ _ => rfl⟩
theorem Fre.refl (X : List Nat) (w : World) : Fre X X w := fun _ h => .inl h
theorem Tur.trans {X X' : List Nat} {a b c : World} (h : Tur X a b) (k : Tur X' b c) (hf : Fre X X' a) : Tur X a c :=
  ⟨k.os.trans h.os, k.tape.trans h.tape, k.output.trans h.output, Nat.le_trans h.size k.size, fun i hi hx => (k.block i (Nat.lt_of_lt_of_le hi h.size) fun hx' => (hf i hx').elim hx (fun hh => by omega)).trans (h.block i hi hx)⟩
theorem Fre.trans {X X' X2 : List Nat} {a b : World} (h : Fre X X' a) (k : Fre X' X2 b) (hs : a.heap.size ≤ b.heap.size) : Fre X X2 a := fun i hi => (k i hi).elim (h i) fun hh => .inr (by omega)
theorem Tur.of_below {X : List Nat} {w w' : World} (h : Below w.heap.size w w') : Tur X w w' := ⟨h.os, h.tape, h.output, h.size, fun k hk _ => h.block k hk⟩
theorem Tur.below {X : List Nat} {w w' : World} {B : Nat} (h : Tur X w w') (hx : ∀ b ∈ X, B ≤ b) (hB : B ≤ w.heap.size) : Below B w w' :=
  ⟨h.os, h.tape, h.output, h.size, fun k hk => h.block k (by omega) fun hh => by have := hx k hh; omega⟩
theorem Tur.setCell {X : List Nat} (w : World) {p : Addr} (hp : p.block ∈ X) (u : Value) : Tur X w (w.setCell p u) :=
  ⟨rfl, rfl, rfl, by simp [World.setCell], fun k _ hx => Below.heap_setCell _ _ _ _ (fun e => hx (e ▸ hp))⟩
theorem Tur.alloc (X : List Nat) (w : World) (o : Obj) : Tur X w (w.alloc o) := Tur.of_below ((Below.refl _ w).alloc (Nat.le_refl _) o)
theorem Tur.drew (X : List Nat) (w : World) : Tur X w w.drew := ⟨rfl, rfl, rfl, Nat.le_refl _, fun _ _ _ => rfl⟩
theorem Tur.grown {X : List Nat} {w w' : World} {row : Option Nat} (hg : w.grownBy w' row) (hr : ∀ k, row = some k → k ∈ X) : Tur X w w' :=
  ⟨hg.os, hg.tape, hg.output, hg.size, fun k hk hx => hg.block k hk fun e => hx (hr k e.symm)⟩
theorem Tur.sub {X Y : List Nat} {w w' : World} (h : Tur X w w') (hs : ∀ b ∈ X, b ∈ Y) : Tur Y w w' := ⟨h.os, h.tape, h.output, h.size, fun k hk hy => h.block k hk fun hx => hy (hs k hx)⟩
theorem Tur.putObj {X : List Nat} (w : World) {l : Nat} (hl : l ∈ X) (o : Obj) : Tur X w (w.putObj l o) :=
  ⟨rfl, rfl, rfl, by simp, fun k _ hx => World.putObj_heap_other (fun e => hx (e ▸ hl))⟩
theorem Has.tur {X : List Nat} {w w' : World} {g : Nat} {t : TypeId} {cs : Array Value} (h : Has w g t cs) (ht : Tur X w w') (hg : g ∉ X) : Has w' g t cs := (ht.block g h.lt hg).trans h
/-- It stands where blocks from B on, none of its own, turn. -/
def Stays {α : Type} (B : Nat) (J : List α → List Nat → World → Prop) : Prop :=
  ∀ pre X W W' Z, J pre X W → Tur Z W W' → (∀ b ∈ Z, B ≤ b ∧ b ∉ X) → J pre X W'
theorem Stays.mono {α : Type} {B C : Nat} {J : List α → List Nat → World → Prop} (h : Stays B J) (hBC : B ≤ C) : Stays C J :=
  fun pre X W W' Z hj ht hz => h pre X W W' Z hj ht fun b hb => ⟨Nat.le_trans hBC (hz b hb).1, (hz b hb).2⟩
/-- What a round of loop l is worth to the iterator. -/
def Round {α : Type} (F : Fence) (P : Program) (l : Nat) (encs : α → Array Value) (xs : List α) (J Jx : List α → List Nat → World → Prop) : Prop :=
  ∀ m pre x X W1, J pre X W1 → pre ++ [x] <+: xs → YieldAt F m P l (encs x) W1 fun e W' =>
    ∃ X', ((e = .returned (.bool true) ∧ J (pre ++ [x]) X' W') ∨ (e = .returned (.bool false) ∧ Jx (pre ++ [x]) X' W')) ∧ Tur X W1 W' ∧ Fre X X' W1
/-- The iterator tells xs, if nothing of K turns. -/
def Tells {α : Type} (F : Fence) (P : Program) (g : Nat) (lb : Array Value) (encs : α → Array Value) (K : Nat → Prop) (xs : List α) (w : World) : Prop :=
  ∀ (n l : Nat) (J Jx : List α → List Nat → World → Prop) (W : World) (X : List Nat), w.heap.size ≤ W.heap.size → (∀ b, K b → W.heap[b]? = w.heap[b]?) → (∀ b ∈ X, ¬ K b) →
    Stays W.heap.size J → Stays W.heap.size Jx → (∀ pre X W, J pre X W → ∀ b ∈ X, b < W.heap.size) → Round F P l encs xs J Jx → J [] X W →
    CallsIn F n P g (#[.func (.yield l) #[] #[]] ++ lb) W fun e W' => (∃ v, e = .returned v) ∧ ∃ X', J xs X' W' ∨ ∃ pre, Jx pre X' W'
/-- How a round's body may be left. -/
def Left {α : Type} (I : List α → List Nat → World → Prop) (Ix : Code → List α → List Nat → World → Prop) (xs : List α) (X : List Nat) (W : World) : Exit → Act → World → Prop
  | .normal, _, W' => ∃ X', I xs X' W' ∧ Tur X W W' ∧ Fre X X' W
  | .ret, _, W' => ∃ X', Ix .ret xs X' W' ∧ Tur X W W' ∧ Fre X X' W
  | .exit id, _, W' => ∃ X', Ix (.exit id) xs X' W' ∧ Tur X W W' ∧ Fre X X' W
  | .goto t, _, W' => ∃ X', Ix (.goto t) xs X' W' ∧ Tur X W W' ∧ Fre X X' W
  | _, _, _ => False
section
variable {F : Fence} {n : Nat} {P : Program}
/-- The loop. -/
theorem wp_tells {α : Type} {g : Operand} {ps : Array Tmp} {assign body : Code} {Q : Exit → Act → World → Prop} {a : Act} {w : World}
    (hd : F.depth = none) (hro : F.round = none) {gf : Nat} {lb : Array Value} (hg : a.eval g = .func (.func gf) #[] lb) (hFg : F.fn gf) (eg : ∀ args w, (callFunc gf args).run P w = .ok (.enter gf args) w)
    {encs : α → Array Value} {K : Nat → Prop} {xs : List α} {w0 : World} (hseq : Tells F P gf lb encs K xs w0) (hw0 : w0.heap.size ≤ w.heap.size) (hK0 : ∀ b, K b → w.heap[b]? = w0.heap[b]?) (hK1 : ∀ b, K b → b < w.heap.size) (hps : ∀ x, (encs x).size = ps.size)
    (I : List α → List Nat → World → Prop) (Ix : Code → List α → List Nat → World → Prop) (hI : Stays w.heap.size I) (hIx : ∀ c, Stays w.heap.size (Ix c)) (hIl : ∀ pre X W, I pre X W → ∀ b ∈ X, b < W.heap.size)
    (X0 : List Nat) (hX0 : ∀ b ∈ X0, ¬ K b) (h0 : I [] X0 w) 
    (hloop : ∃ a₁ : α → Act, (∀ (m l : Nat) (x : α) (W : World) (K : Act → World → Prop), K (a₁ x) W →
        assign.wpIn (F.inRound l) m P (Exit.then K (fun _ _ _ => False)) { tmps := (ps.zip (encs x)).foldl (fun t (p, v) => t.setIfInBounds p v) a.tmps, defers := [] } W) ∧
      ∀ (m l : Nat) (pre : List α) (x : α) (X : List Nat) (W : World), I pre X W → pre ++ [x] <+: xs → body.wpIn (F.inRound l) m P (Left I Ix (pre ++ [x]) X W) (a₁ x) W)
    (hdone : ∀ (D : Nat) (X : List Nat) (W : World), w.heap.size ≤ D → I xs X W → D ∉ X → W.heap[D]? = some (.deferred (some [])) → Q .normal { a with defers := { target := .collected D, args := #[] } :: a.defers } W)
    (hstop : ∀ (D : Nat) (c : Code) (pre : List α) (X : List Nat) (W : World), w.heap.size ≤ D → Ix c pre X W → D ∉ X → W.heap[D]? = some (.deferred (some [])) → c.wpIn F n P Q { a with defers := { target := .collected D, args := #[] } :: a.defers } W) :
    (Code.rangeFunc g ps assign body).wpIn F n P Q a w := by
  obtain ⟨a₁, hassign, hbody⟩ := hloop
  refine wpIn_rangeFunc fun fn hfn => ?_
  rw [hro]
  generalize hD : w.heap.size = D at *
  -- the record, as it is in each state
  let rec_ : LoopState → Option Code → Obj := fun st pe => .loop { state := st, pending := pe, fn, tmps := a.tmps, params := ps, assign, body, defers := D }
  let W1 := (w.alloc (.deferred (some []))).alloc (rec_ .ready none)
  have s1 : W1.heap.size = D + 2 := by show ((w.alloc _).alloc _).heap.size = _; simp [hD]
  have t1 : Tur [] w W1 := (Tur.alloc [] w _).trans (Tur.alloc [] _ _) (Fre.refl _ _)
  have l1 : W1.heap[D + 1]? = some (rec_ .ready none) := by
    have := World.alloc_heap_new (w.alloc (.deferred (some []))) (rec_ .ready none)
    rwa [World.size_alloc, hD] at this
  have d1 : W1.heap[D]? = some (.deferred (some [])) := by
    have h1 := World.alloc_heap_new w (.deferred (some []))
    rw [hD] at h1
    exact (Below.heap_alloc _ _ _ (by simp [hD])).trans h1
  let J : List α → List Nat → World → Prop := fun pre Y W => ∃ X, Y = (D + 1) :: X ∧ I pre X W ∧ D + 1 ∉ X ∧ D ∉ X ∧ W.heap[D + 1]? = some (rec_ .ready none) ∧ W.heap[D]? = some (.deferred (some []))
  let Jx : List α → List Nat → World → Prop := fun pre Y W => ∃ X c, Y = (D + 1) :: X ∧ Ix c pre X W ∧ D ∉ X ∧ D + 1 ∉ X ∧ W.heap[D + 1]? = some (rec_ .done (some c)) ∧ W.heap[D]? = some (.deferred (some []))
  have lt : ∀ {W : World} {k : Nat} {o : Obj}, W.heap[k]? = some o → k < W.heap.size := fun h => (Array.getElem?_eq_some_iff.1 h).1
  have hX0l := hIl _ _ _ h0
  refine ⟨D + 1, [{ target := .collected D, args := #[] }], W1, { target := .fn (.func gf) lb, args := #[.func (.yield (D + 1)) #[] #[]] }, W1, gf, #[.func (.yield (D + 1)) #[] #[]] ++ lb, W1, ?_, ?_, ?_, ?_, (fun h => (by rw [hd] at h; cases h)), ?_⟩
  · have := run_enterLoop_outer (P := P) (w := w) fn a.tmps ps assign body
    rw [hD] at this
    exact this
  · simp only [resolve, hg]
    simp [go_sem]
  · intro f' hf'
    simp [Target.leads] at hf'
    subst hf'
    exact hFg
  · simp [invoke, go_sem, eg]
  refine (hseq (n - 1) (D + 1) J Jx W1 ((D + 1) :: X0) (by omega) (fun b hb => (t1.block b (by have := hK1 b hb; omega) (by simp)).trans (hK0 b hb)) ?_ ?_ ?_ ?_ ?_ ⟨X0, rfl, hI _ _ _ _ [] h0 t1 (by simp), (fun h => (by have := hX0l _ h; omega)), (fun h => (by have := hX0l _ h; omega)), l1, d1⟩).mono ?_
  · intro b hb hk
    rcases List.mem_cons.1 hb with rfl | hb
    · have := hK1 _ hk; omega
    · exact hX0 b hb hk
  · rintro pre Y W W' Z ⟨X, rfl, hi, h1, h2, h3, h4⟩ ht hz
    have hz' : ∀ b ∈ Z, D + 2 ≤ b ∧ b ∉ X := fun b hb => ⟨by have := (hz b hb).1; omega, fun hx => (hz b hb).2 (List.mem_cons_of_mem _ hx)⟩
    exact ⟨X, rfl, hI _ _ _ _ Z hi ht (fun b hb => ⟨by have := (hz' b hb).1; omega, (hz' b hb).2⟩), h1, h2, (ht.block _ (lt h3) fun h => by have := (hz' _ h).1; omega).trans h3, (ht.block _ (lt h4) fun h => by have := (hz' _ h).1; omega).trans h4⟩
  · rintro pre Y W W' Z ⟨X, c, rfl, hi, h1, h2, h3, h4⟩ ht hz
    have hz' : ∀ b ∈ Z, D + 2 ≤ b ∧ b ∉ X := fun b hb => ⟨by have := (hz b hb).1; omega, fun hx => (hz b hb).2 (List.mem_cons_of_mem _ hx)⟩
    exact ⟨X, c, rfl, hIx c _ _ _ _ Z hi ht (fun b hb => ⟨by have := (hz' b hb).1; omega, (hz' b hb).2⟩), h1, h2, (ht.block _ (lt h3) fun h => by have := (hz' _ h).1; omega).trans h3, (ht.block _ (lt h4) fun h => by have := (hz' _ h).1; omega).trans h4⟩
  · rintro pre Y W ⟨X, rfl, hi, h1, h2, h3, h4⟩ b hb
    rcases List.mem_cons.1 hb with rfl | hb
    · exact lt h3
    · exact hIl _ _ _ hi b hb
  · rintro m pre x Y W ⟨X, rfl, hi, h1, h2, h3, h4⟩ hpre
    refine ⟨fn, _, assign, body, run_yield (P := P) (args := encs x) h3 (hps x), roundIn_of_wpIn hfn (hassign m _ x W _ ⟨_, run_beginRound h3 rfl, ?_⟩)⟩
    let W2 := W.putObj (D + 1) (rec_ .busy none)
    have t2 : Tur [D + 1] W W2 := Tur.putObj W (by simp) _
    have h32 : W2.heap[D + 1]? = some (rec_ .busy none) := World.putObj_heap_same (lt h3)
    have h42 : W2.heap[D]? = some (.deferred (some [])) := (t2.block D (lt h4) (by simp)).trans h4
    have s2 : W.heap.size ≤ W2.heap.size := t2.size
    have hone : ∀ b ∈ [D + 1], D ≤ b ∧ b ∉ X := fun b hb => by rw [List.mem_singleton.1 hb]; exact ⟨Nat.le_succ _, h1⟩
    refine wpIn_mono (hbody m (D + 1) pre x X W2 (hI _ _ _ _ _ hi t2 hone) hpre) ?_
    -- behind the body: the record is closed, by whatever way it was left
    have fin : ∀ (jump : Option Code) (X' : List Nat) (W3 : World), Tur X W2 W3 → Fre X X' W2 →
        ∃ W4, (Instr.endRound (D + 1) jump).run P W3 = .ok (.bool jump.isNone) W4 ∧ W4.heap[D + 1]? = some (rec_ (if jump.isNone then .ready else .done) jump) ∧ W4.heap[D]? = some (.deferred (some [])) ∧ Tur [D + 1] W3 W4 ∧ D + 1 ∉ X' ∧ D ∉ X' ∧ Tur ((D + 1) :: X) W W4 ∧ Fre ((D + 1) :: X) ((D + 1) :: X') W := by
      intro jump X' W3 ht hf
      have h33 : W3.heap[D + 1]? = some (rec_ .busy none) := (ht.block _ (lt h32) h1).trans h32
      have h43 : W3.heap[D]? = some (.deferred (some [])) := (ht.block _ (lt h42) h2).trans h42
      have t4 : Tur [D + 1] W3 (W3.putObj (D + 1) (rec_ (if jump.isNone then .ready else .done) jump)) := Tur.putObj W3 (by simp) _
      have sub1 : ∀ b ∈ [D + 1], b ∈ (D + 1) :: X := fun b hb => by rw [List.mem_singleton.1 hb]; exact List.mem_cons_self
      refine ⟨_, run_endRound (P := P) jump h33, World.putObj_heap_same (lt h33), (t4.block D (lt h43) (by simp)).trans h43, t4, fun h => ?_, fun h => ?_, ?_, fun b hb => ?_⟩
      · rcases hf _ h with h | h
        · exact h1 h
        · have := lt h32; omega
      · rcases hf _ h with h | h
        · exact h2 h
        · have := lt h42; omega
      · exact ((t2.sub sub1).trans (ht.sub fun b hb => List.mem_cons_of_mem _ hb) (Fre.refl _ _)).trans (t4.sub sub1) (Fre.refl _ _)
      · rcases List.mem_cons.1 hb with rfl | hb
        · exact .inl List.mem_cons_self
        · rcases hf _ hb with h | h
          · exact .inl (List.mem_cons_of_mem _ h)
          · exact .inr (by omega)
    have one' : ∀ {X' : List Nat}, D + 1 ∉ X' → ∀ b ∈ [D + 1], D ≤ b ∧ b ∉ X' := fun h b hb => by rw [List.mem_singleton.1 hb]; exact ⟨Nat.le_succ _, h⟩
    rintro e a3 W3 hp
    cases e with
    | normal =>
      obtain ⟨X', hi3, ht, hf⟩ := hp
      obtain ⟨W4, hr, h34, h44, t4, n1, n2, tt, ff⟩ := fin none X' W3 ht hf
      exact ⟨_, W4, hr, _, .inl ⟨rfl, X', rfl, hI _ _ _ _ _ hi3 t4 (one' n1), n1, n2, h34, h44⟩, tt, ff⟩
    | ret =>
      obtain ⟨X', hi3, ht, hf⟩ := hp
      obtain ⟨W4, hr, h34, h44, t4, n1, n2, tt, ff⟩ := fin (some .ret) X' W3 ht hf
      exact ⟨_, W4, hr, _, .inr ⟨rfl, X', .ret, rfl, hIx _ _ _ _ _ _ hi3 t4 (one' n1), n2, n1, h34, h44⟩, tt, ff⟩
    | exit id =>
      obtain ⟨X', hi3, ht, hf⟩ := hp
      obtain ⟨W4, hr, h34, h44, t4, n1, n2, tt, ff⟩ := fin (some (.exit id)) X' W3 ht hf
      exact ⟨_, W4, hr, _, .inr ⟨rfl, X', .exit id, rfl, hIx _ _ _ _ _ _ hi3 t4 (one' n1), n2, n1, h34, h44⟩, tt, ff⟩
    | goto t =>
      obtain ⟨X', hi3, ht, hf⟩ := hp
      obtain ⟨W4, hr, h34, h44, t4, n1, n2, tt, ff⟩ := fin (some (.goto t)) X' W3 ht hf
      exact ⟨_, W4, hr, _, .inr ⟨rfl, X', .goto t, rfl, hIx _ _ _ _ _ _ hi3 t4 (one' n1), n2, n1, h34, h44⟩, tt, ff⟩
    | panic ch => exact hp.elim
    | outgrown => exact hp.elim
  · rintro e W2 ⟨⟨v, rfl⟩, Y, (⟨X, rfl, hi, h1, h2, h3, h4⟩ | ⟨pre, X, c, rfl, hi, h2, h1, h3, h4⟩)⟩
    · have t3 : Tur [D + 1] W2 (W2.putObj (D + 1) (rec_ .exhausted none)) := Tur.putObj W2 (by simp) _
      exact ⟨none, _, run_endLoop (P := P) h3 (by simp), hdone D X _ (Nat.le_refl _) (hI _ _ _ _ _ hi t3 fun b hb => by rw [List.mem_singleton.1 hb]; exact ⟨Nat.le_succ _, h1⟩) h2 ((t3.block D (lt h4) (by simp)).trans h4)⟩
    · have t3 : Tur [D + 1] W2 (W2.putObj (D + 1) (rec_ .exhausted (some c))) := Tur.putObj W2 (by simp) _
      exact ⟨some c, _, run_endLoop (P := P) h3 (by simp), hstop D c pre X _ (Nat.le_refl _) (hIx c _ _ _ _ _ hi t3 fun b hb => by rw [List.mem_singleton.1 hb]; exact ⟨Nat.le_succ _, h1⟩) h2 ((t3.block D (lt h4) (by simp)).trans h4)⟩
end
end Go.Proofs.Ytmapclocbhkpbaa
