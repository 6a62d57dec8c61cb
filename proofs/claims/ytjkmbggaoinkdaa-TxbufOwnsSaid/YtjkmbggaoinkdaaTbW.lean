/-
  Events as they lie: at an address, in a row of the call's own; and what stays while some blocks turn.
-/
import Derived.Test.YtjkmbggaoinkdaaTbE
import Derived.OwnWalk
import Derived.Maps.AppendAt
import Derived.Laws.AppendOwnNone
import Derived.Laws.OwnMore
namespace Go.Proofs.Ytjkmbggaoinkdaa
open Go.RowKit Go.Maps Dg
set_option maxRecDepth 100000
set_option linter.unusedVariables false
/-- Whatever was there and is none of X lies as it lay. -/
structure Tur (X : List Nat) (w w' : World) : Prop where
  os : w'.os = w.os
  tape : w'.tape = w.tape
  output : w'.output = w.output
  size : w.heap.size ≤ w'.heap.size
  block : ∀ k, k < w.heap.size → k ∉ X → w'.heap[k]? = w.heap[k]?
/-- What is there now was there, or is new. -/
def Fre (X X' : List Nat) (w : World) : Prop := ∀ b ∈ X', b ∈ X ∨ w.heap.size ≤ b
theorem Tur.refl (X : List Nat) (w : World) : Tur X w w := ⟨rfl, rfl, rfl, Nat.le_refl _, fun _ _ _ => rfl⟩
theorem Fre.refl (X : List Nat) (w : World) : Fre X X w := fun _ h => .inl h
theorem Tur.trans {X X' : List Nat} {a b c : World} (h : Tur X a b) (k : Tur X' b c) (hf : Fre X X' a) : Tur X a c :=
  ⟨k.os.trans h.os, k.tape.trans h.tape, k.output.trans h.output, Nat.le_trans h.size k.size, fun i hi hx => (k.block i (Nat.lt_of_lt_of_le hi h.size) fun hx' => (hf i hx').elim hx (fun hh => by omega)).trans (h.block i hi hx)⟩
theorem Fre.trans {X X' X2 : List Nat} {a b : World} (h : Fre X X' a) (k : Fre X' X2 b) (hs : a.heap.size ≤ b.heap.size) : Fre X X2 a := fun i hi => (k i hi).elim (h i) fun hh => .inr (by omega)
theorem Tur.of_below {X : List Nat} {w w' : World} (h : Below w.heap.size w w') : Tur X w w' := ⟨h.os, h.tape, h.output, h.size, fun k hk _ => h.block k hk⟩
theorem Tur.below {X : List Nat} {w w' : World} {B : Nat} (h : Tur X w w') (hx : ∀ b ∈ X, B ≤ b) (hB : B ≤ w.heap.size) : Below B w w' :=
  ⟨h.os, h.tape, h.output, h.size, fun k hk => h.block k (by omega) fun hh => by have := hx k hh; omega⟩
theorem Tur.setCell {X : List Nat} (w : World) {p : Addr} (hp : p.block ∈ X) (u : Value) : Tur X w (w.setCell p u) :=
  ⟨rfl, rfl, rfl, by simp [World.setCell], fun k _ hx => Below.heap_setCell _ _ _ _ (fun e => hx (e ▸ hp))⟩
theorem Tur.alloc (X : List Nat) (w : World) (o : Obj) : Tur X w (w.alloc o) := Tur.of_below ((Below.refl _ w).alloc (Nat.le_refl _) o)
theorem Tur.drew (X : List Nat) (w : World) : Tur X w w.drew := ⟨rfl, rfl, rfl, Nat.le_refl _, fun _ _ _ => rfl⟩
theorem Tur.grown {X : List Nat} {w w' : World} {row : Option Nat} (hg : w.grownBy w' row) (hr : ∀ k, row = some k → k ∈ X) : Tur X w w' :=
  ⟨hg.os, hg.tape, hg.output, hg.size, fun k hk hx => hg.block k hk fun e => hx (hr k e.symm)⟩
theorem Tur.sub {X Y : List Nat} {w w' : World} (h : Tur X w w') (hs : ∀ b ∈ X, b ∈ Y) : Tur Y w w' := ⟨h.os, h.tape, h.output, h.size, fun k hk hy => h.block k hk fun hx => hy (hs k hx)⟩
theorem Has.tur {X : List Nat} {w w' : World} {g : Nat} {t : TypeId} {cs : Array Value} (h : Has w g t cs) (ht : Tur X w w') (hg : g ∉ X) : Has w' g t cs := (ht.block g h.lt hg).trans h
theorem VRow.tur {X : List Nat} {w w' : World} {A : Option Addr} {L : List Vl} (h : VRow w A L) (ht : Tur X w w') (ho : ∀ a, A = some a → a.block ∉ X) : VRow w' A L := fun hne => by
  obtain ⟨b, off, e, hc⟩ := h hne
  have hb := ho _ e
  have k : ∀ (i : Nat) (v : Value), w.cell? ⟨b, i, none⟩ = some v → w'.cell? ⟨b, i, none⟩ = some v := fun i v h => (World.cell?_of_block (ht.block b (World.block_lt_of_cell? w _ h) hb)).trans h
  exact ⟨b, off, e, fun i hi => ⟨k _ _ (hc i hi).1, k _ _ (hc i hi).2.1, k _ _ (hc i hi).2.2⟩⟩
theorem CRow.tur {X : List Nat} {w w' : World} {A : Option Addr} {L : List Cl} (h : CRow w A L) (ht : Tur X w w') (ho : ∀ a, A = some a → a.block ∉ X) : CRow w' A L := fun hne => by
  obtain ⟨b, off, e, hc⟩ := h hne
  have hb := ho _ e
  have k : ∀ (i : Nat) (v : Value), w.cell? ⟨b, i, none⟩ = some v → w'.cell? ⟨b, i, none⟩ = some v := fun i v h => (World.cell?_of_block (ht.block b (World.block_lt_of_cell? w _ h) hb)).trans h
  exact ⟨b, off, e, fun i hi => ⟨k _ _ (hc i hi).1, k _ _ (hc i hi).2.1, k _ _ (hc i hi).2.2⟩⟩
/-- An event as it lies: what it is, and where its rows are. -/
structure Er where
  x : Ev
  Ab : Option Addr
  nb : Nat
  zb : Nat
  Aa : Option Addr
  na : Nat
  za : Nat
  A : Option Addr
  n : Nat
  c : Nat
def Er.row (r : Er) : List Value := [.int .i64 r.x.k, .int .i64 r.x.n, .string r.x.t, .slice r.Ab r.nb r.zb, .slice r.Aa r.na r.za, .int .i64 r.x.ck, .string r.x.ct, .slice r.A r.n r.c, .int .i64 r.x.K, .string r.x.cl.nm, .int .i64 r.x.cl.k, .bool r.x.cl.no]
def Er.val (r : Er) : Value := .agg #[.int .i64 r.x.k, .int .i64 r.x.n, .string r.x.t, .slice r.Ab r.nb r.zb, .slice r.Aa r.na r.za, .int .i64 r.x.ck, .string r.x.ct, .slice r.A r.n r.c, .int .i64 r.x.K, .string r.x.cl.nm, .int .i64 r.x.cl.k, .bool r.x.cl.no]
/-- Its rows are known. -/
structure Er.ok (w : World) (r : Er) : Prop where
  b : r.x.B.length = r.nb ∧ r.nb ≤ 4398046511104 ∧ VRow w r.Ab r.x.B ∧ (r.Ab = none → r.zb = 0)
  a : r.x.A.length = r.na ∧ r.na ≤ 4398046511104 ∧ VRow w r.Aa r.x.A ∧ (r.Aa = none → r.za = 0)
  c : r.x.L.length = r.n ∧ r.n ≤ 4398046511104 ∧ CRow w r.A r.x.L ∧ (r.A = none → r.c = 0)
theorem Er.ok.below {w w' : World} {r : Er} (h : r.ok w) (hb : Below w.heap.size w w') : r.ok w' :=
  ⟨⟨h.b.1, h.b.2.1, h.b.2.2.1.below hb, h.b.2.2.2⟩, ⟨h.a.1, h.a.2.1, h.a.2.2.1.below hb, h.a.2.2.2⟩, ⟨h.c.1, h.c.2.1, h.c.2.2.1.below hb, h.c.2.2.2⟩⟩
theorem Er.ok.at {w : World} {r : Er} (h : r.ok w) : EvAt w r.val r.x :=
  ⟨r.Ab, r.nb, r.zb, r.Aa, r.na, r.za, r.A, r.n, r.c, rfl, ⟨h.b.1, by have := h.b.2.1; omega, h.b.2.2.1⟩, ⟨h.a.1, by have := h.a.2.1; omega, h.a.2.2.1⟩, h.c.1, by have := h.c.2.1; omega, h.c.2.2.1⟩
/-- Where its rows are is there, is none of X and one of F. -/
def Off (w : World) (X F : List Nat) (A : Option Addr) : Prop := ∀ a, A = some a → a.block < w.heap.size ∧ a.block ∉ X ∧ a.block ∈ F
structure Er.off (w : World) (X F : List Nat) (r : Er) : Prop where
  b : Off w X F r.Ab
  a : Off w X F r.Aa
  c : Off w X F r.A
theorem Off.next {w w' : World} {X X' F F' : List Nat} {A : Option Addr} (h : Off w X F A) (hs : w.heap.size ≤ w'.heap.size) (hf : Fre X X' w) (hF : ∀ k ∈ F, k ∈ F') : Off w' X' F' A := fun a e => by
  obtain ⟨h1, h2, h3⟩ := h a e
  exact ⟨Nat.lt_of_lt_of_le h1 hs, fun hx => (hf _ hx).elim h2 (fun hh => by omega), hF _ h3⟩
theorem Er.off.next {w w' : World} {X X' F F' : List Nat} {r : Er} (h : r.off w X F) (hs : w.heap.size ≤ w'.heap.size) (hf : Fre X X' w) (hF : ∀ k ∈ F, k ∈ F') : r.off w' X' F' :=
  ⟨h.b.next hs hf hF, h.a.next hs hf hF, h.c.next hs hf hF⟩
theorem Er.ok.tur {X Y F : List Nat} {w w' : World} {r : Er} (h : r.ok w) (ho : r.off w X F) (ht : Tur Y w w') (hy : ∀ k ∈ Y, k ∈ X ∨ k ∉ F) : r.ok w' := by
  have q : ∀ A, Off w X F A → ∀ a, A = some a → a.block ∉ Y := fun A hA a e hh => by
    obtain ⟨_, h2, h3⟩ := hA a e
    exact (hy _ hh).elim h2 (fun hn => hn h3)
  exact ⟨⟨h.b.1, h.b.2.1, h.b.2.2.1.tur ht (q _ ho.b), h.b.2.2.2⟩, ⟨h.a.1, h.a.2.1, h.a.2.2.1.tur ht (q _ ho.a), h.a.2.2.2⟩, ⟨h.c.1, h.c.2.1, h.c.2.2.1.tur ht (q _ ho.c), h.c.2.2.2⟩⟩
/-- The cells at A read as the events T. -/
def ERow (w : World) (A : Option Addr) (T : List Er) : Prop := T ≠ [] → ∃ b off, A = some ⟨b, off, none⟩ ∧ ∀ i (h : i < T.length), ∀ j, j < 12 → w.cell? ⟨b, off + i * 12 + j, none⟩ = T[i].row[j]?
theorem ERow.nil (w : World) (A : Option Addr) : ERow w A [] := fun h => absurd rfl h
theorem row12 (r : Er) (j : Nat) (hj : j < 12) : ∃ v, r.row[j]? = some v := ⟨r.row[j]'(by simpa [Er.row] using hj), List.getElem?_eq_getElem _⟩
theorem ERow.keep {w w' : World} {A : Option Addr} {T : List Er} (h : ERow w A T) (hk : ∀ (p : Addr) (u : Value), (∃ b off, A = some ⟨b, off, none⟩ ∧ p.block = b) → w.cell? p = some u → w'.cell? p = some u) : ERow w' A T := fun hne => by
  obtain ⟨b, off, e, hc⟩ := h hne
  refine ⟨b, off, e, fun i hi j hj => ?_⟩
  obtain ⟨v, hv⟩ := row12 T[i] j hj
  have h0 := hc i hi j hj
  rw [hv] at h0 ⊢
  exact hk _ _ ⟨b, off, e, rfl⟩ h0
theorem ERow.below {w w' : World} {A : Option Addr} {T : List Er} (h : ERow w A T) (hb : Below w.heap.size w w') : ERow w' A T :=
  h.keep fun p u _ h => (hb.cell (World.block_lt_of_cell? w p h)).trans h
theorem ERow.tur {X : List Nat} {w w' : World} {A : Option Addr} {T : List Er} (h : ERow w A T) (ht : Tur X w w') (ho : ∀ a, A = some a → a.block ∉ X) : ERow w' A T :=
  h.keep fun p u ⟨b, off, e, ep⟩ h => (World.cell?_of_block (ht.block p.block (World.block_lt_of_cell? w p h) (by rw [ep]; exact ho _ e))).trans h
theorem infoE : (Try.prog.info? 38).map (fun i => (i.zero, i.size, i.bytes)) = some (some (.agg #[.int .i64 0, .int .i64 0, .string ⟨#[]⟩, .slice none 0 0, .slice none 0 0, .int .i64 0, .string ⟨#[]⟩, .slice none 0 0, .int .i64 0, .string ⟨#[]⟩, .int .i64 0, .bool false]), 12, 168) := by kernel_rfl
/-- Events in a row of the call's own. -/
def OwnE (B : Nat) (w : World) (v : Value) (L : List Er) : Prop := w.ownsRow B 38 12 v L.length (L.flatMap Er.row)
theorem ownE_nil (B : Nat) (w : World) : OwnE B w (.slice none 0 0) [] := World.ownsRow_nil _ _ _ _
theorem OwnE.below {B : Nat} {w w' : World} {v : Value} {L : List Er} (h : OwnE B w v L) (hb : Below w.heap.size w w') : OwnE B w' v L := by
  rcases h.2 with ⟨hv, hn⟩ | ⟨g, cap, cur, hv, hg, hh, hc, hcm, hsz, ht⟩
  · exact ⟨h.1, .inl ⟨hv, hn⟩⟩
  · exact ⟨h.1, .inr ⟨g, cap, cur, hv, hg, Has.below (t := 38) (cs := cur) hh hb (Has.lt (t := 38) (cs := cur) hh), hc, hcm, hsz, ht⟩⟩
theorem eflat_len (L : List Er) : (L.flatMap Er.row).length = L.length * 12 := by
  induction L with
  | nil => rfl
  | cons x L ih => rw [List.flatMap_cons, List.length_append, ih]; simp [Er.row]; omega
theorem eflat_get (L : List Er) (i j : Nat) (h : i < L.length) (hj : j < 12) : (L.flatMap Er.row)[i * 12 + j]? = L[i].row[j]? := by
  induction L generalizing i with
  | nil => simp at h
  | cons x L ih =>
    rw [List.flatMap_cons]
    rcases i with _ | i
    · rw [List.getElem?_append_left (by simp [Er.row]; omega)]
      simp
    · rw [List.getElem?_append_right (by simp [Er.row]; omega)]
      have e : (i + 1) * 12 + j - x.row.length = i * 12 + j := by simp [Er.row]; omega
      rw [e, ih i (by simpa using h)]
      simp
/-- Where it lies, if anywhere: its own block. -/
theorem ownE_row {B : Nat} {w : World} {v : Value} {T : List Er} (h : OwnE B w v T) : ∃ A c, v = .slice A T.length c ∧ T.length ≤ c ∧ c ≤ maxLen ∧ ERow w A T ∧ (A = none → c = 0) ∧ (∀ a, A = some a → v.ownBlock = some a.block ∧ B ≤ a.block ∧ a.block < w.heap.size) := by
  rcases h.2 with ⟨hv, hn⟩ | ⟨g, cap, cur, hv, hg, hh, hc, hcm, hsz, ht⟩
  · obtain rfl := List.eq_nil_of_length_eq_zero hn
    exact ⟨none, 0, hv, Nat.le_refl _, Nat.zero_le _, fun h => absurd rfl h, (fun _ => rfl), (fun a e => by cases e)⟩
  · refine ⟨_, _, hv, hc, hcm, fun _ => ⟨g, 0, rfl, fun i hi j hj => ?_⟩, (fun e => by cases e), fun a e => ?_⟩
    · rw [Nat.zero_add, Has.cell (t := 38) (cs := cur) hh, ← eflat_get T i j hi hj, ← ht, List.getElem?_take, if_pos (by omega)]
      simp
    · obtain rfl : (⟨g, 0, none⟩ : Addr) = a := Option.some.inj e
      rw [hv]
      exact ⟨rfl, hg, Has.lt (t := 38) (cs := cur) hh⟩
/-- A row of the call's own, its length under a letter. -/
theorem ownE_open {B : Nat} {w : World} {v : Value} {T : List Er} (h : OwnE B w v T) : ∃ A n c, v = .slice A n c ∧ Hid (T.length = n) ∧ n ≤ c ∧ c ≤ maxLen ∧ Hid (ERow w A T) ∧ Hid (A = none → c = 0) ∧ Hid (∀ a, A = some a → (Value.slice A n c).ownBlock = some a.block ∧ B ≤ a.block ∧ a.block < w.heap.size) := by
  obtain ⟨A, c, e, h1, h2, h3, h4, h5⟩ := ownE_row h
  subst e
  exact ⟨A, T.length, c, rfl, rfl, h1, h2, h3, h4, h5⟩
theorem OwnE.tur {X : List Nat} {B : Nat} {w w' : World} {v : Value} {T : List Er} (h : OwnE B w v T) (ht : Tur X w w') (hx : ∀ g, v.ownBlock = some g → g ∉ X) : OwnE B w' v T := by
  rcases h.2 with ⟨hv, hn⟩ | ⟨g, cap, cur, hv, hg, hh, hc, hcm, hsz, htk⟩
  · exact ⟨h.1, .inl ⟨hv, hn⟩⟩
  · exact ⟨h.1, .inr ⟨g, cap, cur, hv, hg, Has.tur (t := 38) (cs := cur) hh ht (hx g (by rw [hv]; rfl)), hc, hcm, hsz, htk⟩⟩
theorem OwnE.mono {B C : Nat} {w : World} {v : Value} {T : List Er} (h : OwnE B w v T) (hc : C ≤ B) : OwnE C w v T := by
  rcases h.2 with ⟨hv, hn⟩ | ⟨g, cap, cur, hv, hg, r⟩
  · exact ⟨h.1, .inl ⟨hv, hn⟩⟩
  · exact ⟨h.1, .inr ⟨g, cap, cur, hv, Nat.le_trans hc hg, r⟩⟩
/-- One event is put behind a row of the call's own. -/
theorem appE (w : World) (g : Nat) (hg0 : g = w.heap.size) (B : Nat) (v : Value) (T : List Er) (r : Er) (h : OwnE B w v T) (hB : B ≤ w.heap.size) (hl : T.length ≤ 1000000) :
    ∃ R W', (Builtin.append_ #[22, 22] 22 #[v, .slice (some ⟨g, 0, none⟩) 1 1]).run Try.prog (w.alloc (.cells #[.int .i64 r.x.k, .int .i64 r.x.n, .string r.x.t, .slice r.Ab r.nb r.zb, .slice r.Aa r.na r.za, .int .i64 r.x.ck, .string r.x.ct, .slice r.A r.n r.c, .int .i64 r.x.K, .string r.x.cl.nm, .int .i64 r.x.cl.k, .bool r.x.cl.no] 38)) = .ok R W' ∧ OwnE B W' R (T ++ [r]) ∧ Tur v.ownBlock.toList w W' ∧ (∀ k, R.ownBlock = some k → v.ownBlock = some k ∨ w.heap.size ≤ k) := by
  subst hg0
  obtain ⟨i0, hi, hz0, hz1, hz2⟩ := info_parts infoE
  obtain ⟨R, W', hrun, hown, hg, _, hx⟩ := run_append_own_at (P := Try.prog) (w.alloc (.cells r.row.toArray 38)) B 22 22 38 i0 _ 12 168 Try.underlying22 hi hz0 hz1 hz2 rfl (by decide) v T.length (T.flatMap Er.row) (World.ownsRow.alloc h _)
    ⟨w.heap.size, 0, none⟩ 1 1 r.row rfl (fun j u hj => by
      have := (Has.new w 38 r.row.toArray).cell j
      rw [List.getElem?_toArray] at this
      rw [Addr.add_lit, Nat.zero_add]
      exact this.trans hj) (fun u hu => by simp [Er.row] at hu; rcases hu with rfl | rfl | rfl | rfl | rfl | rfl | rfl | rfl | rfl | rfl | rfl | rfl <;> rfl) (by unfold maxLen; omega) (by omega) (by simp; omega)
  refine ⟨R, W', hrun, ?_, ?_, ?_⟩
  · unfold OwnE; rw [List.flatMap_append, List.length_append]; simpa using hown
  · exact (Tur.alloc _ w _).trans (Tur.grown hg fun k hk => by rw [hk]; simp) (Fre.refl _ _)
  · intro k hk
    rcases hx with hx | hx
    · exact .inl (hx ▸ hk)
    · rw [hx] at hk
      injection hk with hk
      have : (w.alloc (.cells r.row.toArray 38)).heap.size = w.heap.size + 1 := by simp
      exact .inr (by omega)
/-- Events are put behind a row of the call's own. -/
theorem appEs (w : World) (B : Nat) (v : Value) (T : List Er) (A : Option Addr) (n c : Nat) (M : List Er) (h : OwnE B w v T) (hB : B ≤ w.heap.size) (hM : M.length = n) (hr : ERow w A M) (hA : A = none → c = 0) (hl : T.length + n ≤ 1000000) :
    ∃ R W', (Builtin.append_ #[22, 22] 22 #[v, .slice A n c]).run Try.prog w = .ok R W' ∧ OwnE B W' R (T ++ M) ∧ Tur v.ownBlock.toList w W' ∧ (∀ k, R.ownBlock = some k → v.ownBlock = some k ∨ w.heap.size ≤ k) := by
  obtain ⟨i0, hi, hz0, hz1, hz2⟩ := info_parts infoE
  subst hM
  cases A with
  | none =>
    obtain rfl : M = [] := Classical.byContradiction fun hne => by obtain ⟨b, off, e, _⟩ := hr hne; cases e
    obtain rfl := hA rfl
    refine ⟨v, w, run_append_owned_none w B 22 22 38 i0 12 Try.underlying22 hi v _ _ h, ?_, Tur.refl _ _, fun k hk => .inl hk⟩
    rw [List.append_nil]
    exact h
  | some a =>
    obtain ⟨R, W', hrun, hown, hg, _, hx⟩ := run_append_own_at (P := Try.prog) w B 22 22 38 i0 _ 12 168 Try.underlying22 hi hz0 hz1 hz2 rfl (by decide) v T.length (T.flatMap Er.row) h
      a M.length c (M.flatMap Er.row) (eflat_len M) (fun j u hj => by
        have hjl : j < M.length * 12 := by
          have := (List.getElem?_eq_some_iff.1 hj).1
          rwa [eflat_len] at this
        have hne : M ≠ [] := fun e => by rw [e] at hjl; simp at hjl
        obtain ⟨b, off, e, hc⟩ := hr hne
        injection e with e
        subst e
        have hi : j / 12 < M.length := by omega
        have ej : j = j / 12 * 12 + j % 12 := by omega
        have q := hc (j / 12) hi (j % 12) (by omega)
        rw [ej, eflat_get M (j / 12) (j % 12) hi (by omega)] at hj
        rw [Addr.add_lit, ej, ← Nat.add_assoc]
        exact q.trans hj) (fun u hu => by
        obtain ⟨r, _, hu⟩ := List.mem_flatMap.1 hu
        simp [Er.row] at hu; rcases hu with rfl | rfl | rfl | rfl | rfl | rfl | rfl | rfl | rfl | rfl | rfl | rfl <;> rfl) (by unfold maxLen; omega) (by omega) hB
    refine ⟨R, W', hrun, ?_, ?_, ?_⟩
    · unfold OwnE; rw [List.flatMap_append, List.length_append]; exact hown
    · exact Tur.grown hg fun k hk => by rw [hk]; simp
    · intro k hk
      rcases hx with hx | hx
      · exact .inl (hx ▸ hk)
      · rw [hx] at hk
        injection hk with hk
        exact .inr (by omega)
end Go.Proofs.Ytjkmbggaoinkdaa
