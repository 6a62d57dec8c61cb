/-
  A disk in memory: what lies where, and what stands while it turns.
-/
import Derived.Test.YtoooainecoappaaDkM
import Derived.Test.YtoooainecoappaaStr
import Derived.Maps.AppendAt
namespace Go.Proofs.Ytoooainecoappaa
open Go.RowKit Go.Maps Go.WideShapes Dg
theorem info5 : (Try.prog.info? 5).map (fun i => (i.zero, i.size, i.bytes)) = some (some (.int .u8 0), 1, 1) := by kernel_rfl
/-- Bytes in a row of the call's own. -/
def Own (B : Nat) (w : World) (v : Value) (l : List Nat) : Prop := w.ownsRow B 5 1 v l.length (l.map bv)
theorem own_nil (B : Nat) (w : World) : Own B w (.slice none 0 0) [] := World.ownsRow_nil _ _ _ _
theorem own_full {B : Nat} {w : World} {v : Value} {l : List Nat} (h : Own B w v l) : ∃ A c, v = .slice A l.length c ∧ l.length ≤ c ∧ c ≤ maxLen ∧ Rd w A l ∧ (A = none → c = 0) ∧ ∀ a, A = some a → v.ownBlock = some a.block ∧ a = ⟨a.block, 0, none⟩ := by
  rcases h.2 with ⟨hv, hn⟩ | ⟨g, cap, cur, hv, _, hh, hc, hcm, _, ht⟩
  · obtain rfl := List.eq_nil_of_length_eq_zero hn
    exact ⟨none, 0, hv, Nat.le_refl _, Nat.zero_le _, Rd.nil _ _, fun _ => rfl, fun a e => by cases e⟩
  · subst hv
    have hr : Rd w (some ⟨g, 0, none⟩) l := Rd.of_has (t := 5) (cs := cur) hh fun i hi => by
      have h1 : (l.map bv)[i]? = some (bv l[i]) := by simp [hi]
      rw [← ht, List.getElem?_take, if_pos (by omega)] at h1
      simpa using h1
    refine ⟨some ⟨g, 0, none⟩, cap, rfl, hc, hcm, hr, ?_, ?_⟩
    · intro e; cases e
    · intro a e; cases e; exact ⟨rfl, rfl⟩
/-- A row stays where its block stays. -/
theorem Own.keep {B : Nat} {w w' : World} {v : Value} {l : List Nat} (h : Own B w v l) (hb : ∀ g, v.ownBlock = some g → w'.heap[g]? = w.heap[g]?) : Own B w' v l := by
  refine ⟨h.1, ?_⟩
  rcases h.2 with hn | ⟨g, cap, cur, rfl, hge, hh, r⟩
  · exact .inl hn
  · exact .inr ⟨g, cap, cur, rfl, hge, (hb g rfl).trans hh, r⟩
/-- The first k of it. -/
theorem Own.cut {B : Nat} {w : World} {A : Option Addr} {l : List Nat} {n c : Nat} (h : Own B w (.slice A n c) l) (k : Nat) (hk : k ≤ l.length) : Own B w (.slice A k c) (l.take k) := by
  have hl : (l.take k).length = k := by rw [List.length_take]; omega
  refine ⟨by simp, ?_⟩
  rcases h.2 with ⟨hv, hn⟩ | ⟨g, cap, cur, hv, hge, hh, hc, hcm, hsz, ht⟩
  · cases hv
    exact .inl ⟨by rw [show k = 0 by omega], by omega⟩
  · injection hv with e1 e2 e3
    subst e1; subst e2; subst e3
    refine .inr ⟨g, c, cur, by rw [hl], hge, hh, by omega, hcm, hsz, ?_⟩
    rw [hl, Nat.mul_one, List.map_take, ← ht, List.take_take, Nat.mul_one, Nat.min_eq_left hk]
set_option maxRecDepth 100000 in
/-- An append onto it, from wherever. -/
theorem own_app (w : World) (v : Value) (l : List Nat) (h : Own 0 w v l) (A : Option Addr) (m : List Nat) (k c : Nat) (hk : m.length = k) (hm : Rd w A m) (hs : l.length + k ≤ 1000000) (hA : A = none → c = 0) :
    ∃ R W', (Builtin.append_ #[28, 28] 28 #[v, .slice A k c]).run Try.prog w = .ok R W' ∧ Own 0 W' R (l ++ m) ∧ w.grownBy W' v.ownBlock ∧ (R.ownBlock = v.ownBlock ∨ R.ownBlock = some w.heap.size) := by
  subst hk
  obtain ⟨i0, hi, hz0, hz1, hz2⟩ := info_parts info5
  rcases A with _ | a
  · have hl : m = [] := by
      rcases m with _ | ⟨x, m⟩
      · rfl
      · obtain ⟨b, off, e, _⟩ := hm (by simp)
        cases e
    subst hl
    rw [hA rfl, List.append_nil]
    exact ⟨v, w, run_append_owned_none w 0 28 28 5 i0 1 Try.underlying28 hi v _ _ h, h, ⟨rfl, rfl, rfl, Nat.le_refl _, fun _ _ _ => rfl⟩, .inl rfl⟩
  · have hc : ∀ j u, (m.map bv)[j]? = some u → w.cell? (a.add j) = some u := by
      intro j u hj
      have hjl : j < m.length := by
        have := (List.getElem?_eq_some_iff.1 hj).1
        simpa using this
      obtain ⟨b, off, e, hc⟩ := hm (by rintro rfl; simp at hjl)
      injection e with e
      subst e
      rw [Addr.add_lit, hc j hjl]
      simpa [hjl] using hj
    obtain ⟨R, W', hrun, hown, hg, _, ho⟩ := run_append_own_at (P := Try.prog) w 0 28 28 5 i0 (.int .u8 0) 1 1 Try.underlying28 hi hz0 hz1 hz2 rfl (by decide) v l.length (l.map bv) h a m.length c (m.map bv) (by simp) hc (bv_one m) (by unfold maxLen; omega) (by omega) (Nat.zero_le _)
    refine ⟨R, W', hrun, ?_, hg, ho⟩
    unfold Own; rw [List.map_append, List.length_append]; exact hown

/-! ### what turns -/
/-- Whatever was there and is none of X lies as it lay. -/
structure Tur (X : List Nat) (w w' : World) : Prop where
  os : w'.os = w.os
  tape : w'.tape = w.tape
  output : w'.output = w.output
  size : w.heap.size ≤ w'.heap.size
  block : ∀ k, k < w.heap.size → k ∉ X → w'.heap[k]? = w.heap[k]?
/-- What is there now was there, or is new. -/
def Fre (X X' : List Nat) (w : World) : Prop := ∀ b ∈ X', b ∈ X ∨ w.heap.size ≤ b
theorem Tur.refl (X : List Nat) (w : World) : Tur X w w := ⟨rfl, rfl, rfl, Nat.le_refl _, fun _ _ _ => rfl⟩
theorem Fre.refl (X : List Nat) (w : World) : Fre X X w := fun _ h => .inl h
theorem Tur.trans {X X' : List Nat} {a b c : World} (h : Tur X a b) (k : Tur X' b c) (hf : Fre X X' a) : Tur X a c :=
  ⟨k.os.trans h.os, k.tape.trans h.tape, k.output.trans h.output, Nat.le_trans h.size k.size, fun i hi hx => (k.block i (Nat.lt_of_lt_of_le hi h.size) fun hx' => (hf i hx').elim hx (fun hh => by omega)).trans (h.block i hi hx)⟩
theorem Fre.trans {X X' X2 : List Nat} {a b : World} (h : Fre X X' a) (k : Fre X' X2 b) (hs : a.heap.size ≤ b.heap.size) : Fre X X2 a := fun i hi => (k i hi).elim (h i) fun hh => .inr (by omega)
theorem Tur.of_below {X : List Nat} {w w' : World} (h : Below w.heap.size w w') : Tur X w w' := ⟨h.os, h.tape, h.output, h.size, fun k hk _ => h.block k hk⟩
theorem Tur.below {X : List Nat} {w w' : World} {B : Nat} (h : Tur X w w') (hx : ∀ b ∈ X, B ≤ b) (hB : B ≤ w.heap.size) : Below B w w' :=
  ⟨h.os, h.tape, h.output, h.size, fun k hk => h.block k (by omega) fun hh => by have := hx k hh; omega⟩
theorem Tur.setCell {X : List Nat} (w : World) {p : Addr} (hp : p.block ∈ X) (u : Value) : Tur X w (w.setCell p u) :=
  ⟨rfl, rfl, rfl, by simp [World.setCell], fun k _ hx => Below.heap_setCell _ _ _ _ (fun e => hx (e ▸ hp))⟩
theorem Tur.alloc (X : List Nat) (w : World) (o : Obj) : Tur X w (w.alloc o) := Tur.of_below ((Below.refl _ w).alloc (Nat.le_refl _) o)
theorem Tur.drew (X : List Nat) (w : World) : Tur X w w.drew := ⟨rfl, rfl, rfl, Nat.le_refl _, fun _ _ _ => rfl⟩
theorem Tur.grown {X : List Nat} {w w' : World} {row : Option Nat} (hg : w.grownBy w' row) (hr : ∀ k, row = some k → k ∈ X) : Tur X w w' :=
  ⟨hg.os, hg.tape, hg.output, hg.size, fun k hk hx => hg.block k hk fun e => hx (hr k e.symm)⟩
theorem Tur.sub {X Y : List Nat} {w w' : World} (h : Tur X w w') (hs : ∀ b ∈ X, b ∈ Y) : Tur Y w w' := ⟨h.os, h.tape, h.output, h.size, fun k hk hy => h.block k hk fun hx => hy (hs k hx)⟩
theorem Has.tur {X : List Nat} {w w' : World} {g : Nat} {t : TypeId} {cs : Array Value} (h : Has w g t cs) (ht : Tur X w w') (hg : g ∉ X) : Has w' g t cs := (ht.block g h.lt hg).trans h

/-! ### the disk -/
/-- How a map's element reads: by the block to which it points. -/
def ptrR : Value → Option (DataW Unit × List MemPlace)
  | .pointer none => some (.lit (.int .i64 (-1)), [])
  | .pointer (some ⟨b, 0, none⟩) => some (.lit (.int .i64 b), [])
  | _ => none
theorem ptrR_inv {v : Value} {y : DataW Unit × List MemPlace} (h : ptrR v = some y) : (v = .pointer none ∧ y = (.lit (.int .i64 (-1)), [])) ∨ ∃ b : Nat, v = .pointer (some ⟨b, 0, none⟩) ∧ y = (.lit (.int .i64 b), []) := by
  unfold ptrR at h
  split at h
  · cases h; exact .inl ⟨rfl, rfl⟩
  · cases h; exact .inr ⟨_, rfl, rfl⟩
  · cases h
theorem ptrR_at {v : Value} {b : Nat} {ps : List MemPlace} (h : ptrR v = some (.lit (.int .i64 b), ps)) : v = .pointer (some ⟨b, 0, none⟩) := by
  rcases ptrR_inv h with ⟨_, e⟩ | ⟨c, rfl, e⟩
  · simp only [Prod.mk.injEq, DataW.lit.injEq, Lit.int.injEq, true_and] at e
    omega
  · simp only [Prod.mk.injEq, DataW.lit.injEq, Lit.int.injEq, true_and] at e
    rw [show c = b by omega]
theorem ptrR_nil {v : Value} {ps : List MemPlace} (h : ptrR v = some (.lit (.int .i64 (-1)), ps)) : v = .pointer none := by
  rcases ptrR_inv h with ⟨rfl, _⟩ | ⟨c, rfl, e⟩
  · rfl
  · simp only [Prod.mk.injEq, DataW.lit.injEq, Lit.int.injEq, true_and] at e
    omega
theorem strK : Keyed Try.prog 9 := string_keyed Try.underlying9
/-- A file as it lies. -/
structure FAt (w : World) (f : Fl) : Prop where
  top : Has w f.blk 99 #[f.v, .int .i64 f.k]
  own : Own 0 w f.v f.l
  kept : f.k ≤ f.l.length
  byte : ∀ x ∈ f.l, x < 256
def Fl.bs (f : Fl) : List Nat := f.blk :: f.v.ownBlock.toList
/-- The same disk as numbers and texts. -/
structure Ds where
  room : Nat
  fs : List Pf
  armed : Int
  down : Bool
/-- The blocks of a disk. -/
def foot (d m : Nat) (gs : List Fl) : List Nat := d :: m :: gs.flatMap Fl.bs
structure DIn (B d : Nat) (w : World) (S : Ds) (m : Nat) (gs : List Fl) : Prop where
  fs : gs.map Fl.pf = S.fs
  top : Has w d 64 #[.int .i64 S.room, .map (some m), .int .i64 S.armed, .bool S.down]
  map : w.ownsMap Try.prog 9 ptrR m gs.length (.map (gs.map ent))
  rise : Rise gs
  files : ∀ f ∈ gs, FAt w f
  nd : (foot d m gs).Nodup
  ge : ∀ b ∈ foot d m gs, B ≤ b
  full : tot S.fs ≤ S.room
  room : S.room ≤ 1000
  arm : -9223372036854775808 ≤ S.armed ∧ S.armed ≤ 9223372036854775807
def DAt (B d : Nat) (w : World) (S : Ds) (X : List Nat) : Prop := ∃ m gs, X = foot d m gs ∧ DIn B d w S m gs
/-- What a call on a disk leaves. -/
def Out (B d : Nat) (X : List Nat) (w : World) (S : Ds) (w' : World) : Prop := ∃ X', DAt B d w' S X' ∧ Tur X w w' ∧ Fre X X' w

section
variable {B d : Nat} {w w' : World} {S : Ds} {m : Nat} {gs : List Fl}
theorem foot_mem {f : Fl} (hf : f ∈ gs) {b : Nat} (hb : b ∈ f.bs) : b ∈ foot d m gs := by
  unfold foot
  exact List.mem_cons_of_mem _ (List.mem_cons_of_mem _ (List.mem_flatMap.2 ⟨f, hf, hb⟩))
theorem blk_mem (f : Fl) : f.blk ∈ f.bs := List.mem_cons_self
theorem own_mem (f : Fl) {g : Nat} (h : f.v.ownBlock = some g) : g ∈ f.bs := by unfold Fl.bs; rw [h]; simp
theorem bs_iff (f : Fl) {b : Nat} : b ∈ f.bs ↔ b = f.blk ∨ f.v.ownBlock = some b := by
  unfold Fl.bs
  cases f.v.ownBlock <;> simp [eq_comm]
theorem own_lt {v : Value} {l : List Nat} (h : Own 0 w v l) {g : Nat} (hg : v.ownBlock = some g) : g < w.heap.size := (World.ownsRow.lt h g hg).2
theorem DIn.lt (h : DIn B d w S m gs) : ∀ b ∈ foot d m gs, b < w.heap.size := by
  intro b hb
  unfold foot at hb
  rcases List.mem_cons.1 hb with rfl | hb
  · exact h.top.lt
  · rcases List.mem_cons.1 hb with rfl | hb
    · exact h.map.lt
    · obtain ⟨f, hf, hb⟩ := List.mem_flatMap.1 hb
      rcases (bs_iff f).1 hb with rfl | hb
      · exact (h.files f hf).top.lt
      · exact own_lt (h.files f hf).own hb
theorem map_keep {n : Nat} {D : DataW Unit} (h : w.ownsMap Try.prog 9 ptrR m n D) (hb : w'.heap[m]? = w.heap[m]?) : w'.ownsMap Try.prog 9 ptrR m n D := by
  obtain ⟨es, clock, hh, F, hs, hD⟩ := h
  exact ⟨es, clock, hb.trans hh, F, hs, hD⟩
/-- The bound is the number of entries. -/
theorem map_tight {n : Nat} {D : DataW Unit} (h : w.ownsMap Try.prog 9 ptrR m n D) : w.ownsMap Try.prog 9 ptrR m (Maps.size D) D := by
  obtain ⟨es, clock, hh, F, hs, rfl⟩ := h
  refine ⟨es, clock, hh, F, ?_, rfl⟩
  rw [Maps.size_eq, length_sorted, List.length_map, Array.length_toList]
  exact Nat.le_refl _
theorem FAt.keep {f : Fl} (h : FAt w f) (hb : ∀ b ∈ f.bs, w'.heap[b]? = w.heap[b]?) : FAt w' f :=
  ⟨(hb _ (blk_mem f)).trans h.top, h.own.keep fun g hg => hb g (own_mem f hg), h.kept, h.byte⟩
theorem DIn.keep (h : DIn B d w S m gs) (hb : ∀ b ∈ foot d m gs, w'.heap[b]? = w.heap[b]?) : DIn B d w' S m gs where
  fs := h.fs
  top := (hb d (by simp [foot])).trans h.top
  map := map_keep h.map (hb m (by simp [foot]))
  rise := h.rise
  files := fun f hf => (h.files f hf).keep fun b hm => hb b (foot_mem hf hm)
  nd := h.nd
  ge := h.ge
  full := h.full
  room := h.room
  arm := h.arm
theorem DIn.tur {X : List Nat} (h : DIn B d w S m gs) (ht : Tur X w w') (hx : ∀ b ∈ foot d m gs, b ∉ X) : DIn B d w' S m gs :=
  h.keep fun b hb => ht.block b (h.lt b hb) (hx b hb)
theorem DIn.below (h : DIn B d w S m gs) (hb : Below w.heap.size w w') : DIn B d w' S m gs := h.keep fun b hm => hb.block b (h.lt b hm)
theorem DIn.dm (h : DIn B d w S m gs) : d ≠ m := by
  have := h.nd
  unfold foot at this
  intro e
  subst e
  simp at this
theorem DIn.d_not (h : DIn B d w S m gs) : ∀ f ∈ gs, ∀ b ∈ f.bs, d ≠ b ∧ m ≠ b := by
  intro f hf b hb
  have hm : b ∈ gs.flatMap Fl.bs := List.mem_flatMap.2 ⟨f, hf, hb⟩
  have := h.nd
  unfold foot at this
  simp only [List.nodup_cons, List.mem_cons, not_or] at this
  exact ⟨fun e => this.1.2 (e ▸ hm), fun e => this.2.1 (e ▸ hm)⟩
/-- The first row's numbers turn alone. -/
theorem DIn.tops (h : DIn B d w S m gs) (a : Int) (q : Bool) (ha : -9223372036854775808 ≤ a ∧ a ≤ 9223372036854775807) (ht : Has w' d 64 #[.int .i64 S.room, .map (some m), .int .i64 a, .bool q])
    (hb : ∀ b ∈ foot d m gs, b ≠ d → w'.heap[b]? = w.heap[b]?) : DIn B d w' { S with armed := a, down := q } m gs where
  fs := h.fs
  top := ht
  map := map_keep h.map (hb m (by simp [foot]) h.dm.symm)
  rise := h.rise
  files := fun f hf => (h.files f hf).keep fun b hm => hb b (foot_mem hf hm) fun e => (h.d_not f hf b hm).1 e.symm
  nd := h.nd
  ge := h.ge
  full := h.full
  room := h.room
  arm := ha
theorem DIn.arms (h : DIn B d w S m gs) (a : Int) (ha : -9223372036854775808 ≤ a ∧ a ≤ 9223372036854775807) : DIn B d (w.setCell ⟨d, 2, none⟩ (.int .i64 a)) { S with armed := a } m gs :=
  h.tops a S.down ha (h.top.put 2 (.int .i64 a)) fun _ _ hd => Below.heap_setCell _ _ _ _ hd
theorem DIn.downs (h : DIn B d w S m gs) (q : Bool) : DIn B d (w.setCell ⟨d, 3, none⟩ (.bool q)) { S with down := q } m gs :=
  h.tops S.armed q h.arm (h.top.put 3 (.bool q)) fun _ _ hd => Below.heap_setCell _ _ _ _ hd
theorem DIn.has_iff (h : DIn B d w S m gs) (nm : List UInt8) : hasP nm S.fs = gs.any fun f => f.nm == nm := by
  rw [← h.fs]
  unfold hasP
  rw [List.any_map]
  rfl
theorem DIn.get (h : DIn B d w S m gs) {nm : List UInt8} (hh : hasP nm S.fs = true) : ∃ f ∈ gs, f.nm = nm ∧ getP nm S.fs = some f.pf ∧ gs.find? (fun g => g.nm == nm) = some f := by
  rw [h.has_iff] at hh
  obtain ⟨f, hf, hn⟩ := List.any_eq_true.1 hh
  have hn' : f.nm = nm := by simpa using hn
  have h1 := find_rise h.rise hf hn'
  refine ⟨f, hf, hn', ?_, h1⟩
  rw [← h.fs]
  unfold getP
  rw [List.find?_map]
  have e : ((fun p : Pf => p.nm == nm) ∘ Fl.pf) = fun g => g.nm == nm := rfl
  rw [e, h1]
  rfl
theorem DIn.no (h : DIn B d w S m gs) {nm : List UInt8} (hh : hasP nm S.fs = false) : ∀ f ∈ gs, f.nm ≠ nm := by
  rw [h.has_iff] at hh
  intro f hf
  simpa using List.any_eq_false.1 hh f hf
/-- Another row of files under the same map block. -/
theorem DIn.remap (h : DIn B d w S m gs) {gs' : List Fl} (hm : w'.ownsMap Try.prog 9 ptrR m gs'.length (.map (gs'.map ent))) (hd : w'.heap[d]? = w.heap[d]?) (hr : Rise gs') (hf : ∀ f ∈ gs', FAt w' f)
    (hn : (gs'.flatMap Fl.bs).Nodup) (hs : ∀ b ∈ gs'.flatMap Fl.bs, b ∈ gs.flatMap Fl.bs ∨ w.heap.size ≤ b) (hB : B ≤ w.heap.size) (ht : tot (gs'.map Fl.pf) ≤ S.room) : DIn B d w' { S with fs := gs'.map Fl.pf } m gs' where
  fs := rfl
  top := hd.trans h.top
  map := hm
  rise := hr
  files := hf
  nd := by
    have h1 := h.nd
    have ld := h.lt d (by simp [foot])
    have lm := h.lt m (by simp [foot])
    unfold foot at h1 ⊢
    simp only [List.nodup_cons, List.mem_cons, not_or] at h1 ⊢
    refine ⟨⟨h1.1.1, fun hh => ?_⟩, fun hh => ?_, hn⟩
    · rcases hs d hh with h2 | h2
      · exact h1.1.2 h2
      · omega
    · rcases hs m hh with h2 | h2
      · exact h1.2.1 h2
      · omega
  ge := by
    intro b hb
    unfold foot at hb
    simp only [List.mem_cons] at hb
    rcases hb with rfl | rfl | hb
    · exact h.ge _ (by simp [foot])
    · exact h.ge _ (by simp [foot])
    · rcases hs b hb with h2 | h2
      · exact h.ge b (by unfold foot; simp only [List.mem_cons]; exact .inr (.inr h2))
      · omega
  full := ht
  room := h.room
  arm := h.arm
theorem fre_foot {gs' : List Fl} (hs : ∀ b ∈ gs'.flatMap Fl.bs, b ∈ gs.flatMap Fl.bs ∨ w.heap.size ≤ b) : Fre (foot d m gs) (foot d m gs') w := by
  intro b hb
  unfold foot at hb ⊢
  simp only [List.mem_cons] at hb ⊢
  rcases hb with rfl | rfl | hb
  · exact .inl (.inl rfl)
  · exact .inl (.inr (.inl rfl))
  · exact (hs b hb).imp (fun h => .inr (.inr h)) id
theorem flat_perm {l l' : List Fl} (h : l.Perm l') : (l.flatMap Fl.bs).Perm (l'.flatMap Fl.bs) := List.Perm.flatMap_right _ h
theorem del_flat (nm : List UInt8) : ∀ l : List Fl, ((delF nm l).flatMap Fl.bs).Sublist (l.flatMap Fl.bs)
  | [] => List.Sublist.refl _
  | f :: r => by
    have ih := del_flat nm r
    unfold delF at ih ⊢
    rw [List.filter_cons, List.flatMap_cons]
    split
    · rw [List.flatMap_cons]; exact List.Sublist.append (List.Sublist.refl _) ih
    · exact ih.trans (List.sublist_append_right _ _)
theorem DIn.flat (h : DIn B d w S m gs) : (gs.flatMap Fl.bs).Nodup := by
  have := h.nd
  unfold foot at this
  simp only [List.nodup_cons] at this
  exact this.2.2
/-- A file in the row, and the row with another one in its place. -/
theorem set_split {f x : Fl} (hr : Rise gs) (hf : f ∈ gs) (hn : x.nm = f.nm) : ∃ p q, gs = p ++ f :: q ∧ setF x gs = p ++ x :: q := by
  obtain ⟨p, q, rfl⟩ := List.append_of_mem hf
  refine ⟨p, q, rfl, ?_⟩
  have keepL : ∀ l : List Fl, (∀ g ∈ l, g.nm ≠ x.nm) → setF x l = l := fun l h => by
    unfold setF
    conv => rhs; rw [← List.map_id l]
    refine List.map_congr_left fun g hg => ?_
    have e : (g.nm == x.nm) = false := by simpa using h g hg
    rw [e]; rfl
  have hne : ∀ g ∈ p ++ q, g.nm ≠ x.nm := by
    intro g hg e
    obtain ⟨h1, h2, h3⟩ := List.pairwise_append.1 hr
    obtain ⟨h4, h5⟩ := List.pairwise_cons.1 h2
    rw [hn] at e
    rcases List.mem_append.1 hg with hg | hg
    · have := h3 g hg f List.mem_cons_self
      rw [e, WideAt.bytes_irrefl] at this; cases this
    · have := h4 g hg
      rw [e, WideAt.bytes_irrefl] at this; cases this
  have hp := keepL p fun g hg => hne g (List.mem_append_left _ hg)
  have hq := keepL q fun g hg => hne g (List.mem_append_right _ hg)
  unfold setF at hp hq ⊢
  rw [List.map_append, List.map_cons, hp, hq]
  have e : (f.nm == x.nm) = true := by simp [hn]
  rw [e]; rfl
/-- A file is written over in its place. -/
theorem DIn.sets (h : DIn B d w S m gs) {f x : Fl} (hf : f ∈ gs) (hn : x.nm = f.nm) (hk : x.blk = f.blk) (hv : x.v.ownBlock = f.v.ownBlock ∨ x.v.ownBlock = none ∨ ∃ g, x.v.ownBlock = some g ∧ w.heap.size ≤ g) (hx : FAt w' x)
    (hb : ∀ b ∈ foot d m gs, b ∉ f.bs → w'.heap[b]? = w.heap[b]?) (hB : B ≤ w.heap.size) (ht : tot (setP x.pf S.fs) ≤ S.room) :
    DIn B d w' { S with fs := setP x.pf S.fs } m (setF x gs) ∧ Fre (foot d m gs) (foot d m (setF x gs)) w := by
  obtain ⟨p, q, e1, e2⟩ := set_split h.rise hf hn
  have hfl := h.flat
  have hsub : ∀ b ∈ (setF x gs).flatMap Fl.bs, b ∈ gs.flatMap Fl.bs ∨ w.heap.size ≤ b := by
    intro b hb
    rw [e2, List.flatMap_append, List.flatMap_cons] at hb
    rw [e1, List.flatMap_append, List.flatMap_cons]
    simp only [List.mem_append] at hb ⊢
    rcases hb with hb | hb | hb
    · exact .inl (.inl hb)
    · rcases (bs_iff x).1 hb with rfl | hb
      · exact .inl (.inr (.inl (by rw [hk]; exact blk_mem f)))
      · rcases hv with hv | hv | ⟨g, hv, hg⟩
        · exact .inl (.inr (.inl (own_mem f (hv ▸ hb))))
        · rw [hv] at hb; cases hb
        · rw [hv] at hb; cases hb; exact .inr hg
    · exact .inl (.inr (.inr hb))
  have hnd : ((setF x gs).flatMap Fl.bs).Nodup := by
    have hlt : ∀ b ∈ gs.flatMap Fl.bs, b < w.heap.size := fun b hb => h.lt b (by unfold foot; simp only [List.mem_cons]; exact .inr (.inr hb))
    rw [e1, List.flatMap_append, List.flatMap_cons] at hfl hlt
    rw [e2, List.flatMap_append, List.flatMap_cons]
    have hxb : ∀ b ∈ x.bs, b ∈ f.bs ∨ w.heap.size ≤ b := by
      intro b hb
      rcases (bs_iff x).1 hb with rfl | hb
      · exact .inl (by rw [hk]; exact blk_mem f)
      · rcases hv with hv | hv | ⟨g, hv, hg⟩
        · exact .inl (own_mem f (hv ▸ hb))
        · rw [hv] at hb; cases hb
        · rw [hv] at hb; cases hb; exact .inr hg
    have hxn : x.bs.Nodup := by
      unfold Fl.bs
      have hfb : f.bs.Nodup := (List.nodup_append.1 (List.nodup_append.1 hfl).2.1).1
      rcases hv with hv | hv | ⟨g, hv, hg⟩
      · rw [hv, hk]; exact hfb
      · rw [hv]; simp
      · rw [hv, hk]
        have := hlt f.blk (by simp [blk_mem])
        simp
        omega
    simp only [List.nodup_append, List.mem_append] at hfl hlt ⊢
    refine ⟨hfl.1, ⟨hxn, hfl.2.1.2.1, fun a ha b hb => ?_⟩, fun a ha b hb => ?_⟩
    · rcases hxb a ha with h1 | h1
      · exact hfl.2.1.2.2 a h1 b hb
      · have := hlt b (.inr (.inr hb)); omega
    · rcases hb with hb | hb
      · rcases hxb b hb with h1 | h1
        · exact hfl.2.2 a ha b (.inl h1)
        · have := hlt a (.inl ha); omega
      · exact hfl.2.2 a ha b (.inr hb)
  have hpf : (setF x gs).map Fl.pf = setP x.pf S.fs := by rw [setF_pf, h.fs]
  have hdf : ∀ b ∈ f.bs, d ≠ b ∧ m ≠ b := h.d_not f hf
  refine ⟨?_, fre_foot hsub⟩
  have hrm := h.remap (w' := w') (gs' := setF x gs) ?_ (hb d (by simp [foot]) fun hh => (hdf d hh).1 rfl) (setF_rise h.rise) ?_ hnd hsub hB (by rw [hpf]; exact ht)
  · rw [hpf] at hrm; exact hrm
  · rw [setF_len, setF_ent fun g hg e => by rw [hk, rise_name h.rise g hg f hf (by rw [e, hn])]]
    exact map_keep h.map (hb m (by simp [foot]) fun hh => (hdf m hh).2 rfl)
  · intro g hg
    rcases setF_mem hg with rfl | ⟨hg, hne⟩
    · exact hx
    · refine (h.files g hg).keep fun b hbm => hb b (foot_mem hg hbm) fun hbf => ?_
      have hne' : g ≠ f := fun e => hne (by rw [e, hn])
      rw [e1] at hg
      rw [e1, List.flatMap_append, List.flatMap_cons] at hfl
      simp only [List.nodup_append, List.mem_append] at hfl
      rcases List.mem_append.1 hg with hg | hg
      · exact hfl.2.2 b (List.mem_flatMap.2 ⟨g, hg, hbm⟩) b (.inl hbf) rfl
      · rcases List.mem_cons.1 hg with rfl | hg
        · exact hne' rfl
        · exact hfl.2.1.2.2 b hbf b (List.mem_flatMap.2 ⟨g, hg, hbm⟩) rfl
theorem Out.below {X : List Nat} (h : Out B d X w S w') (hx : ∀ b ∈ X, B ≤ b) (hB : B ≤ w.heap.size) : Below B w w' := by
  obtain ⟨X', _, ht, _⟩ := h
  exact ht.below hx hB
theorem DAt.ge {X : List Nat} (h : DAt B d w S X) : ∀ b ∈ X, B ≤ b := by
  obtain ⟨m, gs, rfl, h⟩ := h
  exact h.ge
theorem DAt.lt {X : List Nat} (h : DAt B d w S X) : ∀ b ∈ X, b < w.heap.size := by
  obtain ⟨m, gs, rfl, h⟩ := h
  exact h.lt
theorem DAt.keep {X : List Nat} (h : DAt B d w S X) (hb : ∀ b ∈ X, w'.heap[b]? = w.heap[b]?) : DAt B d w' S X := by
  obtain ⟨m, gs, rfl, h⟩ := h
  exact ⟨m, gs, rfl, h.keep hb⟩
theorem DAt.below {X : List Nat} (h : DAt B d w S X) (hb : Below w.heap.size w w') : DAt B d w' S X := by
  obtain ⟨m, gs, rfl, h⟩ := h
  exact ⟨m, gs, rfl, h.below hb⟩
end
end Go.Proofs.Ytoooainecoappaa
