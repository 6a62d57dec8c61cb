/-
  The rows that a window tells.
-/
import Derived.Test.YtcdjeibcnkpadaaDoorWb2
import Derived.Test.YtcdjeibcnkpadaaDoorWtFrom
namespace Go.Proofs.YtcdjeibcnkpadaaDoor
open Go.RowKit Go.Maps Dg Go.Shelf
set_option maxRecDepth 100000
set_option linter.unusedVariables false
attribute [local go_sem] Oper.semAt_some
def Sl.val (s : Sl) : Value := .slice s.a s.n s.c
/-- A row of rows of the call's own: each row in a block of its own. -/
def OwnRs (B : Nat) (w : World) (v : Value) (S : List Sl) : Prop := w.ownsRow B 45 1 v S.length (S.map Sl.val)
def RsAt (B : Nat) (w : World) : List Sl → List (List Vl) → Prop
  | [], [] => True
  | s :: l, r :: rs => OwnV B w s.val r ∧ RsAt B w l rs
  | [], _ :: _ => False
  | _ :: _, [] => False
theorem infoR : (Tryd.prog.info? 45).map (fun i => (i.zero, i.size, i.bytes)) = some (some (.slice none 0 0), 1, 24) := by kernel_rfl
theorem ownRs_nil (B : Nat) (w : World) : OwnRs B w (.slice none 0 0) [] := World.ownsRow_nil _ _ _ _
def blks (S : List Sl) : List Nat := S.flatMap fun s => s.val.ownBlock.toList
theorem RsAt.map {B B' : Nat} {w w' : World} : ∀ {S L}, (∀ s ∈ S, ∀ r, OwnV B w s.val r → OwnV B' w' s.val r) → RsAt B w S L → RsAt B' w' S L
  | [], [], _, _ => trivial
  | s :: l, r :: rs, h, ⟨h1, h2⟩ => ⟨h s List.mem_cons_self _ h1, RsAt.map (fun s hs => h s (List.mem_cons_of_mem _ hs)) h2⟩
  | [], _ :: _, _, h => h.elim
  | _ :: _, [], _, h => h.elim
theorem RsAt.snoc {B : Nat} {w : World} {s : Sl} {r : List Vl} (hs : OwnV B w s.val r) : ∀ {S L}, RsAt B w S L → RsAt B w (S ++ [s]) (L ++ [r])
  | [], [], _ => ⟨hs, trivial⟩
  | _ :: _, _ :: _, ⟨h1, h2⟩ => ⟨h1, RsAt.snoc hs h2⟩
  | [], _ :: _, h => h.elim
  | _ :: _, [], h => h.elim
theorem RsAt.len {B : Nat} {w : World} : ∀ {S L}, RsAt B w S L → S.length = L.length
  | [], [], _ => rfl
  | _ :: _, _ :: _, ⟨_, h2⟩ => congrArg (· + 1) h2.len
  | [], _ :: _, h => h.elim
  | _ :: _, [], h => h.elim
theorem RsAt.blk {B : Nat} {w : World} : ∀ {S L}, RsAt B w S L → ∀ g ∈ blks S, B ≤ g ∧ g < w.heap.size
  | [], [], _, g, hg => by simp [blks] at hg
  | s :: l, r :: rs, ⟨h1, h2⟩, g, hg => by
    unfold blks at hg
    rw [List.flatMap_cons] at hg
    rcases List.mem_append.1 hg with hg | hg
    · exact World.ownsRow.lt h1 g (by simpa using hg)
    · exact RsAt.blk h2 g hg
  | [], _ :: _, h, _, _ => h.elim
  | _ :: _, [], h, _, _ => h.elim
theorem RsAt.tur {B : Nat} {X : List Nat} {w w' : World} {S L} (h : RsAt B w S L) (ht : Tur X w w') (hx : ∀ g ∈ blks S, g ∉ X) : RsAt B w' S L :=
  h.map fun s hs r hr => hr.tur ht fun g hg => hx g (List.mem_flatMap.2 ⟨s, hs, by simpa using hg⟩)
theorem OwnRs.tur {B : Nat} {X : List Nat} {w w' : World} {v : Value} {S : List Sl} (h : OwnRs B w v S) (ht : Tur X w w') (hx : ∀ g, v.ownBlock = some g → g ∉ X) : OwnRs B w' v S := by
  rcases h.2 with ⟨hv, hn⟩ | ⟨g, cap, cur, hv, hg, hh, hc, hcm, hsz, htk⟩
  · exact ⟨h.1, .inl ⟨hv, hn⟩⟩
  · exact ⟨h.1, .inr ⟨g, cap, cur, hv, hg, Has.tur (t := 45) (cs := cur) hh ht (hx g (by rw [hv]; rfl)), hc, hcm, hsz, htk⟩⟩
theorem kl_nil (k : ByteArray) : kl k ⟨#[]⟩ = false := by
  unfold kl
  rw [ByteArray.toList_eq, ByteArray.toList_eq]
  cases k.data.toList <;> rfl
theorem rows_at {lo : Nat} {w : World} : ∀ {xs : List Nd} {C : List (ByteArray × Sl)} {R : List (ByteArray × List Vl)}, RowsAt lo w C R → xs.map (fun x => (x.k, x.v)) = C → ∀ {p x}, p ++ [x] <+: xs → ∃ L, (∃ k, (k, L) ∈ R) ∧ (p ++ [x]).length ≤ R.length ∧ OwnV lo w x.v.val L ∧ (R.map (·.2)).take (p.length + 1) = (R.map (·.2)).take p.length ++ [L]
  | [], _, _, _, _, p, x, hp => by
    have := hp.length_le
    simp at this
  | y :: ys, C, R, hR, hC, p, x, hp => by
    subst hC
    cases R with
    | nil => exact hR.elim
    | cons r R =>
      obtain ⟨h1, h2, h3⟩ := hR
      cases p with
      | nil =>
        simp only [List.nil_append] at hp
        have e : x = y := by simpa using (List.cons_prefix_cons.1 hp).1
        subst e
        exact ⟨r.2, ⟨r.1, List.mem_cons_self⟩, by simp, h2, by simp⟩
      | cons z p =>
        rw [List.cons_append] at hp
        obtain ⟨L, ⟨k, a0⟩, a1, a2, a3⟩ := rows_at h3 rfl (List.cons_prefix_cons.1 hp).2
        exact ⟨L, ⟨k, List.mem_cons_of_mem _ a0⟩, by simpa using a1, a2, by simpa using a3⟩
/-- What Rows has, between two rounds. -/
structure KR (w : World) (S : List Sl) (L : List (List Vl)) (X : List Nat) (V : World) (v : Value) : Prop where
  X : X = w.heap.size :: (v.ownBlock.toList ++ blks S)
  l : Has V w.heap.size 27 #[v]
  own : OwnRs w.heap.size V v S
  far : ∀ g, v.ownBlock = some g → w.heap.size + 1 ≤ g
  rows : RsAt (w.heap.size + 1) V S L
  below : Below w.heap.size w V
theorem KR.stays {w : World} {S : List Sl} {L : List (List Vl)} {X : List Nat} {V W : World} {v : Value} {B : Nat} {Z : List Nat} (h : KR w S L X V v) (hB : w.heap.size + 1 ≤ B) (ht : Tur Z V W) (hz : ∀ b ∈ Z, B ≤ b ∧ b ∉ X) : KR w S L X W v := by
  have hX := h.X
  refine ⟨h.X, h.l.tur ht fun hh => ?_, h.own.tur ht fun g hg hh => ?_, h.far, h.rows.tur ht fun g hg hh => ?_, ?_⟩
  · have := (hz _ hh).1; omega
  · exact (hz _ hh).2 (by rw [hX, hg]; simp)
  · exact (hz _ hh).2 (by rw [hX]; simp [hg])
  · exact h.below.trans (ht.below (fun b hb => by have := (hz b hb).1; omega) h.below.size)
theorem KR.lt {w : World} {S : List Sl} {L : List (List Vl)} {X : List Nat} {V : World} {v : Value} (h : KR w S L X V v) : ∀ b ∈ X, b < V.heap.size := by
  intro b hb
  rw [h.X] at hb
  rcases List.mem_cons.1 hb with rfl | hb
  · exact h.l.lt
  · rcases List.mem_append.1 hb with hb | hb
    · exact (World.ownsRow.lt h.own b (by simpa using hb)).2
    · exact (h.rows.blk b hb).2
theorem wstep_app {P : Program} {ops : Array Oper} {o : Oper} {a : Act} {w : World} {K : Act → World → Prop} {Q : Exit → Act → World → Prop} {E : Prop} (hgd : o.guard = none) (s x : Operand) (t tx : TypeId)
    (ho : o.op = .call { callee := .builtin .append, args := #[s, x], argTypes := #[t, tx] }) (v xv : Value) (hs : a.eval s = v) (hx : a.eval x = xv)
    (hrun : ∃ R W', (Builtin.append_ #[t, tx] o.type #[v, xv]).run P w = .ok R W' ∧ K (a.put o.dst R) W') :
    if Region.wanted o (yielded ops a.tmps) = true then Oper.wp P o a w K Q else E := by
  have hw : Region.wanted o (yielded ops a.tmps) = true := by simp [Region.wanted, hgd]
  rw [if_pos hw]
  obtain ⟨R, W', hrun, h⟩ := hrun
  unfold Oper.wp execOp
  simp only [ho, resolve, invoke, builtin, Sem.run_bind, Sem.run_pure, Result.andThen_ok, List.map_toArray, List.map_cons, List.map_nil, hs, hx, hrun]
  exact h
theorem OwnRs.has {B : Nat} {w : World} {v : Value} {S : List Sl} (h : OwnRs B w v S) {g : Nat} (hg : v.ownBlock = some g) : ∃ cs, Has w g 45 cs := by
  rcases h.2 with ⟨hv, hn⟩ | ⟨g', cap, cur, hv, _, hh, _⟩
  · rw [hv] at hg; cases hg
  · rw [hv] at hg; injection hg with hg; subst hg; exact ⟨cur, hh⟩
theorem ownRs_open {B : Nat} {w : World} {v : Value} {S : List Sl} (h : OwnRs B w v S) : ∃ A n c, v = .slice A n c ∧ S.length = n ∧ n ≤ c ∧ (A = none → c = 0) ∧ ∀ i (hi : i < S.length), ∃ b off, A = some ⟨b, off, none⟩ ∧ w.cell? ⟨b, off + i, none⟩ = some S[i].val := by
  rcases h.2 with ⟨hv, hn⟩ | ⟨g, cap, cur, hv, hg, hh, hc, hcm, hsz, htk⟩
  · exact ⟨none, 0, 0, hv, hn, Nat.le_refl _, fun _ => rfl, fun i hi => by rw [hn] at hi; cases hi⟩
  · refine ⟨some ⟨g, 0, none⟩, S.length, cap, hv, rfl, hc, fun e => (by cases e), fun i hi => ⟨g, 0, rfl, ?_⟩⟩
    have := World.ownsRow.cells h (g := g) (by rw [hv]; rfl) i (S[i].val) (by simp [hi])
    rw [Addr.add_lit] at this
    exact this
/-- One row is put behind rows of the call's own. -/
theorem appR1 (w : World) (g : Nat) (hg0 : g = w.heap.size) (B : Nat) (v : Value) (S : List Sl) (s : Sl) (h : OwnRs B w v S) (hB : B ≤ w.heap.size) (hl : S.length ≤ 1000000) :
    ∃ R W', (Builtin.append_ #[27, 27] 27 #[v, .slice (some ⟨g, 0, none⟩) 1 1]).run Tryd.prog (w.alloc (.cells #[s.val] 45)) = .ok R W' ∧ OwnRs B W' R (S ++ [s]) ∧ Tur v.ownBlock.toList w W' ∧ (∀ k, R.ownBlock = some k → v.ownBlock = some k ∨ w.heap.size ≤ k) := by
  subst hg0
  obtain ⟨i0, hi, hz0, hz1, hz2⟩ := info_parts infoR
  obtain ⟨R, W', hrun, hown, hg, _, hx⟩ := run_append_own_at (P := Tryd.prog) (w.alloc (.cells #[s.val] 45)) B 27 27 45 i0 _ 1 24 Tryd.underlying27 hi hz0 hz1 hz2 rfl (by decide) v S.length (S.map Sl.val) (World.ownsRow.alloc h _)
    ⟨w.heap.size, 0, none⟩ 1 1 [s.val] rfl (fun j u hj => by
      have := (Has.new w 45 #[s.val]).cell j
      rw [List.getElem?_toArray] at this
      rw [Addr.add_lit, Nat.zero_add]
      exact this.trans hj) (fun u hu => by simp at hu; subst hu; rfl) (by unfold maxLen; omega) (by omega) (by simp; omega)
  refine ⟨R, W', hrun, ?_, ?_, ?_⟩
  · unfold OwnRs; rw [List.map_append, List.length_append]; simpa using hown
  · exact (Tur.alloc _ w _).trans (Tur.grown hg fun k hk => by rw [hk]; simp) (Fre.refl _ _)
  · intro k hk
    rcases hx with hx | hx
    · exact .inl (hx ▸ hk)
    · rw [hx] at hk
      injection hk with hk
      have : (w.alloc (.cells #[s.val] 45)).heap.size = w.heap.size + 1 := by simp
      exact .inr (by omega)
theorem RsAt.turX {B : Nat} {X : List Nat} {w w' : World} {S L} (h : RsAt B w S L) (ht : Tur X w w') (hX : ∀ b ∈ X, ∃ t cs, Has w b t cs ∧ t ≠ 68) : RsAt B w' S L := h.map fun s hs r hr => hr.turX ht hX
theorem RsAt.below {B : Nat} {w w' : World} {S L} (h : RsAt B w S L) (hb : Below w.heap.size w w') : RsAt B w' S L := h.map fun s hs r hr => hr.below hb
theorem RsAt.dn {B B' : Nat} {w : World} {S L} (h : RsAt B w S L) (hb : B' ≤ B) : RsAt B' w S L := h.map fun s hs r hr => ownV_dn hr hb
theorem kr_step {w U U1 W' : World} {S : List Sl} {L : List (List Vl)} {Y : List Nat} {v R : Value} {s : Sl} {r : List Vl} (hk : KR w S L Y U v) (ho : OwnV U.heap.size U1 s.val r) (hb : Below U.heap.size U U1)
    (hown : OwnRs w.heap.size W' R (S ++ [s])) (htur : Tur v.ownBlock.toList U1 W') (hfre : ∀ k, R.ownBlock = some k → v.ownBlock = some k ∨ U1.heap.size ≤ k) :
    KR w (S ++ [s]) (L ++ [r]) (w.heap.size :: (R.ownBlock.toList ++ blks (S ++ [s]))) (W'.setCell ⟨w.heap.size, 0, none⟩ R) R ∧ Tur Y U (W'.setCell ⟨w.heap.size, 0, none⟩ R) ∧ Fre Y (w.heap.size :: (R.ownBlock.toList ++ blks (S ++ [s]))) U := by
  have hX := hk.X
  have hlt := hk.l.lt
  have hUs := hb.size
  have l1 := hk.l.below hb hlt
  have o1 : OwnRs w.heap.size U1 v S := hk.own.tur (Tur.of_below (X := []) hb) (by simp)
  have lW : Has W' w.heap.size 27 #[v] := l1.tur htur fun hh => by have := hk.far _ (by simpa using hh); omega
  have lF := lW.put 0 R
  have hXt : ∀ b ∈ v.ownBlock.toList, ∃ t cs, Has U1 b t cs ∧ t ≠ 68 := fun b hb => by
    obtain ⟨cs, hc⟩ := o1.has (g := b) (by simpa using hb)
    exact ⟨_, cs, hc, by decide⟩
  have hs : Tur [w.heap.size] W' (W'.setCell ⟨w.heap.size, 0, none⟩ R) := Tur.setCell W' (p := ⟨w.heap.size, 0, none⟩) (by simp) _
  have hXs : ∀ b ∈ [w.heap.size], ∃ t cs, Has W' b t cs ∧ t ≠ 68 := fun b hb => by rw [List.mem_singleton.1 hb]; exact ⟨_, _, lW, by decide⟩
  have tW : Tur Y U (W'.setCell ⟨w.heap.size, 0, none⟩ R) :=
    ((Tur.of_below (X := Y) hb).trans (htur.sub fun c hc => by rw [hX]; simp at hc ⊢; exact .inr (.inl hc)) (Fre.refl _ _)).trans (hs.sub fun c hc => by rw [hX, List.mem_singleton.1 hc]; simp) (Fre.refl _ _)
  have hRb : ∀ k, R.ownBlock = some k → w.heap.size + 1 ≤ k := fun k hk2 => (hfre k hk2).elim (hk.far k) (fun h => by omega)
  refine ⟨⟨rfl, lF, hown.tur hs fun g hg hh => ?_, hRb, ?_, ?_⟩, tW, ?_⟩
  · have := hRb g hg; rw [List.mem_singleton.1 hh] at this; omega
  · exact ((RsAt.snoc (ownV_dn ho (by omega)) (hk.rows.below hb)).turX htur hXt).turX hs hXs
  · refine hk.below.trans (tW.below (fun c hc => ?_) hk.below.size)
    rw [hX] at hc
    rcases List.mem_cons.1 hc with rfl | hc
    · omega
    · rcases List.mem_append.1 hc with hc | hc
      · have := hk.far c (by simpa using hc); omega
      · have := (hk.rows.blk c hc).1; omega
  · intro c hc
    rw [hX]
    rcases List.mem_cons.1 hc with rfl | hc
    · exact .inl List.mem_cons_self
    · rcases List.mem_append.1 hc with hc | hc
      · rcases hfre c (by simpa using hc) with hh | hh
        · exact .inl (by simp [hh])
        · exact .inr (by omega)
      · unfold blks at hc
        rw [List.flatMap_append] at hc
        rcases List.mem_append.1 hc with hc | hc
        · exact .inl (by simp [blks]; simp at hc; exact .inr (.inr hc))
        · simp at hc
          exact .inr (World.ownsRow.lt ho c hc).1
set_option maxHeartbeats 4000000 in
theorem wrows_any {lo b : Nat} {w : World} {x : Wn} (h : WinAt lo b w x) (hz : x.R.length ≤ 89000) (hrl : ∀ r ∈ x.R, r.2.length ≤ 900) :
    Calls Tryd.prog 26 #[.pointer (some ⟨b, 0, none⟩)] w fun e w' => ∃ v S, e = .returned v ∧ Hid (OwnRs w.heap.size w' v S) ∧ Hid (RsAt w.heap.size w' S (x.R.map (·.2))) ∧ Hid (Below w.heap.size w w') := by
  have HH := Lib.hid h.top
  obtain ⟨sz, num, A, nn, c, M, K, af, tbl, dn, en, tb, T, sp, R⟩ := x
  dsimp only [Wn.cells] at HH hz hrl ⊢
  obtain ⟨n, hn⟩ : ∃ n : Nat, Hid (n = 3) := ⟨3, rfl⟩
  refine (callsIn_wide (n := n)).1 ?_
  have hro : Fence.wide.round = none := rfl
  have hdd : ∀ k : Nat, (Fence.wide.depth.isSome = true → 1 ≤ k) := fun k h => by cases h
  have hmix : Tryd.prog.follows .mixedOrders = true := by kernel_rfl
  obtain ⟨W1, hW1⟩ : ∃ W1, Hid (W1 = w.alloc (.cells #[.slice none 0 0] 27)) := ⟨_, rfl⟩
  have m8 : (w.alloc (.cells #[.slice none 0 0] 27)).cell? ⟨b, 8, none⟩ = some (.pointer (some ⟨tb, 0, none⟩)) := (HH.out.alloc _).cell 8
  refine callsIn_of_wp_marks Tryd.func26 rfl trivial ?_ rfl
  simp only [Tryd.ntmps26, List.size_toArray, List.length_cons, List.length_nil, Nat.reduceAdd, Nat.reduceSub, Array.replicate_succ, Array.replicate_zero, List.push_toArray, List.append_toArray, List.nil_append, List.cons_append]
  gi_wp2
  rw [← hW1.out]
  refine ⟨trivial, hdd _, ?_⟩
  refine (callsIn_wide.2 (from_any _ _ _)).mono ?_
  rintro e w' ⟨rfl, rfl⟩
  gi_wp2
  have b1 : Below w.heap.size w W1 := by rw [hW1.out]; exact (Below.refl _ w).alloc (Nat.le_refl _) _
  have s1 : W1.heap.size = w.heap.size + 1 := by rw [hW1.out]; simp
  have l1 : Has W1 w.heap.size 27 #[.slice none 0 0] := by rw [hW1.out]; exact Has.new w _ _
  obtain ⟨V, hV⟩ : ∃ V, Hid (V = (W1.alloc (.cells #[.pointer (some ⟨tb, 0, none⟩)] 78)).alloc (.cells #[.string ⟨#[]⟩] 9)) := ⟨_, rfl⟩
  rw [← hV.out]
  have t2 : Tur [] W1 V := by
    rw [hV.out]
    exact (Tur.alloc [] W1 _).trans (Tur.alloc [] _ _) (Fre.refl _ _)
  have z2 : V.heap.size = w.heap.size + 3 := by rw [hV.out]; simp [s1]
  have nn2 : Has V (w.heap.size + 1) 78 #[.pointer (some ⟨tb, 0, none⟩)] := by
    rw [hV.out, ← s1]
    exact (Has.new W1 _ _).alloc _
  have kk2 : Has V (w.heap.size + 2) 9 #[.string ⟨#[]⟩] := by
    rw [hV.out]
    have := Has.new (W1.alloc (.cells #[.pointer (some ⟨tb, 0, none⟩)] 78)) 9 #[.string ⟨#[]⟩]
    rw [World.size_alloc, s1] at this
    exact this
  have bV : Below w.heap.size w V := b1.trans (t2.below (by simp) (by omega))
  have hT0 : IsTr w.heap.size w T := h.tr.tr
  have TV : IsTr w.heap.size V T := hT0.below bV
  have htl : tb < w.heap.size := h.tr.top.lt
  have tV : Has V tb 107 #[.pointer T.ptr] := h.tr.top.below bV htl
  have h0 : KR w [] [] [w.heap.size] V (.slice none 0 0) := ⟨rfl, l1.tur t2 (by simp), ownRs_nil _ _, (fun g hg => by cases hg), trivial, bV⟩
  clear hV t2 l1 b1
  have hfc : (T.from ⟨#[]⟩).map (fun x => (x.k, x.v)) = T.con := by
    rw [from_con _ T h.tr.ris]
    exact List.filter_eq_self.2 fun y hy => by simp [kl_nil]
  obtain ⟨R2, hR2⟩ : ∃ R2, R2 = R.map (·.2) := ⟨_, rfl⟩
  have hR2l : R2.length = R.length := by rw [hR2, List.length_map]
  have hra : ∀ p x, p ++ [x] <+: T.from ⟨#[]⟩ → ∃ L, (p ++ [x]).length ≤ R.length ∧ (L.length = x.v.n ∧ x.v.n ≤ 900 ∧ VRow w x.v.a L ∧ (x.v.a = none → x.v.c = 0)) ∧ R2.take (p.length + 1) = R2.take p.length ++ [L] := fun p x hp => by
    obtain ⟨L, ⟨kk, g0⟩, g1, g2, g3⟩ := rows_at h.row hfc hp
    obtain ⟨A', n', c', e, e1, e2, e3, e4, e5⟩ := ownV_open g2
    injection e with q1 q2 q3
    refine ⟨L, g1, ⟨?_, ?_, ?_, ?_⟩, by rw [hR2]; exact g3⟩
    · rw [e1.out, q2]
    · rw [q2, ← e1.out]
      exact hrl _ g0
    · rw [q1]; exact e4.out
    · rw [q1, q3]; exact e5.out
  refine wp_tells (xs := T.from ⟨#[]⟩) rfl rfl (gf := 69) (lb := #[.pointer (some ⟨w.heap.size + 1, 0, none⟩), .pointer (some ⟨w.heap.size + 2, 0, none⟩)]) (by rw [s1]; rfl) trivial (enters_of Tryd.func69 (by kernel_rfl) rfl)
    (from1_tells w.heap.size tb ⟨#[]⟩ T V (w.heap.size + 1) (w.heap.size + 2) TV (by omega) htl tV nn2 kk2) (Nat.le_refl _) (fun _ _ => rfl) (by intro c hc; omega) (fun _ => rfl)
    (fun p Y U => ∃ v S, KR w S (R2.take p.length) Y U v)
    (fun c p Y U => False)
    (fun p Y U U' Z h ht hz => h.elim fun v h => h.elim fun S hv => ⟨v, S, hv.stays (by omega) ht hz⟩)
    (fun c p Y U U' Z h ht hz => h)
    (fun p Y U h => h.elim fun v h => h.elim fun S hv => hv.lt)
    [w.heap.size] (by intro c hc; simp at hc; omega) ⟨_, _, h0⟩ ?loop ?done ?stop
  case loop =>
    apply Exists.intro
    constructor
    · intro m' l' x U K hK
      dsimp only [Nd.enc2]
      gi_wp2
      exact hK
    · rintro m' l' p x Y U ⟨v, S, hk⟩ hpre
      obtain ⟨L, hlen, hownL, htake⟩ := hra p x hpre
      have c1 : U.cell? ⟨w.heap.size, 0, none⟩ = some v := hk.l.cell 0
      have hlS : S.length ≤ 1000000 := by have := hk.rows.len; rw [List.length_take] at this; omega
      have hLl := hownL
      have HC := Lib.hid (fun (W : World) (hb : Below U.heap.size U W) => cloneV_any x.v.a L x.v.n x.v.c W hLl.1 hLl.2.1 ((hLl.2.2.1.below hk.below).below hb) hLl.2.2.2)
      gi_wp2
      refine wpIn_held_round (S := fun _ => True) hmix (by kernel_rfl) (fun ⟨_, _, h⟩ => h) trivial (fun _ => ?_)
      (refine wpAnyH_take (i := 1) (v := ?_) rfl (by kernel_rfl) (by kernel_rfl) (by kernel_rfl) (fun _ _ _ h => h) (Or.inl ⟨by rfl, ?_⟩) (by assumption) ?_; rotate_left; (intro w hSw; (try dsimp only at hSw); go_simp; try with_reducible rfl); ((try simp only [List.getElem_toArray]); (try simp only [List.getElem_cons_succ]); (try simp only [List.getElem_cons_zero]); (try simp only [Act.put]); (try simp only [List.setIfInBounds_toArray]); (try simp only [List.set_cons_succ]); (try simp only [List.set_cons_zero])))
      refine wpAnyH_ready (rs := [0, 2]) (by kernel_rfl) (by simp) ?_
      refine AllReadyH.cons rfl (fun K2 hK2 => ?_) (AllReadyH.cons rfl (fun K2 hK2 => ?_) AllReadyH.nil)
      · go_simp
        refine hK2.out _ _ (by exact trivial) (fun _ => ?_)
        clear hK2 K2
        ((try simp only [List.getElem_toArray]); (try simp only [List.getElem_cons_succ]); (try simp only [List.getElem_cons_zero]); (try simp only [Act.put]); (try simp only [List.setIfInBounds_toArray]); (try simp only [List.set_cons_succ]); (try simp only [List.set_cons_zero]))
        refine wpAnyH_ready (rs := [2]) (by kernel_rfl) (by simp) ?_
        refine AllReadyH.cons rfl (fun K2 hK2 => ?_) AllReadyH.nil
        go_simp
        refine (HC.out _ (by first | exact (Below.refl _ U).drew | exact ((Below.refl _ U).drew).drew)).mono ?_
        rintro e U1 ⟨vv, rfl, ho, hb⟩
        obtain ⟨A8, n8, c8, rfl, _, _, _, _, _⟩ := ownV_open ho.out
        have HO : Hid (OwnV U.heap.size U1 (Sl.val ⟨A8, n8, c8⟩) L) := ho.out
        have HB : Hid (Below U.heap.size U U1) := ((Below.refl _ U).drew).trans hb.out
        have l1 : U1.cell? ⟨w.heap.size, 0, none⟩ = some v := (hk.l.below HB.out hk.l.lt).cell 0
        have l2 : (U1.alloc (.cells #[.slice A8 n8 c8] 45)).cell? ⟨w.heap.size, 0, none⟩ = some v := ((hk.l.below HB.out hk.l.lt).alloc _).cell 0
        obtain ⟨RV, W2, hrun, hown2, htur2, hfre2⟩ := appR1 U1 U1.heap.size rfl w.heap.size v S ⟨A8, n8, c8⟩ (hk.own.tur (Tur.of_below (X := []) HB.out) (by simp)) (Nat.le_trans hk.below.size HB.out.size) (by omega)
        obtain ⟨A9, n9, c9, rfl, _⟩ := ownRs_open hown2
        have HST := Lib.hid (kr_step hk HO.out HB.out hown2 htur2 hfre2)
        have lW : Has W2 w.heap.size 27 #[v] := (hk.l.below HB.out hk.l.lt).tur htur2 (fun hh => by have := hk.far _ (by simpa using hh); omega)
        have f3 : W2.frozen? ⟨w.heap.size, 0, none⟩ = false := lW.free 0
        have l3 : W2.cell? ⟨w.heap.size, 0, none⟩ = some v := lW.cell 0
        have hrun2 : (Builtin.append_ #[27, 27] 27 #[v, .slice (some ⟨U1.heap.size, 0, none⟩) 1 1]).run Tryd.prog (U1.alloc (.cells #[.slice A8 n8 c8] 45)) = .ok (.slice A9 n9 c9) W2 := hrun
        clear ho hb hown2 htur2 hfre2 lW hrun
        go_wp2_with fail
        refine hK2.out _ _ (by exact trivial) (fun _ => ?_)
        clear hK2 K2
        ((try simp only [List.getElem_toArray]); (try simp only [List.getElem_cons_succ]); (try simp only [List.getElem_cons_zero]); (try simp only [Act.put]); (try simp only [List.setIfInBounds_toArray]); (try simp only [List.set_cons_succ]); (try simp only [List.set_cons_zero]))
        refine wpAnyH_ready (rs := [3]) (by kernel_rfl) (by simp) ?_
        refine AllReadyH.cons rfl (fun K2 hK2 => ?_) AllReadyH.nil
        go_simp
        refine hK2.out _ _ (by exact trivial) (fun _ => ?_)
        clear hK2 K2
        ((try simp only [List.getElem_toArray]); (try simp only [List.getElem_cons_succ]); (try simp only [List.getElem_cons_zero]); (try simp only [Act.put]); (try simp only [List.setIfInBounds_toArray]); (try simp only [List.set_cons_succ]); (try simp only [List.set_cons_zero]))
        refine wpAnyH_ready (rs := [4]) (by kernel_rfl) (by simp) ?_
        refine AllReadyH.cons rfl (fun K2 hK2 => ?_) AllReadyH.nil
        refine wstep_app (by rfl) _ _ _ _ (by rfl) v (.slice (some ⟨U1.heap.size, 0, none⟩) 1 1) (by rfl) (by rfl) ⟨_, _, hrun2, ?_⟩
        refine hK2.out _ _ (by exact trivial) (fun _ => ?_)
        clear hK2 K2
        ((try simp only [List.getElem_toArray]); (try simp only [List.getElem_cons_succ]); (try simp only [List.getElem_cons_zero]); (try simp only [Act.put]); (try simp only [List.setIfInBounds_toArray]); (try simp only [List.set_cons_succ]); (try simp only [List.set_cons_zero]))
        refine wpAnyH_ready (rs := [5]) (by kernel_rfl) (by simp) ?_
        refine AllReadyH.cons rfl (fun K2 hK2 => ?_) AllReadyH.nil
        go_simp
        refine hK2.out _ _ (by exact trivial) (fun _ => ?_)
        clear hK2 K2
        ((try simp only [List.getElem_toArray]); (try simp only [List.getElem_cons_succ]); (try simp only [List.getElem_cons_zero]); (try simp only [Act.put]); (try simp only [List.setIfInBounds_toArray]); (try simp only [List.set_cons_succ]); (try simp only [List.set_cons_zero]))
        refine wpAnyH_done (by kernel_rfl) ?_ _
        gi_wp2
        exact ⟨_, ⟨_, _, by rw [List.length_append, List.length_singleton, htake]; exact HST.out.1⟩, HST.out.2.1, HST.out.2.2⟩
      · go_simp
        refine (HC.out _ (by first | exact (Below.refl _ U).drew | exact ((Below.refl _ U).drew).drew)).mono ?_
        rintro e U1 ⟨vv, rfl, ho, hb⟩
        obtain ⟨A8, n8, c8, rfl, _, _, _, _, _⟩ := ownV_open ho.out
        have HO : Hid (OwnV U.heap.size U1 (Sl.val ⟨A8, n8, c8⟩) L) := ho.out
        have HB : Hid (Below U.heap.size U U1) := ((Below.refl _ U).drew).trans hb.out
        have l1 : U1.cell? ⟨w.heap.size, 0, none⟩ = some v := (hk.l.below HB.out hk.l.lt).cell 0
        have l2 : (U1.alloc (.cells #[.slice A8 n8 c8] 45)).cell? ⟨w.heap.size, 0, none⟩ = some v := ((hk.l.below HB.out hk.l.lt).alloc _).cell 0
        obtain ⟨RV, W2, hrun, hown2, htur2, hfre2⟩ := appR1 U1 U1.heap.size rfl w.heap.size v S ⟨A8, n8, c8⟩ (hk.own.tur (Tur.of_below (X := []) HB.out) (by simp)) (Nat.le_trans hk.below.size HB.out.size) (by omega)
        obtain ⟨A9, n9, c9, rfl, _⟩ := ownRs_open hown2
        have HST := Lib.hid (kr_step hk HO.out HB.out hown2 htur2 hfre2)
        have lW : Has W2 w.heap.size 27 #[v] := (hk.l.below HB.out hk.l.lt).tur htur2 (fun hh => by have := hk.far _ (by simpa using hh); omega)
        have f3 : W2.frozen? ⟨w.heap.size, 0, none⟩ = false := lW.free 0
        have l3 : W2.cell? ⟨w.heap.size, 0, none⟩ = some v := lW.cell 0
        have hrun2 : (Builtin.append_ #[27, 27] 27 #[v, .slice (some ⟨U1.heap.size, 0, none⟩) 1 1]).run Tryd.prog (U1.alloc (.cells #[.slice A8 n8 c8] 45)) = .ok (.slice A9 n9 c9) W2 := hrun
        clear ho hb hown2 htur2 hfre2 lW hrun
        go_wp2_with fail
        refine hK2.out _ _ (by exact trivial) (fun _ => ?_)
        clear hK2 K2
        ((try simp only [List.getElem_toArray]); (try simp only [List.getElem_cons_succ]); (try simp only [List.getElem_cons_zero]); (try simp only [Act.put]); (try simp only [List.setIfInBounds_toArray]); (try simp only [List.set_cons_succ]); (try simp only [List.set_cons_zero]))
        refine wpAnyH_ready (rs := [0, 3]) (by kernel_rfl) (by simp) ?_
        refine AllReadyH.cons rfl (fun K2 hK2 => ?_) (AllReadyH.cons rfl (fun K2 hK2 => ?_) AllReadyH.nil)
        · go_simp
          refine hK2.out _ _ (by exact trivial) (fun _ => ?_)
          clear hK2 K2
          ((try simp only [List.getElem_toArray]); (try simp only [List.getElem_cons_succ]); (try simp only [List.getElem_cons_zero]); (try simp only [Act.put]); (try simp only [List.setIfInBounds_toArray]); (try simp only [List.set_cons_succ]); (try simp only [List.set_cons_zero]))
          refine wpAnyH_ready (rs := [3]) (by kernel_rfl) (by simp) ?_
          refine AllReadyH.cons rfl (fun K2 hK2 => ?_) AllReadyH.nil
          go_simp
          refine hK2.out _ _ (by exact trivial) (fun _ => ?_)
          clear hK2 K2
          ((try simp only [List.getElem_toArray]); (try simp only [List.getElem_cons_succ]); (try simp only [List.getElem_cons_zero]); (try simp only [Act.put]); (try simp only [List.setIfInBounds_toArray]); (try simp only [List.set_cons_succ]); (try simp only [List.set_cons_zero]))
          refine wpAnyH_ready (rs := [4]) (by kernel_rfl) (by simp) ?_
          refine AllReadyH.cons rfl (fun K2 hK2 => ?_) AllReadyH.nil
          refine wstep_app (by rfl) _ _ _ _ (by rfl) v (.slice (some ⟨U1.heap.size, 0, none⟩) 1 1) (by rfl) (by rfl) ⟨_, _, hrun2, ?_⟩
          refine hK2.out _ _ (by exact trivial) (fun _ => ?_)
          clear hK2 K2
          ((try simp only [List.getElem_toArray]); (try simp only [List.getElem_cons_succ]); (try simp only [List.getElem_cons_zero]); (try simp only [Act.put]); (try simp only [List.setIfInBounds_toArray]); (try simp only [List.set_cons_succ]); (try simp only [List.set_cons_zero]))
          refine wpAnyH_ready (rs := [5]) (by kernel_rfl) (by simp) ?_
          refine AllReadyH.cons rfl (fun K2 hK2 => ?_) AllReadyH.nil
          go_simp
          refine hK2.out _ _ (by exact trivial) (fun _ => ?_)
          clear hK2 K2
          ((try simp only [List.getElem_toArray]); (try simp only [List.getElem_cons_succ]); (try simp only [List.getElem_cons_zero]); (try simp only [Act.put]); (try simp only [List.setIfInBounds_toArray]); (try simp only [List.set_cons_succ]); (try simp only [List.set_cons_zero]))
          refine wpAnyH_done (by kernel_rfl) ?_ _
          gi_wp2
          exact ⟨_, ⟨_, _, by rw [List.length_append, List.length_singleton, htake]; exact HST.out.1⟩, HST.out.2.1, HST.out.2.2⟩
        · go_simp
          refine hK2.out _ _ (by exact trivial) (fun _ => ?_)
          clear hK2 K2
          ((try simp only [List.getElem_toArray]); (try simp only [List.getElem_cons_succ]); (try simp only [List.getElem_cons_zero]); (try simp only [Act.put]); (try simp only [List.setIfInBounds_toArray]); (try simp only [List.set_cons_succ]); (try simp only [List.set_cons_zero]))
          refine wpAnyH_ready (rs := [0]) (by kernel_rfl) (by simp) ?_
          refine AllReadyH.cons rfl (fun K2 hK2 => ?_) AllReadyH.nil
          go_simp
          refine hK2.out _ _ (by exact trivial) (fun _ => ?_)
          clear hK2 K2
          ((try simp only [List.getElem_toArray]); (try simp only [List.getElem_cons_succ]); (try simp only [List.getElem_cons_zero]); (try simp only [Act.put]); (try simp only [List.setIfInBounds_toArray]); (try simp only [List.set_cons_succ]); (try simp only [List.set_cons_zero]))
          refine wpAnyH_ready (rs := [4]) (by kernel_rfl) (by simp) ?_
          refine AllReadyH.cons rfl (fun K2 hK2 => ?_) AllReadyH.nil
          refine wstep_app (by rfl) _ _ _ _ (by rfl) v (.slice (some ⟨U1.heap.size, 0, none⟩) 1 1) (by rfl) (by rfl) ⟨_, _, hrun2, ?_⟩
          refine hK2.out _ _ (by exact trivial) (fun _ => ?_)
          clear hK2 K2
          ((try simp only [List.getElem_toArray]); (try simp only [List.getElem_cons_succ]); (try simp only [List.getElem_cons_zero]); (try simp only [Act.put]); (try simp only [List.setIfInBounds_toArray]); (try simp only [List.set_cons_succ]); (try simp only [List.set_cons_zero]))
          refine wpAnyH_ready (rs := [5]) (by kernel_rfl) (by simp) ?_
          refine AllReadyH.cons rfl (fun K2 hK2 => ?_) AllReadyH.nil
          go_simp
          refine hK2.out _ _ (by exact trivial) (fun _ => ?_)
          clear hK2 K2
          ((try simp only [List.getElem_toArray]); (try simp only [List.getElem_cons_succ]); (try simp only [List.getElem_cons_zero]); (try simp only [Act.put]); (try simp only [List.setIfInBounds_toArray]); (try simp only [List.set_cons_succ]); (try simp only [List.set_cons_zero]))
          refine wpAnyH_done (by kernel_rfl) ?_ _
          gi_wp2
          exact ⟨_, ⟨_, _, by rw [List.length_append, List.length_singleton, htake]; exact HST.out.1⟩, HST.out.2.1, HST.out.2.2⟩
  case done =>
    rintro D Y U hD ⟨v, S, hk⟩ hDY hDd
    have cl : U.cell? ⟨w.heap.size, 0, none⟩ = some v := hk.l.cell 0
    have hX := hk.X
    have hpo : Tur [D] U (U.putObj D (.deferred none)) := Tur.putObj U (by simp) _
    have hown := hk.own.tur hpo fun g hg hh => by
      rw [List.mem_singleton.1 hh] at hg
      exact hDY (by rw [hX, hg]; simp)
    have hrows := hk.rows.tur hpo fun g hg hh => by
      rw [List.mem_singleton.1 hh] at hg
      exact hDY (by rw [hX]; simp [hg])
    have hbel : Below w.heap.size w (U.putObj D (.deferred none)) := hk.below.trans (hpo.below (fun c hc => by rw [List.mem_singleton.1 hc]; omega) hk.below.size)
    have hlen : (T.from ⟨#[]⟩).length = R2.length := by
      have e1 := congrArg List.length hfc
      rw [List.length_map] at e1
      have e2 := h.row.len
      dsimp only at e2
      omega
    rw [hlen, List.take_length] at hrows
    gi_wp2
    refine ⟨by simp, .inl ⟨_, _, rfl, run_takeDeferred hDd, ?_⟩⟩
    refine ⟨_, results_tmp rfl _ _ _, v, S, rfl, hown, ?_, hbel⟩
    show Hid (RsAt _ _ S (R.map (·.2)))
    rw [← hR2]
    exact hrows.dn (by omega)
  case stop =>
    rintro D c p Y U hD ⟨⟩
end Go.Proofs.YtcdjeibcnkpadaaDoor
