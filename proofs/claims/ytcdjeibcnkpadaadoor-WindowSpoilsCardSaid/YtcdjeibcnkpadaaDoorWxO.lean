/-
  Rows of values of the call's own; rows that are written over.
-/
import Derived.Test.YtcdjeibcnkpadaaDoorWxR
namespace Go.Proofs.YtcdjeibcnkpadaaDoor
open Go.RowKit Go.Maps Dg
set_option maxRecDepth 100000
set_option linter.unusedVariables false
def OwnVs (B : Nat) (w : World) (v : Value) (S : List Sl) : Prop := w.ownsRow B 44 1 v S.length (S.map Sl.val)
theorem infoVs : (Tryd.prog.info? 44).map (fun i => (i.zero, i.size, i.bytes)) = some (some (.slice none 0 0), 1, 24) := by kernel_rfl
theorem ownVs_nil (B : Nat) (w : World) : OwnVs B w (.slice none 0 0) [] := World.ownsRow_nil _ _ _ _
theorem OwnVs.tur {B : Nat} {X : List Nat} {w w' : World} {v : Value} {S : List Sl} (h : OwnVs B w v S) (ht : Tur X w w') (hx : ∀ g, v.ownBlock = some g → g ∉ X) : OwnVs B w' v S := by
  rcases h.2 with ⟨hv, hn⟩ | ⟨g, cap, cur, hv, hg, hh, hc, hcm, hsz, htk⟩
  · exact ⟨h.1, .inl ⟨hv, hn⟩⟩
  · exact ⟨h.1, .inr ⟨g, cap, cur, hv, hg, Has.tur (t := 44) (cs := cur) hh ht (hx g (by rw [hv]; rfl)), hc, hcm, hsz, htk⟩⟩
theorem OwnVs.below {B : Nat} {w w' : World} {v : Value} {S : List Sl} (h : OwnVs B w v S) (hb : Below w.heap.size w w') : OwnVs B w' v S := h.tur (Tur.of_below (X := []) hb) (by simp)
theorem OwnVs.has {B : Nat} {w : World} {v : Value} {S : List Sl} (h : OwnVs B w v S) {g : Nat} (hg : v.ownBlock = some g) : ∃ cs, Has w g 44 cs := by
  rcases h.2 with ⟨hv, hn⟩ | ⟨g', cap, cur, hv, _, hh, _⟩
  · rw [hv] at hg; cases hg
  · rw [hv] at hg; injection hg with hg; subst hg; exact ⟨cur, hh⟩
theorem ownVs_open {B : Nat} {w : World} {v : Value} {S : List Sl} (h : OwnVs B w v S) : ∃ A n c, v = .slice A n c ∧ S.length = n ∧ n ≤ c ∧ (A = none → c = 0) ∧ ∀ i (hi : i < S.length), ∃ b off, A = some ⟨b, off, none⟩ ∧ w.cell? ⟨b, off + i, none⟩ = some S[i].val := by
  rcases h.2 with ⟨hv, hn⟩ | ⟨g, cap, cur, hv, hg, hh, hc, hcm, hsz, htk⟩
  · exact ⟨none, 0, 0, hv, hn, Nat.le_refl _, fun _ => rfl, fun i hi => by rw [hn] at hi; cases hi⟩
  · refine ⟨some ⟨g, 0, none⟩, S.length, cap, hv, rfl, hc, fun e => (by cases e), fun i hi => ⟨g, 0, rfl, ?_⟩⟩
    have := World.ownsRow.cells h (g := g) (by rw [hv]; rfl) i (S[i].val) (by simp [hi])
    rw [Addr.add_lit] at this
    exact this
/-- One row is put behind rows of the call's own. -/
theorem appV1 (w : World) (g : Nat) (hg0 : g = w.heap.size) (B : Nat) (v : Value) (S : List Sl) (s : Sl) (h : OwnVs B w v S) (hB : B ≤ w.heap.size) (hl : S.length ≤ 1000000) :
    ∃ R W', (Builtin.append_ #[40, 40] 40 #[v, .slice (some ⟨g, 0, none⟩) 1 1]).run Tryd.prog (w.alloc (.cells #[s.val] 44)) = .ok R W' ∧ OwnVs B W' R (S ++ [s]) ∧ Tur v.ownBlock.toList w W' ∧ (∀ k, R.ownBlock = some k → v.ownBlock = some k ∨ w.heap.size ≤ k) := by
  subst hg0
  obtain ⟨i0, hi, hz0, hz1, hz2⟩ := info_parts infoVs
  obtain ⟨R, W', hrun, hown, hg, _, hx⟩ := run_append_own_at (P := Tryd.prog) (w.alloc (.cells #[s.val] 44)) B 40 40 44 i0 _ 1 24 Tryd.underlying40 hi hz0 hz1 hz2 rfl (by decide) v S.length (S.map Sl.val) (World.ownsRow.alloc h _)
    ⟨w.heap.size, 0, none⟩ 1 1 [s.val] rfl (fun j u hj => by
      have := (Has.new w 44 #[s.val]).cell j
      rw [List.getElem?_toArray] at this
      rw [Addr.add_lit, Nat.zero_add]
      exact this.trans hj) (fun u hu => by simp at hu; subst hu; rfl) (by unfold maxLen; omega) (by omega) (by simp; omega)
  refine ⟨R, W', hrun, ?_, ?_, ?_⟩
  · unfold OwnVs; rw [List.map_append, List.length_append]; simpa using hown
  · exact (Tur.alloc _ w _).trans (Tur.grown hg fun k hk => by rw [hk]; simp) (Fre.refl _ _)
  · intro k hk
    rcases hx with hx | hx
    · exact .inl (hx ▸ hk)
    · rw [hx] at hk
      injection hk with hk
      have : (w.alloc (.cells #[s.val] 44)).heap.size = w.heap.size + 1 := by simp
      exact .inr (by omega)
theorem vsIn_own {B : Nat} {w : World} {v : Value} {S : List Sl} {L : List (List Vl)} (h : OwnVs B w v S) (hr : RsAt B w S L) (hf : ∀ l ∈ L, ∀ x ∈ l, x.fits) : ∃ A n c, v = .slice A n c ∧ VsIn w A n c S L := by
  obtain ⟨A, n, c, e, h1, h2, h3, h4⟩ := ownVs_open h
  have hg := fun i hi hj => RsAt.get hr i hi hj
  refine ⟨A, n, c, e, ⟨h1, h2, fun hne => ?_, by rw [← hr.len, h1], fun i hi hj => rwAt_own (hg i hi hj) (fun x hx => (hf L[i] (List.getElem_mem hj) x hx).1)⟩, hf, fun s hs => ?_⟩
  · have h0 : 0 < S.length := List.length_pos_iff.2 hne
    obtain ⟨b, off, ea, _⟩ := h4 0 h0
    refine ⟨b, off, ea, fun i hi => ?_⟩
    obtain ⟨b', off', ea', hc⟩ := h4 i hi
    rw [ea] at ea'
    injection ea' with ea'
    injection ea' with q1 q2
    subst q1 q2
    exact hc
  · obtain ⟨i, hi, rfl⟩ := List.getElem_of_mem hs
    obtain ⟨A', n', c', e', _, _, hm, _⟩ := ownV_open (hg i hi (by rw [← hr.len]; exact hi))
    injection e' with q1 q2 q3
    rw [q3]; exact hm
/-- A row of one value in a block of its own. -/
theorem ownV_one {B : Nat} {w : World} {s : Sl} {r : List Vl} (h : OwnV B w s.val r) (hr : r.length = 1) : ∃ g cs, s.a = some ⟨g, 0, none⟩ ∧ s.n = 1 ∧ s.val.ownBlock = some g ∧ Has w g 68 cs ∧ 3 ≤ cs.size := by
  rcases h.2 with ⟨hv, hn⟩ | ⟨g, cap, cur, hv, hg, hh, hc, hcm, hsz, htk⟩
  · omega
  · have hv2 : Value.slice s.a s.n s.c = .slice (some ⟨g, 0, none⟩) r.length cap := hv
    injection hv2 with e1 e2 e3
    exact ⟨g, cur, e1, by rw [e2, hr], by rw [hv]; rfl, hh, by omega⟩
/-- Rows of one value each, whatever it is. -/
def Ones (w : World) (S : List Sl) : Prop := ∀ s ∈ S, ∃ g cs, s.a = some ⟨g, 0, none⟩ ∧ s.n = 1 ∧ s.val.ownBlock = some g ∧ Has w g 68 cs ∧ 3 ≤ cs.size
theorem ones_of {B : Nat} {w : World} : ∀ {S : List Sl} {L : List (List Vl)}, RsAt B w S L → (∀ r ∈ L, r.length = 1) → Ones w S
  | [], [], _, _ => fun s hs => by cases hs
  | s :: S, r :: L, h, hr => fun x hx => by
    rcases List.mem_cons.1 hx with rfl | hx
    · exact ownV_one h.1 (hr r List.mem_cons_self)
    · exact ones_of h.2 (fun y hy => hr y (List.mem_cons_of_mem _ hy)) x hx
  | [], _ :: _, h, _ => h.elim
  | _ :: _, [], h, _ => h.elim
theorem Ones.below {w w' : World} {S : List Sl} (h : Ones w S) (hb : Below w.heap.size w w') : Ones w' S := fun s hs => by
  obtain ⟨g, cs, h1, h2, h3, h4, h5⟩ := h s hs
  exact ⟨g, cs, h1, h2, h3, h4.below hb h4.lt, h5⟩
/-- One of them is written over. -/
theorem Ones.set {w : World} {S : List Sl} (h : Ones w S) {g : Nat} {cs : Array Value} (hg : Has w g 68 cs) (hs : 3 ≤ cs.size) (u : Value) : Ones (w.setCell ⟨g, 0, none⟩ u) S := fun s hm => by
  obtain ⟨g', cs', h1, h2, h3, h4, h5⟩ := h s hm
  by_cases e : g' = g
  · subst e
    exact ⟨g', _, h1, h2, h3, h4.put 0 u, by simpa using h5⟩
  · exact ⟨g', cs', h1, h2, h3, h4.far (p := ⟨g, 0, none⟩) e u, h5⟩
theorem mem_blks {S : List Sl} {s : Sl} {g : Nat} (hs : s ∈ S) (hg : s.val.ownBlock = some g) : g ∈ blks S := List.mem_flatMap.2 ⟨s, hs, by simp [hg]⟩
theorem bytesLess_nil : ∀ {l : List UInt8}, l ≠ [] → Op.bytesLess [] l = true
  | [], h => absurd rfl h
  | _ :: _, _ => rfl
/-- A row that fits has a key that is some bytes. -/
theorem key_pos {M : List Cl} {k : Nat} (hS : Sch M k) (hM : ColsOk M) {r : List Vl} (hf : fitsF M r = true) : kl ⟨#[]⟩ (keyS k r) = true := by
  have hl := fits_len hf
  have h1 := hS.len.1
  have hk := hS.keys
  have hM0 : 0 < M.length := h1
  have hr0 : 0 < r.length := by omega
  have hno := hS.none 0 hM0 (by omega)
  have hst : standsF M[0] r[0] = true := by
    unfold fitsF fitsTo at hf
    simp only [Bool.and_eq_true, List.all_eq_true] at hf
    have := hf.2 0 (List.mem_range.2 hM0)
    rw [List.getElem?_eq_getElem hM0, List.getElem?_eq_getElem hr0] at this
    exact this
  have hkd : r[0].k = M[0].k := by
    unfold standsF at hst
    rw [hno] at hst
    simpa using (Bool.and_eq_true_iff.1 hst).2
  have hkr := hM.kind M[0] (List.getElem_mem hM0)
  have hne : keyV r[0].k r[0].n r[0].s ≠ [] := by
    rw [hkd]
    have : M[0].k = 1 ∨ M[0].k = 2 ∨ M[0].k = 3 ∨ M[0].k = 4 := by omega
    rcases this with e | e | e | e <;> rw [e] <;> simp [keyV]
  have hsz : 0 < (keyS k r).size := by
    unfold keyS
    rw [bs_size]
    have e : r.take k = r[0] :: (r.take k).tail := by
      cases r with
      | nil => simp at hr0
      | cons x r =>
        cases k with
        | zero => omega
        | succ k => rfl
    rw [e]
    have : 0 < (keyV r[0].k r[0].n r[0].s).length := List.length_pos_iff.2 hne
    simp only [keys, List.flatMap_cons, List.length_append, Vl.key]
    omega
  unfold kl
  rw [ByteArray.toList_eq, ByteArray.toList_eq]
  exact bytesLess_nil (fun e => by
    have h0 : (keyS k r).data.size = 0 := by rw [← Array.length_toList, e]; rfl
    have h1 : (keyS k r).size = (keyS k r).data.size := rfl
    omega)
theorem rsOwn_turX {B : Nat} {X : List Nat} {w w' : World} {v : Value} {S : List Sl} {L : List (List Vl)} (h : RsOwn B w v S L) (ht : Tur X w w') (hX : ∀ z ∈ X, ∃ t cs, Has w z t cs ∧ t ≠ 45 ∧ t ≠ 68) : RsOwn B w' v S L :=
  ⟨h.own.tur ht fun g hg hx => by
    obtain ⟨cs, hc⟩ := h.own.has hg
    obtain ⟨t, cs2, h2, n, _⟩ := hX g hx
    exact n (h2.two hc).1, h.rows.turX ht fun z hz => by
    obtain ⟨t, cs2, h2, _, n⟩ := hX z hz
    exact ⟨t, cs2, h2, n⟩⟩
/-- Rows stay where other rows' blocks turn. -/
theorem rsOwn_turB {B : Nat} {w w' : World} {v : Value} {S S' : List Sl} {L : List (List Vl)} (h : RsOwn B w v S L) (ht : Tur (blks S') w w') (h' : Ones w S') (hd : ∀ g ∈ blks S, g ∉ blks S') : RsOwn B w' v S L :=
  ⟨h.own.tur ht fun g hg hx => by
    obtain ⟨cs, hc⟩ := h.own.has hg
    obtain ⟨s, hs, hgs⟩ := List.mem_flatMap.1 hx
    obtain ⟨g', cs', _, _, h3, h4, _⟩ := h' s hs
    rw [h3] at hgs
    have : g = g' := by simpa using hgs
    subst this
    exact absurd (h4.two hc).1 (by decide), h.rows.tur ht hd⟩
theorem ones_blk {w : World} {S : List Sl} (h : Ones w S) : ∀ z ∈ blks S, ∃ cs, Has w z 68 cs := fun z hz => by
  obtain ⟨s, hs, hgs⟩ := List.mem_flatMap.1 hz
  obtain ⟨g', cs', _, _, h3, h4, _⟩ := h s hs
  rw [h3] at hgs
  have : z = g' := by simpa using hgs
  subst this
  exact ⟨cs', h4⟩
theorem WinA.turLo {lo b tb : Nat} {w w' : World} {a : Wa} {X : List Nat} (h : WinA lo b tb w a) (ht : Tur X w w') (hX : OffLo w lo b tb X) : WinA lo b tb w' a := by
  obtain ⟨A, n, c, T, h⟩ := h
  exact ⟨A, n, c, T, h.turLo ht hX⟩
theorem ownC_one {B : Nat} {w : World} {A : Option Addr} {n c : Nat} {x : Cl} (h : OwnC B w (.slice A n c) [x]) : ∃ g cs, A = some ⟨g, 0, none⟩ ∧ B ≤ g ∧ Has w g 47 cs ∧ 3 ≤ cs.size := by
  rcases h.2 with ⟨hv, hn⟩ | ⟨g, cap, cur, hv, hg, hh, hc, hcm, hsz, htk⟩
  · cases hn
  · injection hv with e1 e2 e3
    have hc2 : 1 ≤ cap := hc
    exact ⟨g, cur, e1, hg, hh, by omega⟩
theorem own_cell {B : Nat} {w : World} {A : Option Addr} {n c : Nat} {S : List Sl} (h : OwnRs B w (.slice A n c) S) (i : Nat) (hi : i < n) : ∃ b off, A = some ⟨b, off, none⟩ ∧ ∃ hs : i < S.length, w.cell? ⟨b, off + i, none⟩ = some (.slice S[i].a S[i].n S[i].c) := by
  obtain ⟨A', n', c', e, h1, h2, h3, h4⟩ := ownRs_open h
  injection e with q1 q2 q3
  subst q1 q2 q3
  obtain ⟨b, off, e, hc⟩ := h4 i (by omega)
  exact ⟨b, off, e, by omega, hc⟩
theorem own_stay {B : Nat} {w w' : World} {v : Value} {S S' : List Sl} (h : OwnRs B w v S) (ht : Tur (blks S') w w') (h' : ∀ z ∈ blks S', ∃ cs, Has w z 68 cs) : OwnRs B w' v S :=
  h.tur ht fun g hg hx => by
    obtain ⟨cs, hc⟩ := h.has hg
    obtain ⟨cs2, h2⟩ := h' g hx
    exact absurd (h2.two hc).1 (by decide)
theorem offLo_ty {lo b tb : Nat} {w : World} {a : Wa} {X : List Nat} {t : Nat} (h : WinA lo b tb w a) (hX : ∀ z ∈ X, z < lo ∧ ∃ cs, Has w z t cs) (h1 : t ≠ 81) (h2 : t ≠ 107) (h3 : t ≠ 124) : OffLo w lo b tb X := fun z hz => by
  obtain ⟨hl, cs, hh⟩ := hX z hz
  obtain ⟨⟨c1, g1⟩, c2, g2⟩ := h.own
  exact ⟨fun e => h1 (hh.two (e ▸ g1)).1, fun e => h2 (hh.two (e ▸ g2)).1, t, cs, hh, h3, .inl hl⟩
end Go.Proofs.YtcdjeibcnkpadaaDoor
