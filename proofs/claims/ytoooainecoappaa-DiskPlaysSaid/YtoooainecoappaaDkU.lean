/-
  The program's Up: the power comes back, and each file is torn.
-/
import Derived.Test.YtoooainecoappaaDkT
import Derived.Test.YtoooainecoappaaDkL
namespace Go.Proofs.Ytoooainecoappaa
open Go.RowKit Go.Maps Go.WideShapes Go.WideMaps
def torn (f : Pf) (n : Int) : Pf := ⟨f.nm, f.l.take (tornK f.l.length f.k n), tornK f.l.length f.k n⟩
def upTo (keep : List Int) (l : List Pf) (k : Nat) : List Pf := l.mapIdx fun i f => if i < k then torn f (keep.getD i 0) else f
def upD (S : Ds) (keep : List Int) : Ds := if S.down then { S with down := false, armed := -1, fs := upTo keep S.fs S.fs.length } else S
theorem upTo_get (keep : List Int) (l : List Pf) (k j : Nat) : (upTo keep l k)[j]? = (l[j]?).map fun f => if j < k then torn f (keep.getD j 0) else f := by
  unfold upTo; rw [List.getElem?_mapIdx]
theorem upTo_zero (keep : List Int) (l : List Pf) : upTo keep l 0 = l := by
  apply List.ext_getElem?
  intro j
  rw [upTo_get]
  simp
theorem upTo_succ (keep : List Int) (l : List Pf) (k : Nat) (f : Pf) (h : l[k]? = some f) : upTo keep l (k + 1) = (upTo keep l k).set k (torn f (keep.getD k 0)) := by
  apply List.ext_getElem?
  intro j
  rw [upTo_get, List.getElem?_set, upTo_get]
  have hl : (upTo keep l k).length = l.length := by unfold upTo; simp
  rw [hl]
  by_cases e : k = j
  · subst e
    have hk : k < l.length := (List.getElem?_eq_some_iff.1 h).1
    rw [if_pos rfl, if_pos hk, h]
    simp
  · rw [if_neg e]
    cases l[j]? with
    | none => rfl
    | some g =>
      simp only [Option.map_some]
      by_cases h1 : j < k
      · rw [if_pos h1, if_pos (by omega)]
      · rw [if_neg h1, if_neg (by omega)]
theorem upTo_nm (keep : List Int) (l : List Pf) (k : Nat) : (upTo keep l k).map Pf.nm = l.map Pf.nm := by
  apply List.ext_getElem?
  intro j
  rw [List.getElem?_map, List.getElem?_map, upTo_get]
  cases l[j]? with
  | none => rfl
  | some g =>
    simp only [Option.map_some]
    split <;> rfl
theorem tot_upTo (keep : List Int) (k : Nat) (l : List Pf) : tot (upTo keep l k) ≤ tot l := by
  induction l generalizing keep k with
  | nil => exact Nat.le_refl _
  | cons f r ih =>
    cases k with
    | zero => rw [upTo_zero]; exact Nat.le_refl _
    | succ k =>
      have e : upTo keep (f :: r) (k + 1) = torn f (keep.getD 0 0) :: upTo keep.tail r k := by
        apply List.ext_getElem?
        intro j
        rw [upTo_get]
        cases j with
        | zero => simp
        | succ j =>
          rw [List.getElem?_cons_succ, List.getElem?_cons_succ, upTo_get]
          have e1 : keep.getD (j + 1) 0 = keep.tail.getD j 0 := by cases keep <;> simp
          rw [e1]
          cases r[j]? with
          | none => rfl
          | some g => simp
      rw [e, tot_cons, tot_cons]
      have h1 := ih keep.tail k
      have h2 : (torn f (keep.getD 0 0)).l.length ≤ f.l.length := by unfold torn; rw [List.length_take]; omega
      omega
section
variable {B d : Nat} {w w' : World} {S : Ds} {m : Nat} {gs : List Fl}
theorem setF_set {x : Fl} {l : List Fl} (hr : Rise l) {k : Nat} {f : Fl} (hk : l[k]? = some f) (hn : x.nm = f.nm) : setF x l = l.set k x := by
  apply List.ext_getElem?
  intro j
  unfold setF
  rw [List.getElem?_map, List.getElem?_set]
  have hkl : k < l.length := (List.getElem?_eq_some_iff.1 hk).1
  by_cases e : k = j
  · subst e
    rw [if_pos rfl, if_pos hkl, hk]
    simp [hn]
  · rw [if_neg e]
    cases hj : l[j]? with
    | none => rfl
    | some g =>
      have hne : g.nm ≠ x.nm := by
        intro e2
        rw [hn] at e2
        have hp := List.pairwise_iff_getElem.1 hr
        have hjl : j < l.length := (List.getElem?_eq_some_iff.1 hj).1
        have e3 : l[j] = g := (List.getElem?_eq_some_iff.1 hj).2
        have e4 : l[k] = f := (List.getElem?_eq_some_iff.1 hk).2
        rcases Nat.lt_or_gt_of_ne e with h | h
        · have := hp k j hkl hjl h
          rw [e3, e4, e2, WideAt.bytes_irrefl] at this; cases this
        · have := hp j k hjl hkl h
          rw [e3, e4, e2, WideAt.bytes_irrefl] at this; cases this
      simp [hne]
theorem foot_set {f x : Fl} (hr : Rise gs) (hf : f ∈ gs) (hn : x.nm = f.nm) (hb : x.bs = f.bs) : foot d m (setF x gs) = foot d m gs := by
  obtain ⟨p, q, e1, e2⟩ := set_split hr hf hn
  unfold foot
  rw [e2]
  conv => rhs; rw [e1]
  rw [List.flatMap_append, List.flatMap_append, List.flatMap_cons, List.flatMap_cons, hb]
set_option maxRecDepth 100000 in
theorem key_in (h : DIn B d w S m gs) {f : Fl} (hf : f ∈ gs) : keyOf Try.prog 9 (.string ⟨f.nm.toArray⟩) = some (.string f.nm) := by
  obtain ⟨es, hD, hk⟩ := h.map.keysOf
  injection hD with hD
  obtain ⟨v, hv⟩ := hk (ent f) (by rw [← hD]; exact List.mem_map.2 ⟨f, hf, rfl⟩)
  obtain ⟨x, rfl, hx, _⟩ := Maps.keyOf_str Try.underlying9 hv
  have hx' : f.nm = x := by simpa [ent] using hx
  subst hx'
  exact hv
theorem look1_run (h : DIn B d w S m gs) {f : Fl} (hf : f ∈ gs) :
    (Instr.lookup 62 (.map (some m)) (.string ⟨f.nm.toArray⟩) false).run Try.prog w = .ok (.pointer (some ⟨f.blk, 0, none⟩)) w := by
  have hz : (zeroValue 94).run Try.prog w = .ok (.pointer none) w := by kernel_rfl
  obtain ⟨v, ps, hrun, hv⟩ := h.map.lookup strK Try.underlying62 hz (zd := .lit (.int .i64 (-1))) rfl (key_in h hf)
  rw [at_ent, find_rise h.rise hf rfl] at hv
  rw [hrun, ptrR_at hv]
/-- A file is torn. -/
theorem tear_any (h : DIn B d w S m gs) (hB : B ≤ w.heap.size) {k : Nat} {f : Fl} (hf : gs[k]? = some f) (n : Int) (hn : -9223372036854775808 ≤ n ∧ n ≤ 9223372036854775807) :
    Calls Try.prog 69 #[.pointer (some ⟨f.blk, 0, none⟩), .int .i64 n] w fun e w' => e = .returned (.tuple #[]) ∧
      ∃ gs', Hid (DIn B d w' { S with fs := S.fs.set k (torn f.pf n) } m gs') ∧ Hid (foot d m gs' = foot d m gs) ∧ Hid (Tur (foot d m gs) w w') := by
  have hm : f ∈ gs := List.mem_of_getElem? hf
  have hfa := h.files f hm
  have hroom := h.room
  have hful := h.full
  have hgt := tot_get h hm
  obtain ⟨A, c, hv, hc, hcm, _⟩ := own_full hfa.own
  have htop := hfa.top
  rw [hv] at htop
  refine (tear_walk w f.blk A f.l.length c f.k n htop hfa.kept hc hcm (by omega) hn).mono ?_
  rintro e w1 ⟨rfl, hh, ht⟩
  let K := tornK f.l.length f.k n
  have hK := tornK_le n hfa.kept
  let x : Fl := { f with v := .slice A K c, l := f.l.take K, k := K }
  have hxo : x.v.ownBlock = f.v.ownBlock := by
    rw [hv]
    cases A <;> rfl
  have hxb : x.bs = f.bs := by
    show f.blk :: x.v.ownBlock.toList = _
    rw [hxo]; rfl
  have hne : ∀ g, f.v.ownBlock = some g → g ≠ f.blk := by
    intro g hg e
    have hn := h.flat
    rw [(flat_perm (rise_perm h.rise f hm)).nodup_iff, List.flatMap_cons] at hn
    have := (List.nodup_append.1 hn).1
    unfold Fl.bs at this
    rw [hg, e] at this
    simp at this
  have ho := hfa.own
  rw [hv] at ho
  have hx : FAt w1 x := ⟨hh.out, (ho.cut K hK).keep fun g hg => ht.out.block g (h.lt g (foot_mem hm (own_mem f (hxo ▸ hg)))) (by simpa using hne g (hxo ▸ hg)),
    (by show K ≤ (f.l.take K).length; rw [List.length_take]; omega), fun y hy => hfa.byte y (List.mem_of_mem_take hy)⟩
  have hset := setF_set h.rise hf (x := x) rfl
  have hpf : setP x.pf S.fs = S.fs.set k (torn f.pf n) := by
    rw [← h.fs, ← setF_pf, hset, List.map_set]
    rfl
  have htot := tot_set h (x := x) hm rfl
  have hlen : x.l.length ≤ f.l.length := by show (f.l.take K).length ≤ _; rw [List.length_take]; omega
  obtain ⟨hD, _⟩ := h.sets (w' := w1) hm (x := x) rfl rfl (.inl hxo) hx (fun b hb1 hb2 => ht.out.block b (h.lt b hb1) (by simp; exact fun e => hb2 (e ▸ blk_mem f))) hB (by omega)
  rw [hpf] at hD
  exact ⟨rfl, _, hD, foot_set h.rise hm rfl hxb, ht.out.sub (by intro b hb; rw [List.mem_singleton.1 hb]; exact foot_mem hm (blk_mem f))⟩
end
end Go.Proofs.Ytoooainecoappaa
