/-
  Files of a disk as lists: what is put, what is taken away, what is found. No program.
-/
import Derived.Maps.RangeWalk
import Derived.Maps.OwnSet
import Derived.Sort.KeysCollected
import Derived.WalkKit
namespace Go.Proofs.Ytoooainecoappaa
open Go.RowKit Go.Maps Go.WideShapes
/-- A text's bytes, as a key. -/
abbrev nmO (s : ByteArray) : List UInt8 := s.data.toList
/-- A file: its name, where it lies, its slice, its bytes, how many of them are kept. -/
structure Fl where
  nm : List UInt8
  blk : Nat
  v : Value
  l : List Nat
  k : Nat
/-- A file without its places. -/
structure Pf where
  nm : List UInt8
  l : List Nat
  k : Nat
def Fl.pf (f : Fl) : Pf := ⟨f.nm, f.l, f.k⟩
def ent (f : Fl) : Lit × DataW Unit := (.string f.nm, .lit (.int .i64 f.blk))
def insF (x : Fl) : List Fl → List Fl
  | [] => [x]
  | y :: r => if bytesBefore x.nm y.nm then x :: y :: r else y :: insF x r
def insP (x : Pf) : List Pf → List Pf
  | [] => [x]
  | y :: r => if bytesBefore x.nm y.nm then x :: y :: r else y :: insP x r
def delF (nm : List UInt8) (l : List Fl) : List Fl := l.filter fun f => !(f.nm == nm)
def delP (nm : List UInt8) (l : List Pf) : List Pf := l.filter fun f => !(f.nm == nm)
def getP (nm : List UInt8) (l : List Pf) : Option Pf := l.find? fun f => f.nm == nm
def hasP (nm : List UInt8) (l : List Pf) : Bool := l.any fun f => f.nm == nm
/-- All bytes of all files. -/
def tot (l : List Pf) : Nat := (l.map fun f => f.l.length).sum

theorem ins_ent (x : Fl) : ∀ l : List Fl, DataW.insert (ent x) (l.map ent) = (insF x l).map ent
  | [] => rfl
  | y :: r => by
    show (if (ent x).1.before (ent y).1 then ent x :: ent y :: r.map ent else ent y :: DataW.insert (ent x) (r.map ent)) = _
    have e : (ent x).1.before (ent y).1 = bytesBefore x.nm y.nm := rfl
    rw [e]
    unfold insF
    split
    · rfl
    · rw [ins_ent x r]; rfl
theorem del_ent (nm : List UInt8) (l : List Fl) : (l.map ent).filter (fun p => !p.1.sameKey (.string nm)) = (delF nm l).map ent := by
  unfold delF
  rw [List.filter_map]
  rfl
theorem put_ent (x : Fl) (l : List Fl) : DataW.put (.map (l.map ent)) (.string x.nm) (.lit (.int .i64 x.blk)) = .map ((insF x (delF x.nm l)).map ent) := by
  show DataW.map (DataW.insert (ent x) ((l.map ent).filter (fun p => !p.1.sameKey (.string x.nm)))) = _
  rw [del_ent, ins_ent]
theorem cut_ent (nm : List UInt8) (l : List Fl) : DataW.del (.map (l.map ent)) (.string nm) = .map ((delF nm l).map ent) := by
  show DataW.map ((l.map ent).filter (fun p => !p.1.sameKey (.string nm))) = _
  rw [del_ent]
theorem has_ent (nm : List UInt8) (l : List Fl) : Maps.has (.map (l.map ent)) (.string nm) = l.any fun f => f.nm == nm := by
  rw [has_eq, List.any_map]
  rfl
theorem at_ent (nm : List UInt8) (l : List Fl) (z : DataW Unit) : DataW.atKey (.map (l.map ent)) (.string nm) z = match l.find? (fun f => f.nm == nm) with | some f => .lit (.int .i64 f.blk) | none => z := by
  unfold DataW.atKey
  simp only [List.find?_map]
  have e : ((fun p : Lit × DataW Unit => p.1.sameKey (.string nm)) ∘ ent) = fun f => f.nm == nm := rfl
  rw [e]
  cases l.find? (fun f => f.nm == nm) <;> rfl
theorem keys_ent (l : List Fl) : strKeys (.map (l.map ent)) = l.map Fl.nm := by
  show (l.map ent).map (fun p => strOf p.1) = _
  rw [List.map_map]; rfl
theorem size_ent (l : List Fl) : Maps.size (.map (l.map ent)) = l.length := by
  rw [size_eq, List.length_map]

theorem insF_pf (x : Fl) : ∀ l : List Fl, (insF x l).map Fl.pf = insP x.pf (l.map Fl.pf)
  | [] => rfl
  | y :: r => by
    show _ = (if bytesBefore x.pf.nm y.pf.nm then x.pf :: y.pf :: r.map Fl.pf else y.pf :: insP x.pf (r.map Fl.pf))
    unfold insF
    have e : bytesBefore x.pf.nm y.pf.nm = bytesBefore x.nm y.nm := rfl
    rw [e]
    split
    · rfl
    · rw [← insF_pf x r]; rfl
theorem delF_pf (nm : List UInt8) (l : List Fl) : (delF nm l).map Fl.pf = delP nm (l.map Fl.pf) := by
  unfold delF delP
  rw [List.filter_map]
  rfl
theorem insF_perm (x : Fl) : ∀ l : List Fl, (insF x l).Perm (x :: l)
  | [] => List.Perm.refl _
  | y :: r => by
    unfold insF
    split
    · exact List.Perm.refl _
    · exact ((insF_perm x r).cons y).trans (List.Perm.swap x y r)
theorem insP_perm (x : Pf) : ∀ l : List Pf, (insP x l).Perm (x :: l)
  | [] => List.Perm.refl _
  | y :: r => by
    unfold insP
    split
    · exact List.Perm.refl _
    · exact ((insP_perm x r).cons y).trans (List.Perm.swap x y r)
theorem tot_perm {l m : List Pf} (h : l.Perm m) : tot l = tot m := (h.map _).sum_nat
theorem tot_cons (x : Pf) (l : List Pf) : tot (x :: l) = x.l.length + tot l := by simp [tot]
theorem tot_ins (x : Pf) (l : List Pf) : tot (insP x l) = x.l.length + tot l := by rw [tot_perm (insP_perm x l), tot_cons]
theorem tot_del_le (nm : List UInt8) : ∀ l : List Pf, tot (delP nm l) ≤ tot l
  | [] => Nat.le_refl _
  | y :: r => by
    have := tot_del_le nm r
    unfold delP at this ⊢
    rw [List.filter_cons, tot_cons]
    split
    · rw [tot_cons]; omega
    · omega
theorem delP_none {nm : List UInt8} {l : List Pf} (h : hasP nm l = false) : delP nm l = l := by
  refine List.filter_eq_self.2 fun f hf => ?_
  have := List.any_eq_false.1 h f hf
  simpa using this
theorem delF_none {nm : List UInt8} {l : List Fl} (h : ∀ f ∈ l, f.nm ≠ nm) : delF nm l = l := by
  refine List.filter_eq_self.2 fun f hf => ?_
  simpa using h f hf
theorem rise_perm {l : List Fl} : l.Pairwise (fun a b => bytesBefore a.nm b.nm = true) → ∀ f ∈ l, l.Perm (f :: delF f.nm l) := by
  intro h f hf
  induction l with
  | nil => cases hf
  | cons y r ih =>
    obtain ⟨h1, h2⟩ := List.pairwise_cons.1 h
    rcases List.mem_cons.1 hf with rfl | hf
    · have e : delF f.nm (f :: r) = r := by
        unfold delF
        rw [List.filter_cons, if_neg (by simp)]
        refine List.filter_eq_self.2 fun g hg => ?_
        have hne : g.nm ≠ f.nm := fun e => by have := h1 g hg; rw [e, WideAt.bytes_irrefl] at this; cases this
        simpa using hne
      rw [e]
    · have hne : y.nm ≠ f.nm := fun e => by have := h1 f hf; rw [e, WideAt.bytes_irrefl] at this; cases this
      have e : delF f.nm (y :: r) = y :: delF f.nm r := by
        unfold delF
        rw [List.filter_cons, if_pos (by simpa using hne)]
      rw [e]
      exact ((ih h2 hf).cons y).trans (List.Perm.swap f y _)
abbrev Rise (l : List Fl) : Prop := l.Pairwise fun a b => bytesBefore a.nm b.nm = true
theorem insF_rise (x : Fl) : ∀ l : List Fl, Rise l → (∀ f ∈ l, f.nm ≠ x.nm) → Rise (insF x l)
  | [], _, _ => by simp [insF, Rise]
  | y :: r, h, hn => by
    obtain ⟨h1, h2⟩ := List.pairwise_cons.1 h
    unfold insF
    split
    · rename_i hb
      refine List.pairwise_cons.2 ⟨fun q hq => ?_, h⟩
      rcases List.mem_cons.1 hq with rfl | hq
      · exact hb
      · exact bytes_trans _ _ _ hb (h1 q hq)
    · rename_i hb
      refine List.pairwise_cons.2 ⟨fun q hq => ?_, insF_rise x r h2 fun f hf => hn f (by simp [hf])⟩
      rcases List.mem_cons.1 ((insF_perm x r).mem_iff.1 hq) with rfl | hq
      · rcases WideAt.bytes_total q.nm y.nm (fun e => hn y (by simp) e.symm) with h' | h'
        · exact absurd h' hb
        · exact h'
      · exact h1 q hq
theorem delF_rise (nm : List UInt8) {l : List Fl} (h : Rise l) : Rise (delF nm l) := h.filter _
theorem delF_mem {nm : List UInt8} {l : List Fl} {f : Fl} : f ∈ delF nm l ↔ f ∈ l ∧ f.nm ≠ nm := by
  unfold delF
  rw [List.mem_filter]
  simp
theorem rise_name {l : List Fl} (h : Rise l) : ∀ f ∈ l, ∀ g ∈ l, f.nm = g.nm → f = g := by
  induction l with
  | nil => intro f hf; cases hf
  | cons y r ih =>
    obtain ⟨h1, h2⟩ := List.pairwise_cons.1 h
    intro f hf g hg e
    rcases List.mem_cons.1 hf with e1 | hf' <;> rcases List.mem_cons.1 hg with e2 | hg'
    · rw [e1, e2]
    · have := h1 g hg'; rw [← e1, e, WideAt.bytes_irrefl] at this; cases this
    · have := h1 f hf'; rw [← e2, e, WideAt.bytes_irrefl] at this; cases this
    · exact ih h2 f hf' g hg' e
theorem find_rise {l : List Fl} (h : Rise l) {f : Fl} (hf : f ∈ l) {nm : List UInt8} (hn : f.nm = nm) : l.find? (fun g => g.nm == nm) = some f := by
  cases hc : l.find? (fun g => g.nm == nm) with
  | none =>
    have := List.find?_eq_none.1 hc f hf
    simp [hn] at this
  | some g =>
    have h1 := List.find?_some hc
    have h2 := List.mem_of_find?_eq_some hc
    rw [rise_name h g h2 f hf (by rw [hn]; simpa using h1)]
/-- A file is written over: it stays where it is in the row. -/
def setF (x : Fl) (l : List Fl) : List Fl := l.map fun f => if f.nm == x.nm then x else f
def setP (x : Pf) (l : List Pf) : List Pf := l.map fun f => if f.nm == x.nm then x else f
theorem setF_pf (x : Fl) (l : List Fl) : (setF x l).map Fl.pf = setP x.pf (l.map Fl.pf) := by
  unfold setF setP
  rw [List.map_map, List.map_map]
  refine List.map_congr_left fun f _ => ?_
  show (if f.nm == x.nm then x else f).pf = if f.pf.nm == x.pf.nm then x.pf else f.pf
  have e : (f.pf.nm == x.pf.nm) = (f.nm == x.nm) := rfl
  rw [e]
  split <;> rfl
theorem setF_nm (x : Fl) (l : List Fl) : (setF x l).map Fl.nm = l.map Fl.nm := by
  unfold setF
  rw [List.map_map]
  refine List.map_congr_left fun f _ => ?_
  show (if f.nm == x.nm then x else f).nm = f.nm
  split
  · rename_i h; exact (by simpa using h : f.nm = x.nm).symm
  · rfl
theorem setF_ent {x : Fl} {l : List Fl} (h : ∀ f ∈ l, f.nm = x.nm → f.blk = x.blk) : (setF x l).map ent = l.map ent := by
  unfold setF
  rw [List.map_map]
  refine List.map_congr_left fun f hf => ?_
  show ent (if f.nm == x.nm then x else f) = ent f
  split
  · rename_i hh
    have hh' : f.nm = x.nm := by simpa using hh
    unfold ent
    rw [h f hf hh', hh']
  · rfl
theorem setF_rise {x : Fl} {l : List Fl} (h : Rise l) : Rise (setF x l) := by
  have h2 : (l.map Fl.nm).Pairwise (fun a b => bytesBefore a b = true) := List.pairwise_map.2 h
  rw [← setF_nm x l] at h2
  exact List.pairwise_map.1 h2
theorem setF_len (x : Fl) (l : List Fl) : (setF x l).length = l.length := by simp [setF]
theorem setF_mem {x : Fl} {l : List Fl} {f : Fl} (h : f ∈ setF x l) : f = x ∨ (f ∈ l ∧ f.nm ≠ x.nm) := by
  unfold setF at h
  obtain ⟨g, hg, rfl⟩ := List.mem_map.1 h
  split
  · exact .inl rfl
  · rename_i hh
    exact .inr ⟨hg, by simpa using hh⟩
end Go.Proofs.Ytoooainecoappaa
