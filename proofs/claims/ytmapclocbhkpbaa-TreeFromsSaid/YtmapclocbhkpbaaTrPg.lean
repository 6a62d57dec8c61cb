/-
  Keys, page by page; rows of texts that grow by a whole row.
-/
import Derived.Test.YtmapclocbhkpbaaTrX
import Derived.Laws.OwnMore
namespace Go.Proofs.Ytmapclocbhkpbaa
open Go.RowKit Go.Maps Dg
set_option linter.unusedVariables false
theorem OwnS.tur {B : Nat} {w w' : World} {v : Value} {L : List ByteArray} {X : List Nat} (h : OwnS B w v L) (ht : Tur X w w') (hx : ∀ g, v.ownBlock = some g → g ∉ X) : OwnS B w' v L :=
  h.keep fun g hg => ht.block g (h.lt hg).2 (hx g hg)
/-- The block of a row of texts holds texts. -/
theorem OwnS.has {B : Nat} {w : World} {v : Value} {L : List ByteArray} (h : OwnS B w v L) {g : Nat} (hg : v.ownBlock = some g) : ∃ cs, Has w g 9 cs := by
  rcases h.2 with ⟨hv, _⟩ | ⟨g', cap, cur, hv, _, hh, _⟩
  · rw [hv] at hg; cases hg
  · rw [hv] at hg
    injection hg with hg
    subst hg
    exact ⟨cur, hh⟩
/-- A tree stays where blocks of other types turn. -/
theorem TrAt.turX {tb : Nat} {w w' : World} {T : Tr} {X : List Nat} (h : TrAt tb w T) (ht : Tur X w w') (hX : ∀ b ∈ X, ∃ t cs, Has w b t cs ∧ t ≠ 57 ∧ t ≠ 49) : TrAt tb w' T := by
  have one : ∀ {b : Nat} {t : TypeId} {cs : Array Value}, Has w b t cs → (t = 57 ∨ t = 49) → b ∉ X := by
    intro b t cs hb hty hx
    obtain ⟨t2, cs2, h2, n1, n2⟩ := hX b hx
    unfold Has at hb h2
    rw [hb] at h2
    injection h2 with h2
    injection h2 with h2 h3
    subst h3
    rcases hty with e | e
    · exact n1 e
    · exact n2 e
  refine ⟨h.top.tur ht (one h.top (.inr rfl)), ?_, h.bal, h.ris⟩
  have key : ∀ {S : Tr}, IsTr w.heap.size w S → IsTr w.heap.size w' S := by
    intro S
    induction S with
    | nil => intro _; trivial
    | node b l k v lo le r ihl ihr =>
      rintro ⟨h1, h2, h3, h4⟩
      exact ⟨h1, h2.tur ht (one h2 (.inl rfl)), ihl h3, ihr h4⟩
  exact (key h.tr).mono ht.size
theorem TrAt.turS {tb B : Nat} {w w' : World} {T : Tr} {v : Value} {L : List ByteArray} (h : TrAt tb w T) (ho : OwnS B w v L) (ht : Tur v.ownBlock.toList w w') : TrAt tb w' T :=
  h.turX ht fun b hb => by
    obtain ⟨cs, hc⟩ := ho.has (g := b) (by simpa using hb)
    exact ⟨_, cs, hc, by decide, by decide⟩
/-- A row of texts is put behind one of the call's own. -/
theorem appSS (w : World) (B : Nat) (v : Value) (L : List ByteArray) (A : Option Addr) (n c : Nat) (M : List ByteArray) (h : OwnS B w v L) (hB : B ≤ w.heap.size) (hM : M.length = n) (hr : RdS w A M) (hA : A = none → n = 0 ∧ c = 0) (hl : L.length + n ≤ 1000000) :
    ∃ R W', (Builtin.append_ #[26, 26] 26 #[v, .slice A n c]).run Try.prog w = .ok R W' ∧ OwnS B W' R (L ++ M) ∧ Tur v.ownBlock.toList w W' ∧ (∀ k, R.ownBlock = some k → v.ownBlock = some k ∨ w.heap.size ≤ k) := by
  obtain ⟨i0, hi, hz0, hz1, hz2⟩ := info_parts infoS
  subst hM
  cases A with
  | none =>
    obtain ⟨h0, rfl⟩ := hA rfl
    obtain rfl := List.eq_nil_of_length_eq_zero h0
    refine ⟨v, w, run_append_owned_none w B 26 26 9 i0 1 Try.underlying26 hi v _ _ h, ?_, Tur.refl _ _, fun k hk => .inl hk⟩
    rw [List.append_nil]
    exact h
  | some a =>
    obtain ⟨R, W', hrun, hown, hg, _, hx⟩ := run_append_own_at (P := Try.prog) w B 26 26 9 i0 _ 1 16 Try.underlying26 hi hz0 hz1 hz2 rfl (by decide) v L.length (L.map Value.string) h
      a M.length c (M.map Value.string) (by simp) (fun j u hj => by
        rw [List.getElem?_map] at hj
        have hjl : j < M.length := by
          apply Classical.byContradiction
          intro hn
          rw [List.getElem?_eq_none (by omega)] at hj
          cases hj
        rw [List.getElem?_eq_getElem hjl] at hj
        simp only [Option.map_some, Option.some.injEq] at hj
        obtain ⟨b, off, e, hc⟩ := hr j hjl
        injection e with e
        subst e
        subst hj
        rw [Addr.add_lit]
        exact hc) (fun u hu => by
        rw [List.mem_map] at hu
        obtain ⟨s, _, rfl⟩ := hu
        rfl) (by unfold maxLen; omega) (by omega) hB
    refine ⟨R, W', hrun, ?_, ?_, ?_⟩
    · unfold OwnS; rw [List.map_append, List.length_append]; exact hown
    · exact Tur.grown hg fun k hk => by rw [hk]; simp
    · intro k hk
      rcases hx with hx | hx
      · exact .inl (hx ▸ hk)
      · rw [hx] at hk
        injection hk with hk
        exact .inr (by omega)
/-- The last of the first m keys. -/
def lastK (C : List (ByteArray × Int)) : Nat → ByteArray
  | 0 => ⟨#[]⟩
  | m + 1 => ((C[m]?).map (·.1)).getD ⟨#[]⟩
theorem lastK_succ {C : List (ByteArray × Int)} {m : Nat} (h : m < C.length) : lastK C (m + 1) = C[m].1 := by
  show ((C[m]?).map (·.1)).getD ⟨#[]⟩ = _
  rw [List.getElem?_eq_getElem h]
  rfl
theorem skp_self {k : ByteArray} (h : k ≠ ⟨#[]⟩) : skp k k = true := by
  unfold skp
  have : k.toList.isEmpty = false := by
    cases hk : k.toList with
    | nil => exact absurd (toList_inj (b := ⟨#[]⟩) (by rw [hk, ByteArray.toList_eq])) h
    | cons a l => rfl
  rw [this]
  simp
theorem skp_ne {k x : ByteArray} (h : x ≠ k) : skp k x = false := by
  unfold skp
  have : (x.toList == k.toList) = false := by
    cases hk : (x.toList == k.toList) with
    | false => rfl
    | true => exact absurd (eq_iff.1 hk) h
  rw [this]
  rfl
theorem keysL_page {C : List (ByteArray × Int)} (h : Rises C) (hne : ∀ x ∈ C, x.1 ≠ ⟨#[]⟩) {m : Nat} (hm : m ≤ C.length) {most : Int} (h1 : ¬ most < 1) :
    keysL C (lastK C m) most = ((C.map (·.1)).drop m).take most.toNat := by
  unfold keysL
  rw [if_neg h1]
  congr 1
  rcases m with _ | j
  · have e1 : C.filter (fun x => !kl x.1 (lastK C 0)) = C := by
      rw [List.filter_eq_self]
      intro x _
      have : kl x.1 (lastK C 0) = false := by
        unfold kl lastK
        rw [ByteArray.toList_eq ⟨#[]⟩]
        cases x.1.toList <;> rfl
      rw [this]
      rfl
    have e2 : C.filter (fun x => !skp (lastK C 0) x.1) = C := by
      rw [List.filter_eq_self]
      intro x _
      have : skp (lastK C 0) x.1 = false := by
        unfold skp lastK
        rw [ByteArray.toList_eq ⟨#[]⟩]
        simp
      rw [this]
      rfl
    rw [e1, e2, List.drop_zero]
  · have hj : j < C.length := by omega
    rw [lastK_succ hj]
    have hC : C = C.take j ++ C[j] :: C.drop (j + 1) := by
      rw [← List.drop_eq_getElem_cons hj, List.take_append_drop]
    have hk := hne C[j] (List.getElem_mem hj)
    generalize hy : C[j] = y at *
    have hr := h
    rw [hC] at hr
    obtain ⟨-, ⟨hr3, -⟩, hr2⟩ := Rises.app.1 hr
    have f1 : (C.take j).filter (fun x => !kl x.1 y.1) = [] := by
      rw [List.filter_eq_nil_iff]
      intro x hx
      rw [hr2 x hx y List.mem_cons_self]
      simp
    have f2 : (C.drop (j + 1)).filter (fun x => !kl x.1 y.1) = C.drop (j + 1) := by
      rw [List.filter_eq_self]
      intro x hx
      rw [kl_asymm (hr3 x hx)]
      rfl
    have f3 : (C.drop (j + 1)).filter (fun x => !skp y.1 x.1) = C.drop (j + 1) := by
      rw [List.filter_eq_self]
      intro x hx
      rw [skp_ne (Ne.symm (ne_of_kl (hr3 x hx)))]
      rfl
    have f4 : C.filter (fun x => !kl x.1 y.1) = y :: C.drop (j + 1) := by
      conv => lhs; rw [hC]
      rw [List.filter_append, f1, List.nil_append, List.filter_cons_of_pos (by rw [kl_irrefl]; rfl), f2]
    rw [f4, List.filter_cons_of_neg (by rw [skp_self hk]; simp), f3, List.map_drop]
/-- So many keys more. -/
theorem page_more {α : Type} (K : List α) (m p : Nat) : K.take m ++ (K.drop m).take p = K.take (m + ((K.drop m).take p).length) := by
  have : (K.drop m).take p = (K.drop m).take ((K.drop m).take p).length := by
    rw [List.length_take]
    rcases Nat.le_total p (K.drop m).length with h | h
    · rw [Nat.min_eq_left h]
    · rw [Nat.min_eq_right h, List.take_of_length_le h, List.take_length]
  conv => lhs; rw [this]
  rw [← List.take_add]
end Go.Proofs.Ytmapclocbhkpbaa
