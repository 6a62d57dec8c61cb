/-
  What find tells; mathematics.
-/
import Derived.Test.YtmapclocbhkpbaaTrP
import Derived.Test.YtmapclocbhkpbaaTrF
namespace Go.Proofs.Ytmapclocbhkpbaa
open Go.RowKit Go.Maps Dg
set_option linter.unusedVariables false
theorem getL_app (key : ByteArray) (a b : List (ByteArray × Int)) : getL key (a ++ b) = (getL key a).or (getL key b) := by
  unfold getL
  rw [List.find?_append]
  cases List.find? (fun x => x.1.toList == key.toList) a <;> rfl
theorem getL_none {key : ByteArray} {l : List (ByteArray × Int)} (h : ∀ y ∈ l, y.1 ≠ key) : getL key l = none := by
  unfold getL
  rw [List.find?_eq_none.2 fun y hy he => h y hy (eq_iff.1 he)]
  rfl
theorem getL_cons_ne {key : ByteArray} {x : ByteArray × Int} {l : List (ByteArray × Int)} (h : x.1 ≠ key) : getL key (x :: l) = getL key l := by
  unfold getL
  have : (x.1.toList == key.toList) = false := by
    cases e : (x.1.toList == key.toList) with
    | false => rfl
    | true => exact absurd (eq_iff.1 e) h
  rw [List.find?_cons, this]
theorem getL_cons_eq {key : ByteArray} {v : Int} {l : List (ByteArray × Int)} : getL key ((key, v) :: l) = some v := by
  unfold getL
  rw [List.find?_cons]
  simp
theorem ne_of_kl {a b : ByteArray} (h : kl a b = true) : a ≠ b := fun e => by rw [e, kl_irrefl] at h; cases h
theorem find_get (key : ByteArray) : ∀ T : Tr, Rises T.con → (T.find key).map Nd.v = getL key T.con
  | .nil, _ => rfl
  | .node b l k v lo le r, h => by
    obtain ⟨h1, ⟨h2, h3⟩, h4⟩ := Rises.app.1 h
    have hl : ∀ y ∈ l.con, kl y.1 k = true := fun y hy => h4 y hy (k, v) List.mem_cons_self
    have hcon : (Tr.node b l k v lo le r).con = l.con ++ (k, v) :: r.con := rfl
    rw [hcon, getL_app]
    unfold Tr.find
    split
    · rename_i he
      have he' := eq_iff.1 he
      subst he'
      rw [getL_none fun y hy => ne_of_kl (hl y hy), getL_cons_eq]
      rfl
    · rename_i he
      have hne : k ≠ key := fun e => he (eq_iff.2 e)
      rw [getL_cons_ne hne]
      split
      · rename_i hk
        rw [find_get key l h1, getL_none (l := r.con) fun y hy e => by
          have := h2 y hy
          rw [e] at this
          exact absurd (kl_trans hk this) (by rw [kl_irrefl]; decide)]
        cases getL key l.con <;> rfl
      · rename_i hk
        have hk2 : kl k key = true := (kl_total hne).resolve_right hk
        rw [find_get key r h3, getL_none (l := l.con) fun y hy e => by
          have := hl y hy
          rw [e] at this
          exact absurd (kl_trans hk2 this) (by rw [kl_irrefl]; decide)]
        rfl
/-- Keys that do not come ahead of one. -/
theorem from_con (key : ByteArray) : ∀ T : Tr, Rises T.con → (T.from key).map (fun x => (x.k, x.v)) = T.con.filter fun x => !kl x.1 key
  | .nil, _ => rfl
  | .node b l k v lo le r, h => by
    obtain ⟨h1, ⟨h2, h3⟩, h4⟩ := Rises.app.1 h
    have hl : ∀ y ∈ l.con, kl y.1 k = true := fun y hy => h4 y hy (k, v) List.mem_cons_self
    have hcon : (Tr.node b l k v lo le r).con = l.con ++ (k, v) :: r.con := rfl
    rw [hcon, List.filter_append, List.filter_cons]
    unfold Tr.from
    rw [List.map_append, from_con key r h3]
    cases hk : kl k key with
    | true =>
      have hnil : l.con.filter (fun x => !kl x.1 key) = [] := by
        rw [List.filter_eq_nil_iff]
        intro y hy
        simp [kl_trans (hl y hy) hk]
      simp [hnil]
    | false =>
      simp [from_con key l h1]
/-- Keys, as a list tells them. -/
def keysL (l : List (ByteArray × Int)) (after : ByteArray) (most : Int) : List ByteArray := if most < 1 then [] else (((l.filter fun x => !kl x.1 after).filter fun x => !skp after x.1).map (·.1)).take most.toNat
theorem keysF_con {T : Tr} (h : Rises T.con) (after : ByteArray) (most : Int) : keysF T after most = keysL T.con after most := by
  unfold keysF keysL outL
  split
  · rfl
  · rw [← from_con after T h, List.filter_map, List.map_map]
    rfl
end Go.Proofs.Ytmapclocbhkpbaa
