/-
  What Part comes to, opened for a region.
-/
import Derived.Test.YticfhjimbochlaaDoorKeyM
namespace Go.Proofs.YticfhjimbochlaaDoor
open Go.RowKit Dg
def PartO (M : List Cl) (k : Nat) (s : ByteArray) (w' : World) (A : Option Addr) (n c : Nat) (pe : Int) : Prop :=
  (pe = 0 ∧ n = k ∧ ∃ L, Good1 L ∧ (∀ x ∈ L, x.fits) ∧ L.length = k ∧ n ≤ c ∧ keys L = sb s ∧ beginsF M L k = true ∧ VRow w' A L) ∨
  (pe = 2 ∧ n = 0 ∧ (∀ L, Good1 L → L.length = k → keys L = sb s → beginsF M L k = false))
theorem partR_open {M : List Cl} {k : Nat} {s : ByteArray} {w w' : World} {e : Ending} (h : PartR M k s w e w') : ∃ A n c pe, e = .returned (.tuple #[.slice A n c, .int .i64 pe]) ∧ PartO M k s w' A n c pe := by
  rcases h with ⟨L, v, g, f, l, kk, b, he, ho⟩ | ⟨hno, he⟩
  · obtain ⟨A, n, c, hv, hn, hnc, _, hr, _⟩ := ownV_open ho
    subst hv
    exact ⟨A, n, c, 0, he, .inl ⟨rfl, hn.out.symm.trans l, L, g, f, l, hnc, kk, b, hr.out⟩⟩
  · exact ⟨none, 0, 0, 2, he, .inr ⟨rfl, rfl, hno⟩⟩
theorem PartO.below {M : List Cl} {k : Nat} {s : ByteArray} {w w' : World} {A : Option Addr} {n c : Nat} {pe : Int} (h : PartO M k s w A n c pe) (hb : Below w.heap.size w w') : PartO M k s w' A n c pe := by
  rcases h with ⟨a, b, L, g, f, l, m, kk, bb, r⟩ | h
  · exact .inl ⟨a, b, L, g, f, l, m, kk, bb, r.below hb⟩
  · exact .inr h
/-- The document's Key of what Part told. -/
theorem key_of_part {M : List Cl} {k : Nat} (hg : GoodS M k) {L : List Vl} {s : ByteArray} (g : Good1 L) (l : L.length = k) (hk : keys L = sb s) (b : beginsF M L k = true) : keyT M L k = .tuple #[.string s, .int .i64 0] := by
  have ht : L.take k = L := List.take_of_length_le (by omega)
  have hm : (L.take k).all Vl.may = true := by rw [ht, List.all_eq_true]; exact fun x hx => (g x hx).1
  have h1 : keyOk M L k = true := by rw [← key_one hg L, b, hm]; rfl
  unfold keyT
  rw [if_pos h1, ht, hk, bs_sb]
/-- Whether Part tells the values that have that key. -/
theorem part_iff {M : List Cl} {k : Nat} (hg : GoodS M k) {V : List Vl} {s : ByteArray} {w : World} {A : Option Addr} {n c : Nat} {pe : Int} (hV : Good1 V) (hs : keys V = sb s) (h : PartO M k s w A n c pe) : (pe = 0) = (keyOk M V k = true ∧ V.length = k) := by
  apply propext
  constructor
  · intro h0
    rcases h with ⟨_, _, L, g, f, l, m, kk, b, r⟩ | ⟨h2, _⟩
    · have e : L = V := keys_inj g hV (kk.trans hs.symm)
      subst e
      have ht : L.take k = L := List.take_of_length_le (by omega)
      have hm : (L.take k).all Vl.may = true := by rw [ht, List.all_eq_true]; exact fun x hx => (g x hx).1
      exact ⟨by rw [← key_one hg L, b, hm]; rfl, l⟩
    · omega
  · intro ⟨h1, h2⟩
    rcases h with ⟨h0, _⟩ | ⟨_, _, hno⟩
    · exact h0
    · have := hno V hV h2 hs
      rw [← key_one hg V, this] at h1
      cases h1
end Go.Proofs.YticfhjimbochlaaDoor
