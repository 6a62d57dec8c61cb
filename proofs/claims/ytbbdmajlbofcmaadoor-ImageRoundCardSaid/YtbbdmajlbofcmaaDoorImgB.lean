/-
  Rows as texts: plain mathematics.
-/
import Derived.Test.YtbbdmajlbofcmaaDoorLives5
import Derived.Test.YtbbdmajlbofcmaaDoorVsame
namespace Go.Proofs.YtbbdmajlbofcmaaDoor
open Go.RowKit Dg
theorem plB_byte (v : Vl) : ∀ x ∈ plB v, x < 256 := fun x hx => by
  unfold plB at hx
  split at hx
  · rw [List.mem_singleton.1 hx]; omega
  · split at hx
    · exact digs_byte _ x hx
    · split at hx
      · exact txt_byte _ x hx
      · cases hx
theorem imgF_byte (R : List Vl) (h : R.length ≤ 8) : ∀ x ∈ imgF R, x < 256 := fun x hx => by
  unfold imgF at hx
  rcases List.mem_cons.1 hx with rfl | hx
  · have h1 := nbits_lt R
    have h2 : 2 ^ R.length ≤ 2 ^ 8 := Nat.pow_le_pow_right (by omega) h
    omega
  · obtain ⟨v, _, hv⟩ := List.mem_flatMap.1 hx
    exact plB_byte v x hv
theorem imgF_len (R : List Vl) (h : R.length ≤ 8) (hs : ∀ x ∈ R, x.s.size ≤ 1000) (hf : ∀ x ∈ R, x.fits) : (imgF R).length ≤ 9000 := by
  have h1 := plb_len R (fun x hx => plB_len x (hs x hx) (hf x hx).1.1 (hf x hx).1.2.1)
  unfold imgF
  rw [List.length_cons]
  have h3 := Nat.mul_le_mul_left 1020 h
  omega
/-- A schema's two rows as texts: the same just if the rows are. -/
theorem img_eqb {M : List Cl} {R R' : List Vl} (hM : ∀ c ∈ M, 1 ≤ c.k) (h : fitsF M R = true) (h' : fitsF M R' = true) (hl : R.length ≤ 8) (hl' : R'.length ≤ 8) : ((bs (imgF R)).toList == (bs (imgF R')).toList) = vsF R R' := by
  rw [bs_eqb (imgF_byte R hl) (imgF_byte R' hl'), Bool.eq_iff_iff, decide_eq_true_eq, vsF_iff]
  constructor
  · intro e
    exact (img_apart hM h h' (r := []) (r' := []) (by rw [e])).1
  · rintro rfl; rfl
theorem sb_ext0 (s : ByteArray) (k : Nat) : sb (s.extract 0 k) = (sb s).take k := by
  simp [sb, ByteArray.data_extract, List.map_take]
theorem img_begins {M : List Cl} {R R' : List Vl} (hM : ∀ c ∈ M, 1 ≤ c.k) (h : fitsF M R = true) (h' : fitsF M R' = true) (hl : R.length ≤ 8) (hl' : R'.length ≤ 8) (hlt : (bs (imgF R)).size < (bs (imgF R')).size) : (((bs (imgF R')).extract 0 (bs (imgF R)).size).toList == (bs (imgF R)).toList) = false := by
  cases hh : (((bs (imgF R')).extract 0 (bs (imgF R)).size).toList == (bs (imgF R)).toList)
  · rfl
  · have e : (bs (imgF R')).extract 0 (bs (imgF R)).size = bs (imgF R) := toList_inj (by simpa using hh)
    have e2 := congrArg sb e
    rw [sb_ext0, sb_bs _ (imgF_byte R' hl'), sb_bs _ (imgF_byte R hl), bs_size] at e2
    have e3 : imgF R' ++ [] = imgF R ++ (imgF R').drop (imgF R).length := by
      rw [List.append_nil]
      conv => lhs; rw [← List.take_append_drop (imgF R).length (imgF R')]
      rw [e2]
    have := (img_apart hM h' h e3).1
    subst this
    omega
theorem rowF_size5 (M : List Cl) (R : List Vl) : ∀ x ∈ rowF M R, x.s.size ≤ 1000 := fun x hx => by
  obtain ⟨i, hi, rfl⟩ := List.getElem_of_mem hx
  have hi2 : i < M.length := by rw [rowF_len] at hi; exact hi
  rw [rowF_get M R i hi2]
  unfold rowOf
  split
  · exact Nat.zero_le _
  · exact Nat.le_trans (good_size _) (by omega)
theorem rowF_may5 (M : List Cl) (R : List Vl) (hM : ∀ c ∈ M, 1 ≤ c.k ∧ c.k ≤ 4) : ∀ x ∈ rowF M R, x.may = true := fun x hx => by
  obtain ⟨i, hi, rfl⟩ := List.getElem_of_mem hx
  obtain ⟨hl, hf⟩ := fits_at (rowF_fits M R hM)
  exact (hf i (by omega) hi).1
end Go.Proofs.YtbbdmajlbofcmaaDoor
