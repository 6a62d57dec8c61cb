/-
  A key's values: the program's Part.
-/
import Derived.Test.YticfhjimbochlaaDoorVals
import Derived.Test.YticfhjimbochlaaDoorSkey
namespace Go.Proofs.YticfhjimbochlaaDoor
open Go.RowKit Dg
/-- What Part comes to. -/
def PartR (M : List Cl) (k : Nat) (s : ByteArray) (w : World) (e : Ending) (w' : World) : Prop :=
  (∃ L v, Good1 L ∧ (∀ x ∈ L, x.fits) ∧ L.length = k ∧ keys L = sb s ∧ beginsF M L k = true ∧ e = .returned (.tuple #[v, .int .i64 0]) ∧ OwnV w.heap.size w' v L) ∨
  ((∀ L, Good1 L → L.length = k → keys L = sb s → beginsF M L k = false) ∧ e = .returned (.tuple #[.slice none 0 0, .int .i64 2]))
set_option maxHeartbeats 4000000 in
set_option maxRecDepth 100000 in
theorem part_any (A : Option Addr) (M : List Cl) (n c : Nat) (kk : Nat) (s : ByteArray) (w : World) (hn : M.length = n) (hkn : kk ≤ n) (hk9 : kk ≤ 900) (hnc : n ≤ c) (hA : CRow w A M) (hs : s.size ≤ 900) (hT : Tabs w) :
    Calls Tryd.prog 15 #[.agg #[.slice A n c, .int .i64 kk], .string s] w fun e w' => PartR M kk s w e w' ∧ Hid (Below w.heap.size w w') := by
  have HB0 := Lib.hid ((Below.refl w.heap.size w).alloc (Nat.le_refl _) (.cells #[.slice A n c, .int .i64 kk] 24))
  have HS0 := Lib.hid (Has.new w 24 #[.slice A n c, .int .i64 kk])
  have HN := Lib.hid hn
  have HA := Lib.hid hA
  have HV := Lib.hid (values_any s _ hs (hT.below HB0.out))
  clear hn hA hT
  go_enter Tryd.func15, Tryd.ntmps15
  go_wp2_with fail
  refine HV.out.mono ?_
  rintro e w1 ⟨hv, hb⟩
  have HB1 := Lib.hid (HB0.out.trans (hb.out.mono HB0.out.size))
  have HS1 := Lib.hid (HS0.out.below hb.out HS0.out.lt)
  clear hb HV HS0
  rcases hv with ⟨L, v, h1, h2, _, h4, rfl, ho⟩ | ⟨hno, rfl⟩
  · obtain ⟨A5, n5, c5, rfl, HN5, hnc5, hcm5, HV5, _⟩ := ownV_open ho
    have HG := Lib.hid h1
    have HF := Lib.hid h2
    have HK := Lib.hid h4
    have HO := Lib.hid (ownV_dn ho HB0.out.size)
    have s0 : w1.cell? ⟨w.heap.size, 0, none⟩ = some (.slice A n c) := HS1.out.cell 0
    have s1 : w1.cell? ⟨w.heap.size, 1, none⟩ = some (.int .i64 kk) := HS1.out.cell 1
    have HU : Hid (∀ L', Good1 L' → keys L' = sb s → L' = L) := fun L' g k => keys_inj g HG.out (k.trans HK.out.symm)
    clear h1 h2 h4 ho
    by_cases hq : n5 = kk
    · subst hq
      have HC := Lib.hid (begins_any A M n c n5 A5 L n5 c5 w1 HN.out hkn hk9 hnc (HA.out.below HB1.out) HN5.out HV5.out)
      go_wp2_with fail
      refine HC.out.mono ?_
      rintro e w2 ⟨rfl, hb⟩
      have HB2 := Lib.hid (HB1.out.trans (hb.out.mono HB1.out.size))
      have HO2 := Lib.hid (HO.out.below hb.out)
      clear hb HC s0 s1
      obtain ⟨q, hq2⟩ : ∃ q, beginsF M L n5 = q := ⟨_, rfl⟩
      rw [hq2]
      have HQ := Lib.hid hq2
      clear hq2
      cases q
      · go_wp2_with fail
        go_ret2
        exact ⟨.inr ⟨fun L' g _ k => by rw [HU.out L' g k]; exact HQ.out, rfl⟩, HB2⟩
      · go_wp2_with fail
        go_ret2
        exact ⟨.inl ⟨L, _, HG.out, HF.out, HN5.out, HK.out, HQ.out, rfl, HO2.out⟩, HB2⟩
    · have hq2 : ((n5 : Int) != (kk : Int)) = true := by simp; omega
      go_wp2_with fail
      go_ret2
      exact ⟨.inr ⟨fun L' g l k => by have := HU.out L' g k; subst this; exact absurd (HN5.out.symm.trans l) hq, rfl⟩, HB1⟩
  · have HNO := Lib.hid hno
    clear hno
    go_wp2_with fail
    go_ret2
    exact ⟨.inr ⟨fun L' g _ k => absurd k (HNO.out L' g), rfl⟩, HB1⟩
/-! ### the program's Key and the document's are one -/
theorem fits_kinds {M : List Cl} {R : List Vl} : ∀ k, k ≤ M.length → k ≤ R.length → (∀ i (h : i < M.length), i < k → M[i].no = false) → fitsTo M R k = (kindsTo M R k && (R.take k).all Vl.may)
  | 0, _, _, _ => rfl
  | k + 1, hM, hR, hn => by
    rw [fitsTo_succ M R k (by omega) (by omega), kindsTo_succ M R k (by omega) (by omega), fits_kinds k (by omega) (by omega) (fun i h hi => hn i h (by omega)), List.take_succ_eq_append_getElem (by omega), List.all_append]
    have h := hn k (by omega) (by omega)
    simp only [standsF, h, List.all_cons, List.all_nil, Bool.and_false, Bool.or_false, Bool.and_true]
    cases kindsTo M R k <;> cases (R.take k).all Vl.may <;> cases (R[k].k == M[k].k) <;> cases R[k].may <;> rfl
theorem key_one {M : List Cl} {k : Nat} (hg : GoodS M k) (R : List Vl) : (beginsF M R k && (R.take k).all Vl.may) = keyOk M R k := by
  unfold beginsF keyOk
  by_cases h : k ≤ R.length
  · rw [fits_kinds k hg.keys.2.1 h hg.none]; simp [h]
  · simp [h]
theorem skT_keyT {M : List Cl} {k : Nat} (hg : GoodS M k) (R : List Vl) : skT M R k = keyT M R k := by
  unfold skT keyT; rw [key_one hg]
end Go.Proofs.YticfhjimbochlaaDoor
