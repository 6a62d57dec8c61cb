/-
  The law ValueParts walked: the key of two lists, one behind the other.
-/
import Derived.Test.YtlkhijccjjpbbaaDoorGoods
import Derived.Test.YtlkhijccjjpbbaaDoorLives
namespace Go.Proofs.YtlkhijccjjpbbaaDoor.valueParts
open Go.RowKit Dg
theorem keys_append (L M : List Vl) : keys (L ++ M) = keys L ++ keys M := by unfold keys; rw [List.flatMap_append]
theorem keys_all (L : List Vl) (h : ∀ x ∈ L, x.may = true) : (keys L).length ≤ 8201 * L.length := by
  have := keys_le L L.length (Nat.le_refl _) (by rw [List.take_length]; exact h)
  rwa [List.take_length] at this
set_option maxHeartbeats 4000000 in
set_option maxRecDepth 100000 in
theorem walk (A : Option Addr) (n c : Nat) (L : List Vl) (A' : Option Addr) (n' c' : Nat) (L' : List Vl) (w : World) (hn : L.length = n) (hnc : n ≤ c) (hcm : c ≤ maxLen) (hA : VRow w A L) (hf : ∀ x ∈ L, x.fits) (hn' : L'.length = n') (hnc' : n' ≤ c') (hcm' : c' ≤ maxLen) (hA' : VRow w A' L') (hf' : ∀ x ∈ L', x.fits) (hT : Tabs w) :
    Calls Tryd.prog 9 #[.slice A n c, .slice A' n' c'] w fun e w' => e = .returned (.bool true) ∧ Below w.heap.size w w' := by
  have HT := Lib.hid hT
  have C1 := Lib.hid (goods_any A L n c 4 w hn (by omega) hnc hcm hA hf)
  have C2 := Lib.hid (fun W (hb : Below w.heap.size w W) => goods_any A' L' n' c' 4 W hn' (by omega) hnc' hcm' (hA'.below hb) hf')
  have HG := Lib.hid (goods_fits L 4 hf)
  have HG' := Lib.hid (goods_fits L' 4 hf')
  have HM := Lib.hid (goods_may L 4)
  have HM' := Lib.hid (goods_may L' 4)
  have HL : Hid ((goods L 4).length ≤ 4) := by show _ ≤ _; rw [goods_len]; omega
  have HL' : Hid ((goods L' 4).length ≤ 4) := by show _ ≤ _; rw [goods_len]; omega
  clear hn hnc hcm hA hf hn' hnc' hcm' hA' hf' hT
  unfold goods at *
  generalize (L.take 4).map Vl.good = G at *
  generalize (L'.take 4).map Vl.good = G' at *
  go_enter Tryd.func9, Tryd.ntmps9
  go_wp2_with fail
  refine C1.out.mono ?_
  rintro e w1 ⟨v1, rfl, HO1, HB1⟩
  go_wp2_with fail
  refine (C2.out _ HB1.out).mono ?_
  rintro e w2 ⟨v2, rfl, HO2, HB2'⟩
  have HB2 := Lib.hid (HB1.out.trans (HB2'.out.mono HB1.out.size))
  obtain ⟨A1, n1, c1, rfl, HN1, hnc1, hcm1, HV1, HZ1⟩ := ownV_open (HO1.out.below HB2'.out)
  obtain ⟨A2, n2, c2, rfl, HN2, hnc2, hcm2, HV2, HZ2⟩ := ownV_open HO2.out
  have hl1 : n1 ≤ 4 := by have h1 := HL.out; rw [HN1.out] at h1; exact h1
  have hl2 : n2 ≤ 4 := by have h1 := HL'.out; rw [HN2.out] at h1; exact h1
  clear HO1 HO2 HB2' HB1 C1 C2
  have HA1 := Lib.hid (appVs w2 w2.heap.size (.slice none 0 0) [] (ownV_nil _ _) (Nat.le_refl _) A1 G n1 c1 HN1.out HV1.out HZ1.out (by simp; omega))
  go_wp2_with (first
    | (at_builtin; refine wpList_app rfl _ _ 28 28 rfl (.slice none 0 0) (.slice A1 n1 c1) rfl rfl ?_; obtain ⟨R, W', hrun, hmade⟩ := HA1.out; refine ⟨R, W', hrun, ?_⟩; have HM1 := Lib.hid hmade; clear hrun hmade HA1)
    | (at_builtin; refine wpList_app rfl _ _ 28 28 rfl R (.slice A2 n2 c2) rfl rfl ?_; obtain ⟨R2, W2, hrun, hmade⟩ := appVs W' w2.heap.size R _ HM1.out.1 HM1.out.2.size A2 G' n2 c2 HN2.out (HV2.out.below HM1.out.2) HZ2.out (by rw [List.nil_append, HN1.out]; omega); refine ⟨R2, W2, hrun, ?_⟩; have HM2 := Lib.hid hmade; clear hrun hmade)
    | (go_at_call 15; fail))
  have HB3 := Lib.hid (HM1.out.2.trans HM2.out.2)
  have HB4 := Lib.hid (HB2.out.trans (HB3.out.mono HB2.out.size))
  obtain ⟨A3, n3, c3, rfl, HN3, hnc3, hcm3, HV3, HZ3⟩ := ownV_open HM2.out.1
  have hl3 : n3 ≤ 8 := by have h1 := HN3.out; rw [List.nil_append, List.length_append, HN1.out, HN2.out] at h1; omega
  have HG3 : Hid (∀ x ∈ ([] ++ G ++ G'), x.fit) := fun x hx => by
    rw [List.nil_append] at hx
    rcases List.mem_append.1 hx with h | h
    · exact (HG.out x h).1
    · exact (HG'.out x h).1
  have HM3 : Hid (∀ x ∈ ([] ++ G ++ G'), x.may = true) := fun x hx => by
    rw [List.nil_append] at hx
    rcases List.mem_append.1 hx with h | h
    · exact HM.out x h
    · exact HM'.out x h
  have HKK : Hid (bs (keys ([] ++ G ++ G')) = bs (keys G) ++ bs (keys G')) := by
    show _ = _
    rw [List.nil_append, keys_append, bs_append]
  have K1 := Lib.hid (key_any A1 G n1 c1 W2 HN1.out (by omega) (HV1.out.below HB3.out) (fun x hx => (HG.out x hx).1) (HT.out.below HB4.out) 0 _ (.inl ⟨HM.out, rfl, rfl⟩))
  have K2 := Lib.hid (fun W (hb : Below W2.heap.size W2 W) => key_any A2 G' n2 c2 W HN2.out (by omega) ((HV2.out.below HB3.out).below hb) (fun x hx => (HG'.out x hx).1) ((HT.out.below HB4.out).below hb) 0 _ (.inl ⟨HM'.out, rfl, rfl⟩))
  have K3 := Lib.hid (fun W (hb : Below W2.heap.size W2 W) => key_any A3 _ n3 c3 W HN3.out (by omega) (HV3.out.below hb) HG3.out ((HT.out.below HB4.out).below hb) 0 _ (.inl ⟨HM3.out, rfl, rfl⟩))
  rw [HKK.out] at K3
  have hS1 : (bs (keys G)).size ≤ 40000 := by have := keys_all G HM.out; have h := HL.out; rw [bs_size]; omega
  have hS2 : (bs (keys G')).size ≤ 40000 := by have := keys_all G' HM'.out; have h := HL'.out; rw [bs_size]; omega
  generalize bs (keys G) = S1 at *
  generalize bs (keys G') = S2 at *
  clear HM1 HM2 HV1 HV2 HV3 HG HG' HM HM' HG3 HM3 HKK HN1 HN2 HN3 HL HL' HZ1 HZ2 HZ3
  refine K1.out.mono ?_
  rintro e w3 ⟨rfl, hb3⟩
  go_wp2_with fail
  refine (K2.out _ hb3.out).mono ?_
  rintro e w4 ⟨rfl, hb4⟩
  have HB5 := Lib.hid (hb3.out.trans (hb4.out.mono hb3.out.size))
  go_wp2_with fail
  refine (K3.out _ HB5.out).mono ?_
  rintro e w5 ⟨rfl, hb5⟩
  have HB6 := Lib.hid (HB5.out.trans (hb5.out.mono HB5.out.size))
  have HB7 := Lib.hid (HB4.out.trans (HB6.out.mono HB4.out.size))
  clear hb3 hb4 hb5 HB5 K1 K2 K3
  go_wp2_with fail
  refine (lives_any _ (HT.out.below HB7.out)).mono ?_
  rintro e w6 ⟨rfl, hb8⟩
  have HB9 := Lib.hid (HB7.out.trans (hb8.mono HB7.out.size))
  clear hb8
  go_wp2_with fail
  go_ret
  exact ⟨rfl, HB9.out⟩
end Go.Proofs.YtlkhijccjjpbbaaDoor.valueParts
