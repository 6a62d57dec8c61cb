/-
  The law ValueKeys walked: values' key is the document's, and its values are they.
-/
import Derived.Test.YtlkhijccjjpbbaaDoorVals
import Derived.Test.YtlkhijccjjpbbaaDoorLives
import Derived.Test.YtlkhijccjjpbbaaDoorRkey
import Derived.Test.YtlkhijccjjpbbaaDoorGoods
import Derived.Test.YtlkhijccjjpbbaaDoorSame
import Derived.Test.YtlkhijccjjpbbaaDoorCmp
namespace Go.Proofs.YtlkhijccjjpbbaaDoor.valueKeys
open Go.RowKit Dg
theorem esc_byte : ∀ (l : List Nat), (∀ x ∈ l, x < 256) → ∀ x ∈ esc l, x < 256
  | [], _, x, h => by simp [esc] at h
  | y :: t, hl, x, h => by
    have hy := hl y (by simp)
    have ih := esc_byte t (fun z hz => hl z (by simp [hz]))
    simp only [esc] at h
    split at h
    · rcases List.mem_cons.1 h with rfl | h
      · omega
      · rcases List.mem_cons.1 h with rfl | h
        · omega
        · exact ih x h
    · rcases List.mem_cons.1 h with rfl | h
      · exact hy
      · exact ih x h
theorem hi_byte (n : Int) (size k : Nat) : ∀ x ∈ hi n size k, x < 256 := fun x hx => by
  obtain ⟨i, _, rfl⟩ := List.mem_map.1 hx
  omega
theorem keyV_byte (k n : Int) (s : ByteArray) : ∀ x ∈ keyV k n s, x < 256 := fun x hx => by
  unfold keyV at hx
  repeat' split at hx
  · rcases List.mem_cons.1 hx with rfl | h
    · omega
    · exact hi_byte _ _ _ x h
  · rcases List.mem_cons.1 hx with rfl | h
    · omega
    · exact hi_byte _ _ _ x h
  · rcases List.mem_cons.1 hx with rfl | h
    · omega
    · rcases List.mem_append.1 h with h | h
      · exact esc_byte _ (sb_byte s) x h
      · simp at h; omega
  · simp at hx; omega
theorem keys_byte (L : List Vl) : ∀ x ∈ keys L, x < 256 := fun x hx => by
  obtain ⟨v, _, h⟩ := List.mem_flatMap.1 hx
  exact keyV_byte _ _ _ x h
theorem goods_keys (G : List Vl) (h : ∀ x ∈ G, x.s.size ≤ 40) : (keys G).length ≤ 89 * G.length := by
  induction G with
  | nil => simp [keys]
  | cons v G ih =>
    rw [keys_cons, List.length_append, List.length_cons]
    have h1 := ih (fun x hx => h x (by simp [hx]))
    have h2 := keyV_len v.k v.n v.s
    have h3 := h v (by simp)
    unfold Vl.key
    omega
theorem row_take {w : World} {A : Option Addr} {L : List Vl} (h : VRow w A L) (m : Nat) : VRow w A (L.take m) := fun hne => by
  have hL : L ≠ [] := by rintro rfl; simp at hne
  obtain ⟨b, off, e, hc⟩ := h hL
  refine ⟨b, off, e, fun i hi => ?_⟩
  rw [List.length_take] at hi
  rw [List.getElem_take]
  exact hc i (by omega)
set_option maxHeartbeats 8000000 in
set_option maxRecDepth 100000 in
theorem walk (A : Option Addr) (n c : Nat) (L : List Vl) (w : World) (hn : L.length = n) (hnc : n ≤ c) (hcm : c ≤ maxLen) (hA : VRow w A L) (hf : ∀ x ∈ L, x.fits) (hT : Tabs w) :
    Calls Tryd.prog 4 #[.slice A n c] w fun e w' => e = .returned (.bool true) ∧ Below w.heap.size w w' := by
  have HT := Lib.hid hT
  clear hT
  have hc63 : (c : Int) ≤ 9223372036854775807 := by unfold maxLen at hcm; omega
  by_cases h6 : 6 < n
  · have h6z : (6 : Int) < (n : Int) := by omega
    have h6c : (6 : Int) ≤ (c : Int) := by omega
    have HN : Hid ((L.take 6).length = 6) := by show _ = _; rw [List.length_take]; omega
    have HA := Lib.hid (row_take hA 6)
    have HF : Hid (∀ x ∈ L.take 6, x.fits) := fun x hx => hf x (List.mem_of_mem_take hx)
    have hc6 : 6 ≤ c := by omega
    generalize L.take 6 = M at *
    clear hA hf hn
    go_enter Tryd.func4, Tryd.ntmps4
    go_wp2_with fail
    go_loopw [3, 4] (fun x i wr => ∃ k : Nat, k ≤ 6 ∧ i = .int .i64 k ∧ x = .bool ((M.take k).all Vl.may) ∧ Hid (Below w.heap.size w wr)) (fun _ i _ => 6 - (intOf i).toNat)
    case atStart => exact ⟨0, by omega, rfl, rfl, Below.refl _ _⟩
    case round =>
      obtain ⟨k, hk, rfl, rfl, HB⟩ := hrel
      by_cases hlt : k < 6
      · have hkl : k < M.length := by rw [HN.out]; exact hlt
        obtain ⟨b, off, rfl, hcc⟩ := (HA.out.below HB.out) (by intro e; rw [e] at hkl; simp at hkl)
        obtain ⟨c0, c1, c2⟩ := hcc k hkl
        obtain ⟨⟨f0, f1, f2⟩, _⟩ := HF.out M[k] (List.getElem_mem hkl)
        have HS : Hid ((M.take (k + 1)).all Vl.may = ((M.take k).all Vl.may && mayF M[k].k M[k].n M[k].s)) := by
          show _ = _
          rw [List.take_succ_eq_append_getElem hkl, List.all_append]
          simp [Vl.may]
        clear hcc
        generalize M[k] = x at *
        obtain ⟨xk, xn, xs⟩ := x
        simp only at c0 c1 c2 f0 f1 f2
        go_wp2_with fail
        refine (refMay_any xk xn xs _ f2).mono ?_
        rintro e w2 ⟨rfl, hb2⟩
        have HB2 := Lib.hid (HB.out.trans (hb2.out.mono HB.out.size))
        clear hb2 c0 c1 c2
        generalize mayF xk xn xs = m1 at *
        generalize (M.take k).all Vl.may = m2 at *
        cases m2 <;> cases m1
        all_goals
          go_wp2_with fail
          go_roundw
          case rel => exact ⟨k + 1, by omega, by go_num, by rw [HS.out]; rfl, HB2⟩
          case measure => simp [intOf]; omega
      · have hk6 : k = 6 := by omega
        subst hk6
        have HT6 : Hid (M.take 6 = M) := List.take_of_length_le (by rw [HN.out]; exact Nat.le_refl _)
        rw [HT6.out]
        obtain ⟨e, K, hE, hEK⟩ : ∃ (e : Nat) (K : List Nat), ((∀ x ∈ M, x.may = true) ∧ e = 0 ∧ K = keys M ∨ (∃ x ∈ M, x.may = false) ∧ e = 1 ∧ K = []) ∧ ((M.all Vl.may = true ∧ e = 0) ∨ (M.all Vl.may = false ∧ e = 1 ∧ K = [])) := by
          cases ha : M.all Vl.may
          · refine ⟨1, [], .inr ⟨?_, rfl, rfl⟩, .inr ⟨rfl, rfl, rfl⟩⟩
            obtain ⟨x, h1, h2⟩ := List.all_eq_false.1 ha
            exact ⟨x, h1, by simpa using h2⟩
          · exact ⟨0, keys M, .inl ⟨fun x hx => List.all_eq_true.1 ha x hx, rfl, rfl⟩, .inl ⟨rfl, rfl⟩⟩
        have HK1 := Lib.hid (fun W (hb : Below w.heap.size w W) => key_any A M 6 c W HN.out (by omega) (HA.out.below hb) (fun x hx => (HF.out x hx).1) (HT.out.below hb) e K hE)
        have HG1 := Lib.hid (fun W (hb : Below w.heap.size w W) => goods_any A M 6 c 6 W HN.out (by omega) (by omega) hcm (HA.out.below hb) HF.out)
        have HGF := Lib.hid (goods_fits M 6 HF.out)
        have HGM := Lib.hid (goods_may M 6)
        have HGL : Hid ((goods M 6).length ≤ 6) := by show _ ≤ _; rw [goods_len]; omega
        have HGS : Hid (∀ x ∈ goods M 6, x.s.size ≤ 40) := fun x hx => by
          obtain ⟨y, _, rfl⟩ := List.mem_map.1 hx
          exact good_size y
        clear hE
        unfold goods at *
        generalize (M.take 6).map Vl.good = G at *
        have HGK := Lib.hid (goods_keys G HGS.out)
        have HGY := Lib.hid (keys_byte G)
        obtain ⟨all, hall⟩ : ∃ all, M.all Vl.may = all := ⟨_, rfl⟩
        rw [hall] at hEK
        rw [hall]
        clear hall
        have hEK2 : (all = true ∧ e = 0) ∨ (all = false ∧ e = 1 ∧ bs K = ⟨#[]⟩) := by
          rcases hEK with h | ⟨h1, h2, rfl⟩
          · exact .inl h
          · exact .inr ⟨h1, h2, rfl⟩
        clear hEK
        go_wp2_with fail
        refine (HK1.out _ HB.out).mono ?_
        rintro e1 w2 ⟨rfl, hb2⟩
        have HB2 := Lib.hid (HB.out.trans (hb2.out.mono HB.out.size))
        generalize bs K = SK at *
        clear hb2 HK1 HB
        rcases hEK2 with ⟨rfl, rfl⟩ | ⟨rfl, rfl, rfl⟩
        all_goals
          go_wp2_with fail
          refine (HG1.out _ HB2.out).mono ?_
          rintro e2 w3 ⟨vg, rfl, HOG, hb3⟩
          have HB3 := Lib.hid (HB2.out.trans (hb3.out.mono HB2.out.size))
          clear hb3 HG1 HB2
          obtain ⟨A3, n3, c3, rfl, HN3, hnc3, hcm3, HV3, HZ3⟩ := ownV_open HOG.out
          have hn6 : n3 ≤ 6 := by have h1 := HGL.out; rw [HN3.out] at h1; exact h1
          clear HOG
          go_wp2_with fail
          refine (key_any A3 G n3 c3 w3 HN3.out (by omega) HV3.out (fun x hx => (HGF.out x hx).1) (HT.out.below HB3.out) 0 _ (.inl ⟨HGM.out, rfl, rfl⟩)).mono ?_
          rintro e3 w4 ⟨rfl, hb4⟩
          have HB4 := Lib.hid (HB3.out.trans (hb4.out.mono HB3.out.size))
          have HV4 := Lib.hid (HV3.out.below hb4.out)
          clear hb4 HV3 HB3
          have HSZ : Hid ((bs (keys G)).size ≤ 900) := by
            have h1 := HGK.out
            have h2 := HN3.out
            show _ ≤ _
            rw [bs_size]; omega
          go_wp2_with fail
          refine (values_any (bs (keys G)) w4 HSZ.out (HT.out.below HB4.out)).mono ?_
          rintro e4 w5 ⟨hv, hb5⟩
          have HB5 := Lib.hid (HB4.out.trans (hb5.out.mono HB4.out.size))
          have HV5 := Lib.hid (HV4.out.below hb5.out)
          have hgood : Good1 G := fun x hx => ⟨HGM.out x hx, (HGF.out x hx).1⟩
          have hsb : sb (bs (keys G)) = keys G := sb_bs _ HGY.out
          rcases hv with ⟨L', v', hg', _, _, hk', rfl, ho'⟩ | ⟨hno, _⟩
          · rw [hsb] at hk'
            obtain rfl := keys_inj hg' hgood hk'
            obtain ⟨A6, n6, c6, rfl, HN6, hnc6, hcm6, HV6, HZ6⟩ := ownV_open ho'
            have h36 : n6 = n3 := by have h1 := HN6.out; rw [HN3.out] at h1; exact h1.symm
            subst h36
            clear ho' hb5 hgood hsb hg' hk' HV4 HB4
            have HRK := Lib.hid (refKey_any A3 L' n6 c3 w5 HN3.out (by omega) HV5.out (fun x hx => (HGF.out x hx).1) HGM.out)
            generalize bs (keys L') = SG at *
            go_wp2_with fail
            refine HRK.out.mono ?_
            rintro e5 w6 ⟨rfl, hb6⟩
            have HB6 := Lib.hid (HB5.out.trans (hb6.out.mono HB5.out.size))
            have HV7 := Lib.hid (HV5.out.below hb6.out)
            have HV8 := Lib.hid (HV6.out.below hb6.out)
            clear hb6 HRK HV5 HV6 HB5
            go_wp2_with fail
            refine (same_any A6 n6 c6 A3 c3 L' w6 HN3.out (by omega) HV8.out HV7.out).mono ?_
            rintro e6 w7 ⟨rfl, hb7⟩
            have HB7 := Lib.hid (HB6.out.trans (hb7.out.mono HB6.out.size))
            clear hb7 HV7 HV8 HB6
            go_wp2_with fail
            refine (lives_any _ (HT.out.below HB7.out)).mono ?_
            rintro e7 w8 ⟨rfl, hb8⟩
            have HB8 := Lib.hid (HB7.out.trans (hb8.mono HB7.out.size))
            clear hb8
            go_wp2_with fail
            go_ret
            exact ⟨rfl, HB8.out⟩
          · exact absurd hsb.symm (hno G hgood)

  · have h6z : (n : Int) ≤ 6 := by omega
    have HN := Lib.hid hn
    have HA := Lib.hid hA
    have HF := Lib.hid hf
    obtain ⟨M, hM⟩ : ∃ M, M = L := ⟨_, rfl⟩
    rw [← hM] at HN HA HF
    clear hA hf hn hM
    go_enter Tryd.func4, Tryd.ntmps4
    go_wp2_with fail
    go_loopw [3, 4] (fun x i wr => ∃ k : Nat, k ≤ n ∧ i = .int .i64 k ∧ x = .bool ((M.take k).all Vl.may) ∧ Hid (Below w.heap.size w wr)) (fun _ i _ => n - (intOf i).toNat)
    case atStart => exact ⟨0, by omega, rfl, rfl, Below.refl _ _⟩
    case round =>
      obtain ⟨k, hk, rfl, rfl, HB⟩ := hrel
      by_cases hlt : k < n
      · have hkl : k < M.length := by rw [HN.out]; exact hlt
        obtain ⟨b, off, rfl, hcc⟩ := (HA.out.below HB.out) (by intro e; rw [e] at hkl; simp at hkl)
        obtain ⟨c0, c1, c2⟩ := hcc k hkl
        obtain ⟨⟨f0, f1, f2⟩, _⟩ := HF.out M[k] (List.getElem_mem hkl)
        have HS : Hid ((M.take (k + 1)).all Vl.may = ((M.take k).all Vl.may && mayF M[k].k M[k].n M[k].s)) := by
          show _ = _
          rw [List.take_succ_eq_append_getElem hkl, List.all_append]
          simp [Vl.may]
        clear hcc
        generalize M[k] = x at *
        obtain ⟨xk, xn, xs⟩ := x
        simp only at c0 c1 c2 f0 f1 f2
        go_wp2_with fail
        refine (refMay_any xk xn xs _ f2).mono ?_
        rintro e w2 ⟨rfl, hb2⟩
        have HB2 := Lib.hid (HB.out.trans (hb2.out.mono HB.out.size))
        clear hb2 c0 c1 c2
        generalize mayF xk xn xs = m1 at *
        generalize (M.take k).all Vl.may = m2 at *
        cases m2 <;> cases m1
        all_goals
          go_wp2_with fail
          go_roundw
          case rel => exact ⟨k + 1, by omega, by go_num, by rw [HS.out]; rfl, HB2⟩
          case measure => simp [intOf]; omega
      · obtain rfl : k = n := by omega
        have HT6 : Hid (M.take k = M) := List.take_of_length_le (by rw [HN.out]; exact Nat.le_refl _)
        rw [HT6.out]
        obtain ⟨e, K, hE, hEK⟩ : ∃ (e : Nat) (K : List Nat), ((∀ x ∈ M, x.may = true) ∧ e = 0 ∧ K = keys M ∨ (∃ x ∈ M, x.may = false) ∧ e = 1 ∧ K = []) ∧ ((M.all Vl.may = true ∧ e = 0) ∨ (M.all Vl.may = false ∧ e = 1 ∧ K = [])) := by
          cases ha : M.all Vl.may
          · refine ⟨1, [], .inr ⟨?_, rfl, rfl⟩, .inr ⟨rfl, rfl, rfl⟩⟩
            obtain ⟨x, h1, h2⟩ := List.all_eq_false.1 ha
            exact ⟨x, h1, by simpa using h2⟩
          · exact ⟨0, keys M, .inl ⟨fun x hx => List.all_eq_true.1 ha x hx, rfl, rfl⟩, .inl ⟨rfl, rfl⟩⟩
        have HK1 := Lib.hid (fun W (hb : Below w.heap.size w W) => key_any A M k c W HN.out (by omega) (HA.out.below hb) (fun x hx => (HF.out x hx).1) (HT.out.below hb) e K hE)
        have HG1 := Lib.hid (fun W (hb : Below w.heap.size w W) => goods_any A M k c 6 W HN.out (by omega) (by omega) hcm (HA.out.below hb) HF.out)
        have HGF := Lib.hid (goods_fits M 6 HF.out)
        have HGM := Lib.hid (goods_may M 6)
        have HGL : Hid ((goods M 6).length ≤ 6) := by show _ ≤ _; rw [goods_len]; omega
        have HGS : Hid (∀ x ∈ goods M 6, x.s.size ≤ 40) := fun x hx => by
          obtain ⟨y, _, rfl⟩ := List.mem_map.1 hx
          exact good_size y
        clear hE
        unfold goods at *
        generalize (M.take 6).map Vl.good = G at *
        have HGK := Lib.hid (goods_keys G HGS.out)
        have HGY := Lib.hid (keys_byte G)
        obtain ⟨all, hall⟩ : ∃ all, M.all Vl.may = all := ⟨_, rfl⟩
        rw [hall] at hEK
        rw [hall]
        clear hall
        have hEK2 : (all = true ∧ e = 0) ∨ (all = false ∧ e = 1 ∧ bs K = ⟨#[]⟩) := by
          rcases hEK with h | ⟨h1, h2, rfl⟩
          · exact .inl h
          · exact .inr ⟨h1, h2, rfl⟩
        clear hEK
        go_wp2_with fail
        refine (HK1.out _ HB.out).mono ?_
        rintro e1 w2 ⟨rfl, hb2⟩
        have HB2 := Lib.hid (HB.out.trans (hb2.out.mono HB.out.size))
        generalize bs K = SK at *
        clear hb2 HK1 HB
        rcases hEK2 with ⟨rfl, rfl⟩ | ⟨rfl, rfl, rfl⟩
        all_goals
          go_wp2_with fail
          refine (HG1.out _ HB2.out).mono ?_
          rintro e2 w3 ⟨vg, rfl, HOG, hb3⟩
          have HB3 := Lib.hid (HB2.out.trans (hb3.out.mono HB2.out.size))
          clear hb3 HG1 HB2
          obtain ⟨A3, n3, c3, rfl, HN3, hnc3, hcm3, HV3, HZ3⟩ := ownV_open HOG.out
          have hn6 : n3 ≤ 6 := by have h1 := HGL.out; rw [HN3.out] at h1; exact h1
          clear HOG
          go_wp2_with fail
          refine (key_any A3 G n3 c3 w3 HN3.out (by omega) HV3.out (fun x hx => (HGF.out x hx).1) (HT.out.below HB3.out) 0 _ (.inl ⟨HGM.out, rfl, rfl⟩)).mono ?_
          rintro e3 w4 ⟨rfl, hb4⟩
          have HB4 := Lib.hid (HB3.out.trans (hb4.out.mono HB3.out.size))
          have HV4 := Lib.hid (HV3.out.below hb4.out)
          clear hb4 HV3 HB3
          have HSZ : Hid ((bs (keys G)).size ≤ 900) := by
            have h1 := HGK.out
            have h2 := HN3.out
            show _ ≤ _
            rw [bs_size]; omega
          go_wp2_with fail
          refine (values_any (bs (keys G)) w4 HSZ.out (HT.out.below HB4.out)).mono ?_
          rintro e4 w5 ⟨hv, hb5⟩
          have HB5 := Lib.hid (HB4.out.trans (hb5.out.mono HB4.out.size))
          have HV5 := Lib.hid (HV4.out.below hb5.out)
          have hgood : Good1 G := fun x hx => ⟨HGM.out x hx, (HGF.out x hx).1⟩
          have hsb : sb (bs (keys G)) = keys G := sb_bs _ HGY.out
          rcases hv with ⟨L', v', hg', _, _, hk', rfl, ho'⟩ | ⟨hno, _⟩
          · rw [hsb] at hk'
            obtain rfl := keys_inj hg' hgood hk'
            obtain ⟨A6, n6, c6, rfl, HN6, hnc6, hcm6, HV6, HZ6⟩ := ownV_open ho'
            have h36 : n6 = n3 := by have h1 := HN6.out; rw [HN3.out] at h1; exact h1.symm
            subst h36
            clear ho' hb5 hgood hsb hg' hk' HV4 HB4
            have HRK := Lib.hid (refKey_any A3 L' n6 c3 w5 HN3.out (by omega) HV5.out (fun x hx => (HGF.out x hx).1) HGM.out)
            generalize bs (keys L') = SG at *
            go_wp2_with fail
            refine HRK.out.mono ?_
            rintro e5 w6 ⟨rfl, hb6⟩
            have HB6 := Lib.hid (HB5.out.trans (hb6.out.mono HB5.out.size))
            have HV7 := Lib.hid (HV5.out.below hb6.out)
            have HV8 := Lib.hid (HV6.out.below hb6.out)
            clear hb6 HRK HV5 HV6 HB5
            go_wp2_with fail
            refine (same_any A6 n6 c6 A3 c3 L' w6 HN3.out (by omega) HV8.out HV7.out).mono ?_
            rintro e6 w7 ⟨rfl, hb7⟩
            have HB7 := Lib.hid (HB6.out.trans (hb7.out.mono HB6.out.size))
            clear hb7 HV7 HV8 HB6
            go_wp2_with fail
            refine (lives_any _ (HT.out.below HB7.out)).mono ?_
            rintro e7 w8 ⟨rfl, hb8⟩
            have HB8 := Lib.hid (HB7.out.trans (hb8.mono HB7.out.size))
            clear hb8
            go_wp2_with fail
            go_ret
            exact ⟨rfl, HB8.out⟩
          · exact absurd hsb.symm (hno G hgood)

end Go.Proofs.YtlkhijccjjpbbaaDoor.valueKeys
