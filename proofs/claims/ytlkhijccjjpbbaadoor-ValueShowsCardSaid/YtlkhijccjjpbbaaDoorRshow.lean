/-
  A value as a text: the document's.
-/
import Derived.Test.YtlkhijccjjpbbaaDoorTens
namespace Go.Proofs.YtlkhijccjjpbbaaDoor
open Go.RowKit Dg
def showL (k n : Int) (s : ByteArray) : List Nat :=
  if k = 0 then [110, 117, 108, 108] else if k = 1 then (if n = 1 then [116, 114, 117, 101] else [102, 97, 108, 115, 101]) else if k = 2 then itoaN n else 39 :: (quo (sb s) ++ [39])
set_option maxHeartbeats 8000000 in
set_option maxRecDepth 100000 in
theorem refShow_any (k n : Int) (s : ByteArray) (w : World) (hk : k = 0 ∨ k = 1 ∨ k = 2 ∨ k = 3 ∨ k = 4) (hl : s.size ≤ 200) (h0 : -9223372036854775808 ≤ n) (h1 : n ≤ 9223372036854775807) :
    Calls Tryd.prog 27 #[.agg #[.int .i64 k, .int .i64 n, .string s]] w fun e w' => e = .returned (.string (bs (showL k n s))) ∧ Hid (Below w.heap.size w w') := by
  have HW : Hid (Below w.heap.size w (w.alloc (.cells #[.int .i64 k, .int .i64 n, .string s] 23))) := (Below.refl w.heap.size w).alloc (Nat.le_refl _) _
  have HH : Hid (Has (w.alloc (.cells #[.int .i64 k, .int .i64 n, .string s] 23)) w.heap.size 23 #[.int .i64 k, .int .i64 n, .string s]) := Has.new _ _ _
  rcases hk with rfl | rfl | rfl | hk
  · go_enter Tryd.func27, Tryd.ntmps27
    go_wp2_with fail
    go_ret
    exact ⟨rfl, HW⟩
  · by_cases hn : n = 1
    · subst hn
      go_enter Tryd.func27, Tryd.ntmps27
      go_wp2_with fail
      go_ret
      exact ⟨rfl, HW⟩
    · have hn2 : (n == 1) = false := by simp [hn]
      have HE : Hid (bs (showL 1 n s) = ⟨#[102, 97, 108, 115, 101]⟩) := by show _ = _; simp [showL, hn]; rfl
      go_enter Tryd.func27, Tryd.ntmps27
      go_wp2_with fail
      go_ret
      exact ⟨by rw [HE.out]; rfl, HW⟩
  · have HD := Lib.hid (fun W => decimal_any n W h0 h1)
    have HE : Hid (bs (showL 2 n s) = bs (itoaN n)) := rfl
    go_enter Tryd.func27, Tryd.ntmps27
    go_wp2_with fail
    refine (HD.out _).mono ?_
    rintro e w1 ⟨rfl, hb⟩
    have HB1 := Lib.hid (HW.out.trans (hb.out.mono HW.out.size))
    clear hb
    go_wp2_with fail
    go_ret
    exact ⟨by rw [HE.out]; rfl, HB1⟩
  · have HE : Hid (bs (showL k n s) = bs (39 :: (quo (sb s) ++ [39]))) := by
      show _ = _
      rcases hk with rfl | rfl <;> rfl
    have k0 : (k == 0) = false := by simp; omega
    have k1 : (k == 1) = false := by simp; omega
    have k2 : (k == 2) = false := by simp; omega
    have HO0 := Lib.hid (own_mark w.heap.size (w.alloc (.cells #[.int .i64 k, .int .i64 n, .string s] 23)) HW.out.size)
    have HB0 : Hid (Below w.heap.size w ((w.alloc (.cells #[.int .i64 k, .int .i64 n, .string s] 23)).alloc (.cells #[.int .u8 39] 5))) := HW.out.alloc HW.out.size _
    have HH0 : Hid (Has ((w.alloc (.cells #[.int .i64 k, .int .i64 n, .string s] 23)).alloc (.cells #[.int .u8 39] 5)) w.heap.size 23 #[.int .i64 k, .int .i64 n, .string s]) := HH.out.alloc _
    have hZ : (w.alloc (.cells #[.int .i64 k, .int .i64 n, .string s] 23)).heap.size = w.heap.size + 1 := by simp
    rw [hZ] at HO0
    clear hk hZ
    go_enter Tryd.func27, Tryd.ntmps27
    go_wp2_with fail
    clear k0 k1 k2
    go_loopw [4, 5] (fun x i wr => ∃ (j : Nat) (u : Value), j ≤ s.size ∧ i = .int .i64 j ∧ u = x ∧ Hid (Own w.heap.size wr u ([39] ++ quo ((sb s).take j))) ∧ Hid (Below w.heap.size w wr) ∧ Hid (Has wr w.heap.size 23 #[.int .i64 k, .int .i64 n, .string s])) (fun _ i _ => s.size - (intOf i).toNat)
    case atStart => exact ⟨0, _, by omega, rfl, rfl, by simpa [quo] using HO0, HB0, HH0⟩
    case round =>
      obtain ⟨j, u, hj, rfl, rfl, HO, HB, HH2⟩ := hrel
      have d2 := HH2.out.cell 2
      simp at d2
      have hel : (quo ((sb s).take j)).length ≤ 3 * j := by
        have := quo_len ((sb s).take j)
        rw [List.length_take] at this
        omega
      by_cases hlt : j < s.size
      · have HS := Lib.hid (quo_take_succ s j hlt)
        have hc : s[j].toNat < 256 := s[j].toNat_lt
        obtain ⟨c, hcc⟩ : ∃ c, s[j].toNat = c := ⟨_, rfl⟩
        rw [hcc] at HS hc
        have h5 : c < 32 ∨ (32 ≤ c ∧ 126 < c) ∨ (32 ≤ c ∧ c ≤ 126 ∧ c = 92) ∨ (32 ≤ c ∧ c ≤ 126 ∧ c ≠ 92 ∧ c = 39) ∨ (32 ≤ c ∧ c ≤ 126 ∧ c ≠ 92 ∧ c ≠ 39) := by omega
        have hq0 : (0 : Int) ≤ (c : Int) / 16 := by omega
        have hq2 : (c : Int) / 16 < 16 := by omega
        have hr0 : (0 : Int) ≤ (c : Int) % 16 := by omega
        have hr2 : (c : Int) % 16 < 16 := by omega
        have hz : hexs.size = 16 := rfl
        have ht : (c : Int).tmod 16 = ((c % 16 : Nat) : Int) := rfl
        have ht0 : (0 : Int) ≤ (c : Int).tmod 16 := by rw [ht]; omega
        have ht1 : (c : Int).tmod 16 < 16 := by rw [ht]; omega
        clear ht
        have wq : IntKind.u8.wrap ((c : Int) / 16) = (c : Int) / 16 := by rw [IntKind.wrap_u8]; omega
        have wm : IntKind.u8.wrap ((c : Int) % 16) = (c : Int) % 16 := by rw [IntKind.wrap_u8]; omega
        rcases h5 with h | ⟨g1, h⟩ | ⟨g1, g2, h⟩ | ⟨g1, g2, g3, h⟩ | ⟨g1, g2, g3, g4⟩
        · have HE2 : Hid (quo1 c = [92, hexd (c / 16), hexd (c % 16)]) := by
            show _ = _
            unfold quo1 odd
            simp; omega
          have e1 : (c : Int) < 32 := by omega
          go_wp2_with fail
          have HA := Lib.hid (app_at wr.drew wr.drew.heap.size rfl w.heap.size u ([39] ++ quo ((sb s).take j)) [92, hexd (c / 16), hexd (c % 16)] #[.int .u8 92, .int .u8 (hexs[c / 16]'(by omega)).toNat, .int .u8 (hexs[c % 16]'(by omega)).toNat] (by simp [bv, hexs_get (c / 16) (by omega), hexs_get (c % 16) (by omega)]) 3 rfl HO.out.drew HB.out.drew.size (by rw [List.length_append]; simp; omega))
          go_region_held3 (fun _ => True) (trivial) (first
            | (refine step_app (by rfl) _ _ _ _ (by rfl) u (.slice (some ⟨wr.heap.size, 0, none⟩) 3 3) (by rfl) (by rfl) ?_; obtain ⟨R, W', hrun, hmade⟩ := HA.out; refine ⟨R, W', hrun, ?_⟩; have HM := Lib.hid hmade; clear hrun hmade HA))
          go_wp2_with fail
          all_goals exact ⟨⟨j + 1, R, by omega, by go_num, rfl, by show Own _ _ _ _; rw [HS.out, HE2.out, ← List.append_assoc]; exact HM.out.1, HB.out.drew.trans HM.out.2.1, HM.out.2.2 _ _ _ (by decide) HH2.out⟩, by simp [intOf]; omega⟩
        · have HE2 : Hid (quo1 c = [92, hexd (c / 16), hexd (c % 16)]) := by
            show _ = _
            unfold quo1 odd
            simp; omega
          have e1 : (32 : Int) ≤ c := by omega
          have e2 : (126 : Int) < c := by omega
          go_wp2_with fail
          have HA := Lib.hid (app_at wr.drew wr.drew.heap.size rfl w.heap.size u ([39] ++ quo ((sb s).take j)) [92, hexd (c / 16), hexd (c % 16)] #[.int .u8 92, .int .u8 (hexs[c / 16]'(by omega)).toNat, .int .u8 (hexs[c % 16]'(by omega)).toNat] (by simp [bv, hexs_get (c / 16) (by omega), hexs_get (c % 16) (by omega)]) 3 rfl HO.out.drew HB.out.drew.size (by rw [List.length_append]; simp; omega))
          go_region_held3 (fun _ => True) (trivial) (first
            | (refine step_app (by rfl) _ _ _ _ (by rfl) u (.slice (some ⟨wr.heap.size, 0, none⟩) 3 3) (by rfl) (by rfl) ?_; obtain ⟨R, W', hrun, hmade⟩ := HA.out; refine ⟨R, W', hrun, ?_⟩; have HM := Lib.hid hmade; clear hrun hmade HA))
          go_wp2_with fail
          all_goals exact ⟨⟨j + 1, R, by omega, by go_num, rfl, by show Own _ _ _ _; rw [HS.out, HE2.out, ← List.append_assoc]; exact HM.out.1, HB.out.drew.trans HM.out.2.1, HM.out.2.2 _ _ _ (by decide) HH2.out⟩, by simp [intOf]; omega⟩
        · have HE2 : Hid (quo1 c = [92, hexd (c / 16), hexd (c % 16)]) := by
            show _ = _
            unfold quo1 odd
            simp; omega
          subst h
          have w2 : IntKind.u8.wrap 2 = 2 := rfl
          have w5 : IntKind.u8.wrap 5 = 5 := rfl
          clear wq wm hq0 hq2 hr0 hr2 ht0 ht1 hc g1 g2
          go_wp2_with fail
          have HA := Lib.hid (app_at wr.drew wr.drew.heap.size rfl w.heap.size u ([39] ++ quo ((sb s).take j)) [92, hexd (92 / 16), hexd (92 % 16)] #[.int .u8 92, .int .u8 (hexs[92 / 16]'(by omega)).toNat, .int .u8 (hexs[92 % 16]'(by omega)).toNat] (by simp [bv, hexs_get (92 / 16) (by omega), hexs_get (92 % 16) (by omega)]) 3 rfl HO.out.drew HB.out.drew.size (by rw [List.length_append]; simp; omega))
          go_region_held3 (fun _ => True) (trivial) (first
            | (refine step_app (by rfl) _ _ _ _ (by rfl) u (.slice (some ⟨wr.heap.size, 0, none⟩) 3 3) (by rfl) (by rfl) ?_; obtain ⟨R, W', hrun, hmade⟩ := HA.out; refine ⟨R, W', hrun, ?_⟩; have HM := Lib.hid hmade; clear hrun hmade HA))
          go_wp2_with fail
          all_goals exact ⟨⟨j + 1, R, by omega, by go_num, rfl, by show Own _ _ _ _; rw [HS.out, HE2.out, ← List.append_assoc]; exact HM.out.1, HB.out.drew.trans HM.out.2.1, HM.out.2.2 _ _ _ (by decide) HH2.out⟩, by simp [intOf]; omega⟩
        · have HE2 : Hid (quo1 c = [92, hexd (c / 16), hexd (c % 16)]) := by
            show _ = _
            unfold quo1 odd
            simp; omega
          subst h
          have w2 : IntKind.u8.wrap 2 = 2 := rfl
          have w5 : IntKind.u8.wrap 5 = 5 := rfl
          clear wq wm hq0 hq2 hr0 hr2 ht0 ht1 hc g1 g2 g3
          go_wp2_with fail
          have HA := Lib.hid (app_at wr.drew wr.drew.heap.size rfl w.heap.size u ([39] ++ quo ((sb s).take j)) [92, hexd (39 / 16), hexd (39 % 16)] #[.int .u8 92, .int .u8 (hexs[39 / 16]'(by omega)).toNat, .int .u8 (hexs[39 % 16]'(by omega)).toNat] (by simp [bv, hexs_get (39 / 16) (by omega), hexs_get (39 % 16) (by omega)]) 3 rfl HO.out.drew HB.out.drew.size (by rw [List.length_append]; simp; omega))
          go_region_held3 (fun _ => True) (trivial) (first
            | (refine step_app (by rfl) _ _ _ _ (by rfl) u (.slice (some ⟨wr.heap.size, 0, none⟩) 3 3) (by rfl) (by rfl) ?_; obtain ⟨R, W', hrun, hmade⟩ := HA.out; refine ⟨R, W', hrun, ?_⟩; have HM := Lib.hid hmade; clear hrun hmade HA))
          go_wp2_with fail
          all_goals exact ⟨⟨j + 1, R, by omega, by go_num, rfl, by show Own _ _ _ _; rw [HS.out, HE2.out, ← List.append_assoc]; exact HM.out.1, HB.out.drew.trans HM.out.2.1, HM.out.2.2 _ _ _ (by decide) HH2.out⟩, by simp [intOf]; omega⟩
        · have e1 : (32 : Int) ≤ c := by omega
          have e2 : (c : Int) ≤ 126 := by omega
          have e3 : ((c : Int) == 92) = false := by simp; omega
          have e4 : ((c : Int) == 39) = false := by simp; omega
          have HE2 : Hid (quo1 c = [c]) := by
            show _ = _
            unfold quo1 odd
            simp; omega
          have HA := Lib.hid (app_at wr wr.heap.size rfl w.heap.size u ([39] ++ quo ((sb s).take j)) [c] #[.int .u8 c] (by simp [bv]) 1 rfl HO.out HB.out.size (by rw [List.length_append]; simp; omega))
          go_wp2_with (at_builtin; refine wpList_app rfl _ _ 39 39 rfl u (.slice (some ⟨wr.heap.size, 0, none⟩) 1 1) rfl rfl ?_; obtain ⟨R, W', hrun, hmade⟩ := HA.out; refine ⟨R, W', hrun, ?_⟩; have HM := Lib.hid hmade; clear hrun hmade HA)
          go_roundw
          case rel => exact ⟨j + 1, R, by omega, by go_num, rfl, by show Own _ _ _ _; rw [HS.out, HE2.out, ← List.append_assoc]; exact HM.out.1, HB.out.trans HM.out.2.1, HM.out.2.2 _ _ _ (by decide) HH2.out⟩
          case measure => simp [intOf]; omega
      · obtain rfl : j = s.size := by omega
        have HT : Hid ((sb s).take s.size = sb s) := List.take_of_length_le (by rw [sb_length]; exact Nat.le_refl _)
        have HA := Lib.hid (app_new wr w.heap.size u ([39] ++ quo ((sb s).take s.size)) [39] #[.int .u8 39] rfl 1 rfl HO.out HB.out.size (by rw [List.length_append]; simp; omega))
        go_wp2_with (at_builtin; refine wpList_app rfl _ _ 39 39 rfl u (.slice (some ⟨wr.heap.size, 0, none⟩) 1 1) rfl rfl ?_; obtain ⟨R, W', hrun, hmade⟩ := HA.out; refine ⟨R, W', hrun, ?_⟩; obtain ⟨A1, n1, c1, rfl, HN1, cv1⟩ := own_conv hmade.1; have HM := Lib.hid hmade; clear hrun hmade HA)
        rw [HT.out] at cv1
        go_wp2_with fail
        go_ret
        exact ⟨by rw [HE.out, HT.out]; rfl, HB.out.trans HM.out.2⟩
end Go.Proofs.YtlkhijccjjpbbaaDoor
