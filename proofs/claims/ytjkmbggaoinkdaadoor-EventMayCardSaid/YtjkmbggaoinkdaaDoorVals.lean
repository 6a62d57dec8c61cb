/-
  The program's Values.
-/
import Derived.Test.YtjkmbggaoinkdaaDoorHead
namespace Go.Proofs.YtjkmbggaoinkdaaDoor
open Go.RowKit Dg
theorem keys_cons (v : Vl) (L : List Vl) : keys (v :: L) = v.key ++ keys L := by unfold keys; rw [List.flatMap_cons]
theorem keys_snoc (v : Vl) (L : List Vl) : keys (L ++ [v]) = keys L ++ v.key := by unfold keys; rw [List.flatMap_append]; simp
def Good1 (L : List Vl) : Prop := ∀ x ∈ L, x.may = true ∧ x.fit
theorem keys_split : ∀ (acc L : List Vl) (r : List Nat), Good1 acc → Good1 L → keys L = keys acc ++ r → ∃ M, L = acc ++ M ∧ keys M = r
  | [], L, r, _, _, h => ⟨L, rfl, by simpa [keys] using h⟩
  | a :: acc, [], r, _, _, h => by
    rw [keys_cons, List.append_assoc] at h
    have h2 : ([] : List Nat) = a.key ++ (keys acc ++ r) := h
    exact absurd (List.append_eq_nil_iff.1 h2.symm).1 (key_ne a)
  | a :: acc, b :: L, r, ha, hL, h => by
    rw [keys_cons, keys_cons, List.append_assoc] at h
    obtain ⟨hb1, hb2⟩ := hL b (by simp)
    obtain ⟨ha1, ha2⟩ := ha a (by simp)
    obtain ⟨e1, e2⟩ := key_unique hb1 hb2 ha1 ha2 h
    subst e1
    obtain ⟨M, h1, h2⟩ := keys_split acc L r (fun x hx => ha x (by simp [hx])) (fun x hx => hL x (by simp [hx])) e2
    exact ⟨M, by rw [h1]; rfl, h2⟩
theorem keys_inj {L M : List Vl} (hL : Good1 L) (hM : Good1 M) (h : keys L = keys M) : L = M := by
  obtain ⟨N, h1, h2⟩ := keys_split M L [] hM hL (by rw [List.append_nil]; exact h)
  have : N = [] := by
    rcases N with _ | ⟨v, N⟩
    · rfl
    · rw [keys_cons] at h2
      exact absurd (List.append_eq_nil_iff.1 h2).1 (key_ne v)
  rw [h1, this, List.append_nil]
/-- What Values comes to. -/
def ValsR (s : ByteArray) (w : World) (e : Ending) (w' : World) : Prop :=
  (∃ L v, Good1 L ∧ (∀ x ∈ L, x.fits) ∧ L.length ≤ s.size ∧ keys L = sb s ∧ e = .returned (.tuple #[v, .int .i64 0]) ∧ OwnV w.heap.size w' v L) ∨
  ((∀ L, Good1 L → keys L ≠ sb s) ∧ e = .returned (.tuple #[.slice none 0 0, .int .i64 2]))
set_option maxHeartbeats 4000000 in
set_option maxRecDepth 100000 in
theorem values_any (s : ByteArray) (w : World) (hs : s.size ≤ 900) (hT : Tabs w) :
    Calls Tryd.prog 128 #[.string s] w fun e w' => ValsR s w e w' ∧ Hid (Below w.heap.size w w') := by
  have HT := Lib.hid hT
  clear hT
  go_enter Tryd.func128, Tryd.ntmps128
  go_wp2_with fail
  go_loopw [0, 4] (fun x z wr => ∃ (t : ByteArray) (u : Value) (acc : List Vl), x = .string t ∧ u = z ∧ acc.length + t.size ≤ s.size ∧ Hid (Good1 acc) ∧ Hid (∀ x ∈ acc, x.fits) ∧ Hid (keys acc ++ sb t = sb s) ∧ Hid (OwnV w.heap.size wr u acc) ∧ Hid (Below w.heap.size w wr)) (fun x _ _ => match x with | .string t => t.size | _ => 0)
  case atStart => exact ⟨s, _, [], rfl, rfl, by simp, (fun _ h => by cases h), (fun _ h => by cases h), rfl, ownV_nil _ _, Below.refl _ _⟩
  case round =>
    obtain ⟨t, u, acc, rfl, rfl, hac, HG, HF, HK, HO, HB⟩ := hrel
    by_cases h0 : 0 < t.size
    · have h0z : (0 : Int) < (t.size : Int) := by omega
      go_wp2_with fail
      refine (head_any t wr h0 (by omega) (HT.out.below HB.out)).mono ?_
      rintro e w1 ⟨rfl, hb1⟩
      have HB1 := Lib.hid (HB.out.trans (hb1.out.mono HB.out.size))
      have HO1 := Lib.hid (HO.out.below hb1.out)
      clear hb1 HO HB
      cases hh : headF (sb t) with
      | none =>
        have HN : Hid (∀ L, Good1 L → keys L ≠ sb s) := fun L hL hk => by
          rw [← HK.out] at hk
          obtain ⟨M, h1, h2⟩ := keys_split acc L (sb t) HG.out hL hk
          rcases M with _ | ⟨v, M⟩
          · have := congrArg List.length h2
            rw [sb_length] at this
            simp [keys] at this
            omega
          · have hv := hL v (by rw [h1]; simp)
            rw [keys_cons] at h2
            have := head_key v (keys M) hv.1 hv.2
            rw [h2, hh] at this
            cases this
        unfold headV Vl.val
        go_wp2_with fail
        go_ret2
        exact ⟨.inr ⟨HN.out, rfl⟩, HB1.out.alloc HB1.out.size _⟩
      | some p =>
        obtain ⟨v, n⟩ := p
        obtain ⟨hm, hf, r, hr, hn⟩ := head_some (sb t) (sb_byte t) (by rw [sb_length]; omega) v n hh
        have hnp : 0 < n := by
          rw [hn]
          exact List.length_pos_iff.2 (key_ne v)
        have hnl : n ≤ t.size := by
          have := congrArg List.length hr
          rw [sb_length, List.length_append] at this
          omega
        have HR : Hid (sb (t.extract n t.size) = r) := by
          show _ = _
          rw [sb_ext, hr, hn, List.drop_left]
        have HG2 : Hid (Good1 (acc ++ [v])) := fun x hx => by
          rcases List.mem_append.1 hx with h | h
          · exact HG.out x h
          · rw [List.mem_singleton.1 h]; exact ⟨hm, hf.1⟩
        have HF2 : Hid (∀ x ∈ acc ++ [v], x.fits) := fun x hx => by
          rcases List.mem_append.1 hx with h | h
          · exact HF.out x h
          · rw [List.mem_singleton.1 h]; exact hf
        have HK2 : Hid (keys (acc ++ [v]) ++ r = sb s) := by
          show _ = _
          rw [keys_snoc, ← HK.out, hr, List.append_assoc]
        have hq : ((n : Int) == 0) = false := by simp; omega
        have hes : (t.extract n t.size).size = t.size - n := by simp
        have HEX := Lib.hid hes
        clear hh hr hn hes hm hf HG HF HK
        obtain ⟨vk, vn, vs⟩ := v
        have HA := Lib.hid (appV (w1.alloc (.cells #[.int .i64 vk, .int .i64 vn, .string vs] 101)) (w1.heap.size + 1) (by simp) w.heap.size u acc ⟨vk, vn, vs⟩ (World.ownsRow.alloc HO1.out _) (by have := HB1.out.size; simp; omega) (by omega))
        have HBA : Hid (Below w.heap.size w (w1.alloc (.cells #[.int .i64 vk, .int .i64 vn, .string vs] 101))) := HB1.out.alloc HB1.out.size _
        unfold headV Vl.val
        go_wp2_with (at_builtin; refine wpList_app rfl _ _ 23 23 rfl u (.slice (some ⟨w1.heap.size + 1, 0, none⟩) 1 1) rfl rfl ?_; obtain ⟨R, W', hrun, hmade⟩ := HA.out; refine ⟨R, W', hrun, ?_⟩; have HM := Lib.hid hmade; clear hrun hmade HA)
        go_roundw
        case rel => exact ⟨t.extract n t.size, R, _, rfl, rfl, by rw [HEX.out, List.length_append]; simp; omega, HG2, HF2, by show _ = _; rw [HR.out]; exact HK2.out, HM.out.1, HBA.out.trans HM.out.2⟩
        case measure => simp only [HEX.out]; omega
    · have ht0 : sb t = [] := List.eq_nil_of_length_eq_zero (by rw [sb_length]; omega)
      have HKK : Hid (keys acc = sb s) := by
        show _ = _
        rw [← HK.out, ht0, List.append_nil]
      go_wp2_with fail
      go_ret2
      exact ⟨.inl ⟨acc, u, HG.out, HF.out, by omega, HKK.out, rfl, HO.out⟩, HB⟩
end Go.Proofs.YtjkmbggaoinkdaaDoor
