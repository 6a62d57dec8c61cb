/-
  A text between two marks, with nothing but signs that can be printed: the program's.
-/
import Derived.Test.YtlkhijccjjpbbaaDoorKeyB
import Derived.Deep.RegionHeld3
namespace Go.Proofs.YtlkhijccjjpbbaaDoor
open Go.RowKit Dg
theorem step_app {P : Program} {ops : Array Oper} {o : Oper} {a : Act} {w : World} {K : Act → World → Prop} {Q : Exit → Act → World → Prop} {E : Prop} (hgd : o.guard = none) (s x : Operand) (t tx : TypeId)
    (ho : o.op = .call { callee := .builtin .append, args := #[s, x], argTypes := #[t, tx] }) (v xv : Value) (hs : a.eval s = v) (hx : a.eval x = xv)
    (hrun : ∃ R W', (Builtin.append_ #[t, tx] o.type #[v, xv]).run P w = .ok R W' ∧ K (a.put o.dst R) W') :
    if Region.wanted o (yielded ops a.tmps) = true then Oper.wp P o a w K Q else E := by
  have hw : Region.wanted o (yielded ops a.tmps) = true := by simp [Region.wanted, hgd]
  rw [if_pos hw]
  obtain ⟨R, W', hrun, h⟩ := hrun
  unfold Oper.wp execOp
  simp only [ho, resolve, invoke, builtin, Sem.run_bind, Sem.run_pure, Result.andThen_ok, List.map_toArray, List.map_cons, List.map_nil, hs, hx, hrun]
  exact h
/-- A digit of two. -/
def hexd (d : Nat) : Nat := if d < 10 then 48 + d else 87 + d
def hexs : ByteArray := ⟨#[48, 49, 50, 51, 52, 53, 54, 55, 56, 57, 97, 98, 99, 100, 101, 102]⟩
theorem hexs_fin : ∀ d : Fin 16, (hexs[d.val]'d.isLt).toNat = hexd d.val := by decide +kernel
theorem hexs_get (d : Nat) (h : d < 16) (h2 : d < hexs.size) : (hexs[d]'h2).toNat = hexd d := hexs_fin ⟨d, h⟩
def odd (c : Nat) : Bool := decide (c < 32) || decide (c > 126) || decide (c = 92) || decide (c = 39)
def quo1 (c : Nat) : List Nat := if odd c then [92, hexd (c / 16), hexd (c % 16)] else [c]
def quo : List Nat → List Nat
  | [] => []
  | x :: t => quo1 x ++ quo t
theorem quo_append : ∀ l m : List Nat, quo (l ++ m) = quo l ++ quo m
  | [], _ => rfl
  | x :: t, m => by simp [quo, quo_append t m]
theorem quo1_len (c : Nat) : (quo1 c).length ≤ 3 := by unfold quo1; split <;> simp
theorem quo_len : ∀ l : List Nat, (quo l).length ≤ 3 * l.length
  | [] => by simp [quo]
  | x :: t => by
    have := quo_len t
    have := quo1_len x
    simp [quo]; omega
theorem quo_take_succ (s : ByteArray) (k : Nat) (h : k < s.size) : quo ((sb s).take (k + 1)) = quo ((sb s).take k) ++ quo1 (s[k]'h).toNat := by
  rw [sb_take_succ s k h, quo_append]; simp [quo]
theorem own_mark (B : Nat) (w : World) (hB : B ≤ w.heap.size) : Own B (w.alloc (.cells #[.int .u8 39] 5)) (.slice (some ⟨w.heap.size, 0, none⟩) 1 1) [39] :=
  ⟨rfl, .inr ⟨w.heap.size, 1, #[.int .u8 39], rfl, hB, heap_alloc_new w _, Nat.le_refl _, by unfold maxLen; omega, rfl, rfl⟩⟩
set_option maxHeartbeats 4000000 in
set_option maxRecDepth 100000 in
theorem quote_any (s : ByteArray) (w : World) (hl : s.size ≤ 200) :
    Calls Tryd.prog 48 #[.string s] w fun e w' => e = .returned (.string (bs (39 :: (quo (sb s) ++ [39])))) ∧ Hid (Below w.heap.size w w') := by
  have HO0 := Lib.hid (own_mark w.heap.size w (Nat.le_refl _))
  have HB0 := Lib.hid ((Below.refl w.heap.size w).alloc (Nat.le_refl _) (.cells #[.int .u8 39] 5))
  go_enter Tryd.func48, Tryd.ntmps48
  go_wp2_with fail
  go_loopw [3, 9] (fun x i wr => ∃ (k : Nat) (u : Value), k ≤ s.size ∧ i = .int .i64 k ∧ u = x ∧ Hid (Own w.heap.size wr u ([39] ++ quo ((sb s).take k))) ∧ Hid (Below w.heap.size w wr)) (fun _ i _ => s.size - (intOf i).toNat)
  case atStart => exact ⟨0, _, by omega, rfl, rfl, by simpa [quo] using HO0, HB0⟩
  case round =>
    obtain ⟨k, u, hk, rfl, rfl, HO, HB⟩ := hrel
    have hel : (quo ((sb s).take k)).length ≤ 3 * k := by
      have := quo_len ((sb s).take k)
      rw [List.length_take] at this
      omega
    by_cases hlt : k < s.size
    · have HS := Lib.hid (quo_take_succ s k hlt)
      have hc : s[k].toNat < 256 := s[k].toNat_lt
      obtain ⟨c, hcc⟩ : ∃ c, s[k].toNat = c := ⟨_, rfl⟩
      rw [hcc] at HS hc
      have h5 : c < 32 ∨ (32 ≤ c ∧ 126 < c) ∨ (32 ≤ c ∧ c ≤ 126 ∧ c = 92) ∨ (32 ≤ c ∧ c ≤ 126 ∧ c ≠ 92 ∧ c = 39) ∨ (32 ≤ c ∧ c ≤ 126 ∧ c ≠ 92 ∧ c ≠ 39) := by omega
      have hq0 : (0 : Int) ≤ (c : Int) / 16 := by omega
      have hq2 : (c : Int) / 16 < 16 := by omega
      have hr0 : (0 : Int) ≤ (c : Int) % 16 := by omega
      have hr2 : (c : Int) % 16 < 16 := by omega
      have hz : hexs.size = 16 := rfl
      have ht : (c : Int).tmod 16 = ((c % 16 : Nat) : Int) := rfl
      have ht0 : (0 : Int) ≤ (c : Int).tmod 16 := by rw [ht]; omega
      have ht1 : (c : Int).tmod 16 < 16 := by rw [ht]; omega
      clear ht
      have wq : IntKind.u8.wrap ((c : Int) / 16) = (c : Int) / 16 := by rw [IntKind.wrap_u8]; omega
      have wm : IntKind.u8.wrap ((c : Int) % 16) = (c : Int) % 16 := by rw [IntKind.wrap_u8]; omega
      rcases h5 with h | ⟨g1, h⟩ | ⟨g1, g2, h⟩ | ⟨g1, g2, g3, h⟩ | ⟨g1, g2, g3, g4⟩
      · have HE : Hid (quo1 c = [92, hexd (c / 16), hexd (c % 16)]) := by
          show _ = _
          unfold quo1 odd
          simp; omega
        have e1 : (c : Int) < 32 := by omega
        go_wp2_with fail
        have HA := Lib.hid (app_new wr.drew w.heap.size u ([39] ++ quo ((sb s).take k)) [92, hexd (c / 16), hexd (c % 16)] #[.int .u8 92, .int .u8 (hexs[c / 16]'(by omega)).toNat, .int .u8 (hexs[c % 16]'(by omega)).toNat] (by simp [bv, hexs_get (c / 16) (by omega), hexs_get (c % 16) (by omega)]) 3 rfl HO.out.drew HB.out.drew.size (by rw [List.length_append]; simp; omega))
        go_region_held3 (fun _ => True) (trivial) (first
          | (refine step_app (by rfl) _ _ _ _ (by rfl) u (.slice (some ⟨wr.heap.size, 0, none⟩) 3 3) (by rfl) (by rfl) ?_; obtain ⟨R, W', hrun, hmade⟩ := HA.out; refine ⟨R, W', hrun, ?_⟩; have HM := Lib.hid hmade; clear hrun hmade HA))
        go_wp2_with fail
        all_goals exact ⟨⟨k + 1, R, by omega, by go_num, rfl, by show Own _ _ _ _; rw [HS.out, HE.out, ← List.append_assoc]; exact HM.out.1, HB.out.drew.trans HM.out.2⟩, by simp [intOf]; omega⟩
      · have HE : Hid (quo1 c = [92, hexd (c / 16), hexd (c % 16)]) := by
          show _ = _
          unfold quo1 odd
          simp; omega
        have e1 : (32 : Int) ≤ c := by omega
        have e2 : (126 : Int) < c := by omega
        go_wp2_with fail
        have HA := Lib.hid (app_new wr.drew w.heap.size u ([39] ++ quo ((sb s).take k)) [92, hexd (c / 16), hexd (c % 16)] #[.int .u8 92, .int .u8 (hexs[c / 16]'(by omega)).toNat, .int .u8 (hexs[c % 16]'(by omega)).toNat] (by simp [bv, hexs_get (c / 16) (by omega), hexs_get (c % 16) (by omega)]) 3 rfl HO.out.drew HB.out.drew.size (by rw [List.length_append]; simp; omega))
        go_region_held3 (fun _ => True) (trivial) (first
          | (refine step_app (by rfl) _ _ _ _ (by rfl) u (.slice (some ⟨wr.heap.size, 0, none⟩) 3 3) (by rfl) (by rfl) ?_; obtain ⟨R, W', hrun, hmade⟩ := HA.out; refine ⟨R, W', hrun, ?_⟩; have HM := Lib.hid hmade; clear hrun hmade HA))
        go_wp2_with fail
        all_goals exact ⟨⟨k + 1, R, by omega, by go_num, rfl, by show Own _ _ _ _; rw [HS.out, HE.out, ← List.append_assoc]; exact HM.out.1, HB.out.drew.trans HM.out.2⟩, by simp [intOf]; omega⟩
      · have HE : Hid (quo1 c = [92, hexd (c / 16), hexd (c % 16)]) := by
          show _ = _
          unfold quo1 odd
          simp; omega
        subst h
        have w2 : IntKind.u8.wrap 2 = 2 := rfl
        have w5 : IntKind.u8.wrap 5 = 5 := rfl
        clear wq wm hq0 hq2 hr0 hr2 ht0 ht1 hc g1 g2
        go_wp2_with fail
        have HA := Lib.hid (app_new wr.drew w.heap.size u ([39] ++ quo ((sb s).take k)) [92, hexd (92 / 16), hexd (92 % 16)] #[.int .u8 92, .int .u8 (hexs[92 / 16]'(by omega)).toNat, .int .u8 (hexs[92 % 16]'(by omega)).toNat] (by simp [bv, hexs_get (92 / 16) (by omega), hexs_get (92 % 16) (by omega)]) 3 rfl HO.out.drew HB.out.drew.size (by rw [List.length_append]; simp; omega))
        go_region_held3 (fun _ => True) (trivial) (first
          | (refine step_app (by rfl) _ _ _ _ (by rfl) u (.slice (some ⟨wr.heap.size, 0, none⟩) 3 3) (by rfl) (by rfl) ?_; obtain ⟨R, W', hrun, hmade⟩ := HA.out; refine ⟨R, W', hrun, ?_⟩; have HM := Lib.hid hmade; clear hrun hmade HA))
        go_wp2_with fail
        all_goals exact ⟨⟨k + 1, R, by omega, by go_num, rfl, by show Own _ _ _ _; rw [HS.out, HE.out, ← List.append_assoc]; exact HM.out.1, HB.out.drew.trans HM.out.2⟩, by simp [intOf]; omega⟩
      · have HE : Hid (quo1 c = [92, hexd (c / 16), hexd (c % 16)]) := by
          show _ = _
          unfold quo1 odd
          simp; omega
        subst h
        have w2 : IntKind.u8.wrap 2 = 2 := rfl
        have w5 : IntKind.u8.wrap 5 = 5 := rfl
        clear wq wm hq0 hq2 hr0 hr2 ht0 ht1 hc g1 g2 g3
        go_wp2_with fail
        have HA := Lib.hid (app_new wr.drew w.heap.size u ([39] ++ quo ((sb s).take k)) [92, hexd (39 / 16), hexd (39 % 16)] #[.int .u8 92, .int .u8 (hexs[39 / 16]'(by omega)).toNat, .int .u8 (hexs[39 % 16]'(by omega)).toNat] (by simp [bv, hexs_get (39 / 16) (by omega), hexs_get (39 % 16) (by omega)]) 3 rfl HO.out.drew HB.out.drew.size (by rw [List.length_append]; simp; omega))
        go_region_held3 (fun _ => True) (trivial) (first
          | (refine step_app (by rfl) _ _ _ _ (by rfl) u (.slice (some ⟨wr.heap.size, 0, none⟩) 3 3) (by rfl) (by rfl) ?_; obtain ⟨R, W', hrun, hmade⟩ := HA.out; refine ⟨R, W', hrun, ?_⟩; have HM := Lib.hid hmade; clear hrun hmade HA))
        go_wp2_with fail
        all_goals exact ⟨⟨k + 1, R, by omega, by go_num, rfl, by show Own _ _ _ _; rw [HS.out, HE.out, ← List.append_assoc]; exact HM.out.1, HB.out.drew.trans HM.out.2⟩, by simp [intOf]; omega⟩
      · have e1 : (32 : Int) ≤ c := by omega
        have e2 : (c : Int) ≤ 126 := by omega
        have e3 : ((c : Int) == 92) = false := by simp; omega
        have e4 : ((c : Int) == 39) = false := by simp; omega
        have HE : Hid (quo1 c = [c]) := by
          show _ = _
          unfold quo1 odd
          simp; omega
        have HA := Lib.hid (app_new wr w.heap.size u ([39] ++ quo ((sb s).take k)) [c] #[.int .u8 c] (by simp [bv]) 1 rfl HO.out HB.out.size (by rw [List.length_append]; simp; omega))
        go_wp2_with (at_builtin; refine wpList_app rfl _ _ 39 39 rfl u (.slice (some ⟨wr.heap.size, 0, none⟩) 1 1) rfl rfl ?_; obtain ⟨R, W', hrun, hmade⟩ := HA.out; refine ⟨R, W', hrun, ?_⟩; have HM := Lib.hid hmade; clear hrun hmade HA)
        go_roundw
        case rel => exact ⟨k + 1, R, by omega, by go_num, rfl, by rw [HS.out, HE.out, ← List.append_assoc]; exact HM.out.1, HB.out.trans HM.out.2⟩
        case measure => simp [intOf]; omega
    · obtain rfl : k = s.size := by omega
      have HT : Hid ((sb s).take s.size = sb s) := List.take_of_length_le (by rw [sb_length]; exact Nat.le_refl _)
      have HA := Lib.hid (app_new wr w.heap.size u ([39] ++ quo ((sb s).take s.size)) [39] #[.int .u8 39] rfl 1 rfl HO.out HB.out.size (by rw [List.length_append]; simp; omega))
      go_wp2_with (at_builtin; refine wpList_app rfl _ _ 39 39 rfl u (.slice (some ⟨wr.heap.size, 0, none⟩) 1 1) rfl rfl ?_; obtain ⟨R, W', hrun, hmade⟩ := HA.out; refine ⟨R, W', hrun, ?_⟩; obtain ⟨A1, n1, c1, rfl, HN1, cv1⟩ := own_conv hmade.1; have HM := Lib.hid hmade; clear hrun hmade HA)
      rw [HT.out] at cv1
      go_wp2_with fail
      go_ret
      exact ⟨by rw [HT.out]; rfl, HB.out.trans HM.out.2⟩
end Go.Proofs.YtlkhijccjjpbbaaDoor
