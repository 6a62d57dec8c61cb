/-
  The document's tree: Behind.
-/
import Derived.Test.YtmapclocbhkpbaaRTd
namespace Go.Proofs.Ytmapclocbhkpbaa
open Go.RowKit Go.Maps Dg
set_option linter.unusedVariables false
/-- Does a key come behind another one? The empty text: all do. -/
def behP (after : ByteArray) (x : ByteArray × Int) : Bool := after.toList.isEmpty || kl after x.1
def behL (C : List (ByteArray × Int)) (after : ByteArray) (most : Int) : List ByteArray := ((C.filter (behP after)).map (·.1)).take most.toNat
theorem empty_iff {a : ByteArray} : a.toList.isEmpty = true ↔ a = ⟨#[]⟩ := by
  constructor
  · intro h
    refine toList_inj ?_
    rw [ByteArray.toList_eq ⟨#[]⟩]
    simpa using h
  · intro h
    rw [h, ByteArray.toList_eq]
    rfl
theorem beh_one (after : ByteArray) (x : ByteArray × Int) : ((!kl x.1 after) && !skp after x.1) = behP after x := by
  unfold behP
  by_cases he : after = ⟨#[]⟩
  · have h1 := empty_iff.2 he
    have h2 : skp after x.1 = false := by
      unfold skp
      rw [h1]
      simp
    have h3 : kl x.1 after = false := by
      rw [he]
      unfold kl
      rw [ByteArray.toList_eq ⟨#[]⟩]
      cases x.1.toList <;> rfl
    rw [h1, h2, h3]
    rfl
  · have h1 : after.toList.isEmpty = false := by
      cases q : after.toList.isEmpty with
      | false => rfl
      | true => exact absurd (empty_iff.1 q) he
    rw [h1]
    by_cases hx : x.1 = after
    · rw [hx, skp_self he, kl_irrefl]
      rfl
    · rw [skp_ne hx]
      rcases kl_total hx with h | h
      · rw [h, kl_asymm h]
        rfl
      · rw [h, kl_asymm h]
        rfl
theorem behL_keys (C : List (ByteArray × Int)) (after : ByteArray) (most : Int) : behL C after most = keysL C after most := by
  unfold behL keysL
  split
  · rename_i h
    rw [show most.toNat = 0 by omega, List.take_zero]
  · rw [List.filter_filter]
    congr 3
    funext x
    rw [← beh_one, Bool.and_comm]
def outsL (C : List (ByteArray × Int)) (after : ByteArray) (k : Nat) : List ByteArray := ((C.take k).filter (behP after)).map (·.1)
theorem outsL_yes {C : List (ByteArray × Int)} {after : ByteArray} {k : Nat} (hk : k < C.length) (h : behP after C[k] = true) : outsL C after (k + 1) = outsL C after k ++ [C[k].1] := by
  unfold outsL
  rw [List.take_succ_eq_append_getElem hk, List.filter_append, List.map_append, List.filter_cons_of_pos h]
  rfl
theorem outsL_no {C : List (ByteArray × Int)} {after : ByteArray} {k : Nat} (hk : k < C.length) (h : behP after C[k] = false) : outsL C after (k + 1) = outsL C after k := by
  unfold outsL
  rw [List.take_succ_eq_append_getElem hk, List.filter_append, List.filter_cons_of_neg (by rw [h]; simp)]
  simp
theorem outsL_len (C : List (ByteArray × Int)) (after : ByteArray) (k : Nat) : (outsL C after k).length ≤ C.length := by
  unfold outsL
  rw [List.length_map]
  exact Nat.le_trans (List.length_filter_le _ _) (by rw [List.length_take]; omega)
theorem outsL_end {C : List (ByteArray × Int)} {after : ByteArray} {k : Nat} {most : Int} (hk : C.length ≤ k) (h : (outsL C after k).length ≤ most.toNat) : outsL C after k = behL C after most := by
  unfold behL
  unfold outsL at h ⊢
  rw [List.take_of_length_le hk] at h ⊢
  rw [List.take_of_length_le h]
theorem outsL_full {C : List (ByteArray × Int)} {after : ByteArray} {k : Nat} {most : Int} (h : (outsL C after k).length = most.toNat) : outsL C after k = behL C after most := by
  unfold behL
  rw [← h]
  have : (C.filter (behP after)).map (fun x : ByteArray × Int => x.1) = outsL C after k ++ ((C.drop k).filter (behP after)).map (fun x : ByteArray × Int => x.1) := by
    unfold outsL
    rw [← List.map_append, ← List.filter_append, List.take_append_drop]
  rw [this, List.take_left]
set_option maxHeartbeats 8000000 in
set_option maxRecDepth 100000 in
theorem beh_any {B rb : Nat} {X : List Nat} {w : World} {C : List (ByteArray × Int)} (h : RfAt B rb X w C) (hz : C.length ≤ 90000) (after : ByteArray) (most : Int) :
    Calls Try.prog 23 #[.pointer (some ⟨rb, 0, none⟩), .string after, .int .i64 most] w fun e w' => ∃ v, e = .returned v ∧ OwnS w.heap.size w' v (keysL C after most) ∧ Below w.heap.size w w' := by
  rw [← behL_keys]
  obtain ⟨A, n, c, A2, c2, h1, hl, hnc, hcm, -, -, hr, -, -, -, -, -, -⟩ := h.rows
  have HL := Lib.hid hl
  have HD := Lib.hid hr
  have H1 := Lib.hid h1
  have hnI : (n : Int) ≤ 9223372036854775807 := by unfold maxLen at hcm; omega
  rw [hl] at hz
  clear h h1 hr hl hcm
  go_enter Try.func23, Try.ntmps23
  go_wp2_with fail
  go_loopw [7, 8] (fun u7 u8 wr => ∃ k : Nat, k ≤ n ∧ u8 = .int .i64 k ∧ Hid (OwnS w.heap.size wr u7 (outsL C after k)) ∧ Hid ((outsL C after k).length ≤ most.toNat) ∧ Hid (Below w.heap.size w wr)) (fun _ u _ => n - (intOf u).toNat)
  case atStart => exact ⟨0, by omega, rfl, ownS_nil _ _, Nat.zero_le _, Below.refl _ _⟩
  case round =>
    obtain ⟨k, hk, rfl, HO, HM, HI⟩ := hrel
    have h1w := H1.out.below HI.out H1.out.lt
    have d0 : wr.cell? ⟨rb, 0, none⟩ = some (.slice A n c) := h1w.cell 0
    have HDr := Lib.hid (HD.out.below HI.out)
    clear h1w
    have ho := HO.out
    obtain ⟨Ao, no, co, rfl, hno, hnoc, hcom, -, -⟩ := ownS_row ho
    have hno9 : no ≤ 90000 := by
      have := outsL_len C after k
      have := HL.out
      omega
    clear ho
    by_cases hlt : k < n
    · have hkC : k < C.length := by rw [HL.out]; exact hlt
      have hkI : (k : Int) < (n : Int) := by omega
      by_cases hm : (no : Int) < most
      · obtain ⟨b, off, rfl, c0⟩ := HDr.out k (by rw [List.length_map]; exact hkC)
        rw [List.getElem_map] at c0
        have HHM := Lib.hid hm
        have hax : ∃ R W', (Builtin.append_ #[26, 26] 26 #[.slice Ao no co, .slice (some ⟨wr.heap.size, 0, none⟩) 1 1]).run Try.prog (wr.alloc (.cells #[Value.string C[k].1] 9)) = .ok R W' ∧ OwnS w.heap.size W' R (outsL C after k ++ [C[k].1]) ∧ Below w.heap.size w W' := by
          have al : Below wr.heap.size wr (wr.alloc (.cells #[Value.string C[k].1] 9)) := (Below.refl _ wr).alloc (Nat.le_refl _) _
          have ha : w.heap.size ≤ (wr.alloc (.cells #[Value.string C[k].1] 9)).heap.size := Nat.le_trans HI.out.size al.size
          obtain ⟨R, W', r1, r2, r3, r4⟩ := appSS (wr.alloc (.cells #[Value.string C[k].1] 9)) w.heap.size _ _ (some ⟨wr.heap.size, 0, none⟩) 1 1 [C[k].1] (HO.out.below al) ha rfl (RdS.new wr _) (fun e => by cases e) (by have := outsL_len C after k; have := HL.out; omega)
          exact ⟨R, W', r1, r2, (HI.out.trans (al.mono HI.out.size)).trans (r3.below (fun b hb => (HO.out.lt (by simpa using hb)).1) ha)⟩
        have HAX := Lib.hid hax
        clear hax
        by_cases he : after = ⟨#[]⟩
        · have hb : behP after C[k] = true := by unfold behP; rw [empty_iff.2 he]; rfl
          have HE := Lib.hid (outsL_yes hkC hb)
          have heb : (after.toList == ([] : List UInt8)) = true := by rw [he, ByteArray.toList_eq]; rfl
          clear hb
          subst he
          generalize C[k].1 = s at *
          go_wp2_with (at_builtin; refine wpList_app rfl _ _ 26 26 rfl (.slice Ao no co) (.slice (some ⟨wr.heap.size, 0, none⟩) 1 1) rfl rfl ?_; obtain ⟨R, W, hrun, ho2, hb2⟩ := HAX.out; refine ⟨R, W, hrun, ?_⟩; rw [← HE.out] at ho2; have HO2 := Lib.hid ho2; have HI2 := Lib.hid hb2; clear hrun ho2 hb2)
          have HM2 : Hid ((outsL C ⟨#[]⟩ (k + 1)).length ≤ most.toNat) := by
            show (outsL C ⟨#[]⟩ (k + 1)).length ≤ most.toNat
            rw [HE.out, List.length_append]
            simp only [List.length_cons, List.length_nil]
            have := HHM.out
            omega
          go_roundw
          case rel => exact ⟨k + 1, by omega, by go_num, HO2, HM2, HI2⟩
          case measure => simp [intOf]; omega
        · have he1 : after.toList.isEmpty = false := by
            cases q : after.toList.isEmpty with
            | false => rfl
            | true => exact absurd (empty_iff.1 q) he
          have he0 : after.toList ≠ [] := by intro q; rw [q] at he1; cases he1
          cases hkl : kl after C[k].1 with
          | true =>
            have hb : behP after C[k] = true := by unfold behP; rw [hkl, Bool.or_true]
            have HE := Lib.hid (outsL_yes hkC hb)
            have hl0 : Op.bytesLess C[k].1.toList after.toList = false := kl_asymm hkl
            have hl1 : (C[k].1.toList == after.toList) = false := by
              cases q : (C[k].1.toList == after.toList) with
              | false => rfl
              | true => exact absurd (eq_iff.1 q) (Ne.symm (ne_of_kl hkl))
            clear hkl hb
            generalize C[k].1 = s at *
            go_wp2_with (at_builtin; refine wpList_app rfl _ _ 26 26 rfl (.slice Ao no co) (.slice (some ⟨wr.heap.size, 0, none⟩) 1 1) rfl rfl ?_; obtain ⟨R, W, hrun, ho2, hb2⟩ := HAX.out; refine ⟨R, W, hrun, ?_⟩; rw [← HE.out] at ho2; have HO2 := Lib.hid ho2; have HI2 := Lib.hid hb2; clear hrun ho2 hb2)
            have HM2 : Hid ((outsL C after (k + 1)).length ≤ most.toNat) := by
              show (outsL C after (k + 1)).length ≤ most.toNat
              rw [HE.out, List.length_append]
              simp only [List.length_cons, List.length_nil]
              have := HHM.out
              omega
            go_roundw
            case rel => exact ⟨k + 1, by omega, by go_num, HO2, HM2, HI2⟩
            case measure => simp [intOf]; omega
          | false =>
            have hb : behP after C[k] = false := by unfold behP; rw [hkl, he1]; rfl
            have HE := Lib.hid (outsL_no hkC hb)
            rw [← HE.out] at HO HM
            have HKC := Lib.hid hkC
            clear HAX HE hb
            generalize C[k].1 = s at *
            by_cases hx : s = after
            · have hl0 : Op.bytesLess s.toList after.toList = false := by rw [hx]; exact kl_irrefl _
              have hl1 : (s.toList == after.toList) = true := eq_iff.2 hx
              clear hx hkl
              go_wp2_with fail
              go_roundw
              case rel => exact ⟨k + 1, by omega, by go_num, HO, HM, HI⟩
              case measure => simp [intOf]; omega
            · have hl0 : Op.bytesLess s.toList after.toList = true := by
                rcases kl_total hx with q | q
                · exact q
                · rw [hkl] at q; cases q
              clear hx hkl
              go_wp2_with fail
              go_roundw
              case rel => exact ⟨k + 1, by omega, by go_num, HO, HM, HI⟩
              case measure => simp [intOf]; omega
      · have hmI : ¬ (no : Int) < most := hm
        have HE := Lib.hid (outsL_full (C := C) (after := after) (k := k) (most := most) (by have := HM.out; omega))
        go_wp2_with fail
        go_ret
        rw [← HE.out]
        exact ⟨_, rfl, HO.out, HI.out⟩
    · have hkI : ¬ (k : Int) < (n : Int) := by omega
      have HE := Lib.hid (outsL_end (C := C) (after := after) (k := k) (most := most) (by have := HL.out; omega) HM.out)
      go_wp2_with fail
      go_ret
      rw [← HE.out]
      exact ⟨_, rfl, HO.out, HI.out⟩
end Go.Proofs.Ytmapclocbhkpbaa
