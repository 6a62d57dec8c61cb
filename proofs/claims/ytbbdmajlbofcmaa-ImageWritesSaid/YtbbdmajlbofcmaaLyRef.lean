/-
  What the document's own answers of layer 1 come to: digits, numbers and texts as bytes.
-/
import Derived.Test.YtbbdmajlbofcmaaLyLaw
import Derived.Lib.AppendStr
namespace Go.Proofs.Ytbbdmajlbofcmaa
open Go.RowKit Dg
set_option maxRecDepth 100000
theorem OutO.out {w w' : World} {l : List Nat} {e : Ending} (h : OutO w l e w') : Out w l e w' := by
  obtain ⟨v, he, ho, hb⟩ := h
  rcases ho.2 with ⟨hv, hn⟩ | ⟨g, cap, cur, hv, _⟩
  · obtain rfl := List.eq_nil_of_length_eq_zero hn
    exact ⟨v, he, none, 0, hv, Nat.le_refl _, Rd.nil _ _, hb⟩
  · subst hv
    obtain ⟨h1, h2⟩ := rd_owned ho
    exact ⟨_, he, _, _, rfl, h1, h2, hb⟩
theorem ref_app (w : World) (B : Nat) (v : Value) (l : List Nat) (d : Nat) (x : Int) (hx : (d : Int) = x) (h : Own B w v l) (hB : B ≤ w.heap.size) (hl : l.length ≤ 1000) :
    ∃ R W', (Builtin.append_ #[26, 26] 26 #[v, .slice (some ⟨w.heap.size, 0, none⟩) 1 1]).run Try.prog (w.alloc (.cells #[.int .u8 x] 5)) = .ok R W' ∧ Own B W' R (l ++ [d]) ∧ Below B w W' := by
  subst hx
  obtain ⟨i0, hi, hz0, hz1, hz2⟩ := info_parts info5
  obtain ⟨R, W', hrun, hown, hg, _⟩ := run_append_own (P := Try.prog) (w.alloc (.cells #[bv d] 5)) B 26 26 5 i0 (.int .u8 0) 1 1 Try.underlying26 hi hz0 hz1 hz2 rfl (by decide) v l.length (l.map bv) (h.alloc _)
    ⟨w.heap.size, 0, none⟩ 1 1 [bv d] rfl (fun j u hj => by
      rcases j with _ | j
      · have := (Has.new w 5 #[bv d]).cell 0
        simpa [Addr.add] using this.trans hj
      · simp at hj) (fun u hu => by simp at hu; subst hu; rfl) (by unfold maxLen; omega) (by omega) (by simp; omega)
  refine ⟨R, W', hrun, ?_, ?_⟩
  · unfold Own; rw [List.map_append, List.length_append]; exact hown
  · exact ((Below.refl B w).alloc hB _).grown hg (by simp; omega) fun k hk => (World.ownsRow.lt h k hk).1
set_option maxHeartbeats 400000 in
theorem refdigits_any (n : Nat) (w : World) (hn : n < big) : Calls Try.prog 24 #[.int .u64 n] w (OutO w (digs n)) := by
  unfold big at hn
  go_enter Try.func24, Try.ntmps24
  go_wp2_with fail
  go_loopw [0, 3] (fun m V wr => ∃ (N : Nat) (o : List Nat) (v : Value), N ≤ n ∧ m = .int .u64 N ∧ v = V ∧ Hid (o ++ digs N = digs n) ∧ Hid (Own w.heap.size wr v o) ∧ Hid (Below w.heap.size w wr)) (fun m _ _ => (intOf m).toNat)
  case atStart => exact ⟨n, [], _, Nat.le_refl _, rfl, rfl, rfl, World.ownsRow_nil _ _ _ _, Below.refl _ _⟩
  case round =>
    obtain ⟨N, o, v, hN, rfl, rfl, HE, HO, HB⟩ := hrel
    have hol : o.length ≤ 1000 := by
      have h1 := congrArg List.length HE.out
      have h2 := digs_le_ten n hn
      rw [List.length_append] at h1
      omega
    by_cases hlt : N < 128
    · have hq : ((N : Int) / 128 == 0) = true := beq_iff_eq.2 (by omega)
      have HA := Lib.hid (ref_app wr w.heap.size v o N ((N : Int) % 128) (by omega) HO.out HB.out.size hol)
      have HE2 : Hid (o ++ [N] = digs n) := by show _ = _; rw [← HE.out, digs_lt hlt]
      clear HE
      go_wp2_with (at_builtin; refine wpList_app rfl _ _ 26 26 rfl v (.slice (some ⟨wr.heap.size, 0, none⟩) 1 1) rfl rfl ?_; obtain ⟨R, W', hrun, hmade⟩ := HA.out; refine ⟨R, W', hrun, ?_⟩; have HM := Lib.hid hmade; clear hrun hmade)
      go_ret
      exact ⟨R, rfl, by rw [← HE2.out]; exact HM.out.1, HB.out.trans HM.out.2⟩
    · have hq : ((N : Int) / 128 == 0) = false := beq_eq_false_iff_ne.2 (by omega)
      have HA := Lib.hid (ref_app wr w.heap.size v o (N % 128 + 128) ((N : Int) % 128 + 128) (by omega) HO.out HB.out.size hol)
      have HE2 : Hid ((o ++ [N % 128 + 128]) ++ digs (N / 128) = digs n) := by show _ = _; rw [← HE.out, digs_ge (n := N) (by omega), List.append_assoc]; rfl
      have HD : Hid ((N : Int) / 128 = ((N / 128 : Nat) : Int)) := by show _ = _; omega
      clear HE
      go_wp2_with (at_builtin; refine wpList_app rfl _ _ 26 26 rfl v (.slice (some ⟨wr.heap.size, 0, none⟩) 1 1) rfl rfl ?_; obtain ⟨R, W', hrun, hmade⟩ := HA.out; refine ⟨R, W', hrun, ?_⟩; have HM := Lib.hid hmade; clear hrun hmade)
      go_roundw
      case rel => exact ⟨N / 128, o ++ [N % 128 + 128], R, by omega, by rw [HD.out], rfl, HE2, HM.out.1, HB.out.trans HM.out.2⟩
      case measure => simp [intOf]; omega
theorem zig_nonneg (n : Nat) : 2 * n = zig (n : Int) := by unfold zig; rw [if_pos (by omega)]; omega
theorem zig_neg (n : Int) (p : Nat) (h : -(n + 1) = (p : Int)) : 2 * p + 1 = zig n := by unfold zig; rw [if_neg (by omega)]; omega
set_option maxHeartbeats 400000 in
theorem refNumber_any (n : Nat) (w : World) (hn : (n : Int) ≤ 9223372036854775807) : Calls Try.prog 25 #[.int .i64 n] w (OutO w (digs n)) := by
  have HC := Lib.hid (refdigits_any n w (by unfold big; omega))
  go_enter Try.func25, Try.ntmps25
  go_wp2_with fail
  refine HC.out.mono ?_
  rintro e w1 ⟨v, rfl, ho, hb⟩
  have HO := Lib.hid ho
  have HB := Lib.hid hb
  clear ho hb
  go_wp2_with fail
  go_ret
  exact ⟨v, rfl, HO.out, HB.out⟩
set_option maxHeartbeats 400000 in
theorem refSigned_any (n : Int) (w : World) (h0 : -9223372036854775808 ≤ n) (h1 : n ≤ 9223372036854775807) : Calls Try.prog 17 #[.int .i64 n] w (OutO w (digs (zig n))) := by
  have HC := Lib.hid (refdigits_any (zig n) w (zig_lt n h0 h1))
  by_cases hs : 0 ≤ n
  · obtain ⟨p, rfl⟩ := Int.eq_ofNat_of_zero_le hs
    have HZ : Hid (2 * (p : Int) = ((zig (p : Int) : Nat) : Int)) := by show _ = _; have := zig_nonneg p; omega
    go_enter Try.func17, Try.ntmps17
    go_wp2_with fail
    rw [HZ.out]
    refine HC.out.mono ?_
    rintro e w1 ⟨v, rfl, ho, hb⟩
    have HO := Lib.hid ho
    have HB := Lib.hid hb
    clear ho hb
    go_wp2_with fail
    go_ret
    exact ⟨v, rfl, HO.out, HB.out⟩
  · obtain ⟨p, hp⟩ : ∃ p : Nat, -(n + 1) = (p : Int) := ⟨(-(n + 1)).toNat, by omega⟩
    have HZ : Hid (2 * (-(n + 1)) + 1 = ((zig n : Nat) : Int)) := by show _ = _; have := zig_neg n p hp; omega
    clear hp
    go_enter Try.func17, Try.ntmps17
    go_wp2_with fail
    rw [HZ.out]
    refine HC.out.mono ?_
    rintro e w1 ⟨v, rfl, ho, hb⟩
    have HO := Lib.hid ho
    have HB := Lib.hid hb
    clear ho hb
    go_wp2_with fail
    go_ret
    exact ⟨v, rfl, HO.out, HB.out⟩
theorem strCells_sb (s : ByteArray) : Lib.strCells s = (sb s).map bv := by
  simp [Lib.strCells, sb, bv, List.map_map, Function.comp]
set_option maxHeartbeats 400000 in
theorem refText_any (s : ByteArray) (w : World) (hs : s.size ≤ 1000) : Calls Try.prog 18 #[.string s] w (OutO w (txt s)) := by
  obtain ⟨i0, hi, hz0, hz1, hz2⟩ := info_parts info5
  have HC := Lib.hid (refNumber_any s.size w (by omega))
  have ht := digs_le_ten s.size (by omega)
  clear hz1
  go_enter Try.func18, Try.ntmps18
  go_wp2_with fail
  refine HC.out.mono ?_
  rintro e w1 ⟨v, rfl, ho, hb⟩
  have HR : Hid (∃ R W', (Builtin.append_ #[26, 9] 26 #[v, .string s]).run Try.prog w1 = .ok R W' ∧ Own w.heap.size W' R (txt s) ∧ Below w.heap.size w W') := by
    obtain ⟨i0, hi, hz0, hz1, hz2⟩ := info_parts info5
    obtain ⟨R, W', hrun, hown, hg, _⟩ := Lib.run_append_own_string (P := Try.prog) w1 w.heap.size 26 9 26 5 i0 Try.underlying26 Try.underlying9 hi hz0 hz1 hz2 v _ _ ho s (by unfold maxLen; omega) (by omega) hb.size
    refine ⟨R, W', hrun, ?_, hb.grown hg hb.size fun k hk => (World.ownsRow.lt ho k hk).1⟩
    unfold Own txt
    rw [List.map_append, List.length_append, sb_length, ← strCells_sb]
    exact hown
  clear ho hb
  go_wp2_with (at_builtin; refine wpList_app rfl _ _ 26 9 rfl v (.string s) rfl rfl ?_; obtain ⟨R, W', hrun, hmade⟩ := HR.out; refine ⟨R, W', hrun, ?_⟩; have HM := Lib.hid hmade; clear hrun hmade)
  go_ret
  exact ⟨R, rfl, HM.out.1, HM.out.2⟩
end Go.Proofs.Ytbbdmajlbofcmaa
