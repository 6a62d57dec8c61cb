/-
  A value is read as it was written.
-/
import Derived.Test.YtlkhijccjjpbbaaDoorWrite
import Derived.Laws.ResultCell
namespace Go.Proofs.YtlkhijccjjpbbaaDoor
open Go.RowKit Dg
set_option maxRecDepth 100000
theorem readEnd (w' : World) (g : Nat) (c0 c1 c2 : Value) (tmps : Array Value) (hp : tmps.getD 2 undef = .pointer (some ⟨g, 0, none⟩)) (hh : Has w' g 23 #[c0, c1, c2]) :
    (results Tryd.f24 tmps).run Tryd.prog w' = .ok (.tuple #[.agg #[c0, c1, c2], tmps.getD 3 undef]) w' := by
  rw [results_cell_tmp (p := 2) (u := 3) (ty := 23) rfl, hp]
  simp only [asAddr, Sem.run_pure, Result.andThen_ok]
  rw [run_loadVar_row w' g 23 23 #[c0, c1, c2] (0, 0) _ hh Tryd.underlying23 rfl (by kernel_rfl)]
  rfl
theorem grown_set2 {w x : World} {g : Nat} (h : w.grownBy x (some g)) {p : Addr} (hp : w.heap.size ≤ p.block) (u : Value) : w.grownBy (x.setCell p u) (some g) :=
  ⟨h.os, h.tape, h.output, by rw [size_set]; exact h.size, fun k hk hne => (Below.heap_setCell x p u k (fun e => by subst e; omega)).trans (h.block k hk hne)⟩
theorem grown_below {w x y : World} {g : Nat} (h : w.grownBy x (some g)) (hb : Below x.heap.size x y) : w.grownBy y (some g) :=
  ⟨hb.os.trans h.os, hb.tape.trans h.tape, hb.output.trans h.output, Nat.le_trans h.size hb.size, fun k hk hne => (hb.block k (Nat.lt_of_lt_of_le hk h.size)).trans (h.block k hk hne)⟩
theorem Has.grown {w w' : World} {g g' : Nat} {t : TypeId} {cs : Array Value} (h : Has w g' t cs) (hg : w.grownBy w' (some g)) (hne : g' ≠ g) : Has w' g' t cs :=
  (hg.block g' h.lt (fun e => hne (Option.some.inj e))).trans h
theorem rdr_nil {w w' : World} {g : Nat} (h : Rdr w g [] 0) (hk : ∀ t cs, Has w g t cs → Has w' g t cs) : Rdr w' g [] 0 := by
  obtain ⟨A, c, h1, h2, _⟩ := h
  exact ⟨A, c, hk _ _ h1, h2, Rd.nil _ _⟩
theorem textF_big (s : ByteArray) (hs : s.size ≤ 200) (rest : List Nat) : textF 9223372036854775807 (txt s ++ rest) 0 = (sb s, rest, 0) := by
  have hn : s.size < 18446744073709551616 := by omega
  unfold textF txt
  rw [if_neg (by simp), List.append_assoc, head_whole _ s.size _ hn (by omega)]
  simp only
  rw [if_neg (by simp), if_neg (by omega), if_neg]
  · have h1 : (digs s.size ++ (sb s ++ rest)).drop (digs s.size).length = sb s ++ rest := List.drop_left
    rw [← List.drop_drop, h1]
    have h2 : (sb s ++ rest).take s.size = sb s := by rw [← sb_length s]; exact List.take_left
    have h3 : (sb s ++ rest).drop s.size = rest := by rw [← sb_length s]; exact List.drop_left
    rw [h2, h3]
  · rw [List.length_append, List.length_append, sb_length]
    omega
/-- The library's tables are not where a reader is. -/
theorem u8_not {w : World} {g : Nat} {l : List Nat} {e : Nat} (h : Rdr w g l e) {b o : Nat} {x : Int} (hc : w.cell? ⟨b, o, none⟩ = some (.int .u8 x)) : b ≠ g := by
  rintro rfl
  obtain ⟨A, c, hh, _, _⟩ := h
  rw [hh.cell] at hc
  rcases o with _ | _ | o
  · simp at hc
  · simp at hc
  · simp at hc
theorem cell_grown {w w' : World} {g : Nat} (hg : w.grownBy w' (some g)) {b o : Nat} {v : Value} (hc : w.cell? ⟨b, o, none⟩ = some v) (hne : b ≠ g) : w'.cell? ⟨b, o, none⟩ = some v := by
  rw [← hc]
  exact World.cell?_of_block (w := w) (hg.block b (World.block_lt_of_cell? w _ hc) (fun e => hne (Option.some.inj e)))
theorem tabs_grown {w w' : World} {g : Nat} {l : List Nat} {e : Nat} (h : Tabs w) (hr : Rdr w g l e) (hg : w.grownBy w' (some g)) : Tabs w' :=
  ⟨fun c hc => cell_grown hg (h.1 c hc) (u8_not hr (h.1 c hc)), fun i hi => ⟨cell_grown hg (h.2 i hi).1 (u8_not hr (h.2 i hi).1), cell_grown hg (h.2 i hi).2 (u8_not hr (h.2 i hi).2)⟩⟩
theorem empty_list {s : ByteArray} (h : s.toList = []) : s = ⟨#[]⟩ := by
  rw [ByteArray.toList_eq] at h
  obtain ⟨⟨l⟩⟩ := s
  simp at h
  subst h; rfl
set_option maxHeartbeats 4000000 in
theorem vread_any (g : Nat) (k m : Int) (s : ByteArray) (w : World) (hR : Rdr w g (wrV k m s) 0) (hm : mayF k m s = true) (hk : k = 0 ∨ k = 1 ∨ k = 2 ∨ k = 3 ∨ k = 4) (hs : s.size ≤ 200) (h0 : -9223372036854775808 ≤ m) (h1 : m ≤ 9223372036854775807) (hT : Tabs w) :
    Calls Tryd.prog 24 #[.pointer (some ⟨g, 0, none⟩)] w fun e w' => e = .returned (.tuple #[.agg #[.int .i64 k, .int .i64 m, .string s], .bool true]) ∧ Hid (Rdr w' g [] 0) ∧ Hid (w.grownBy w' (some g)) := by
  have hgl := hR.lt
  have HT := Lib.hid hT
  have hdg := digs_le_ten (zig m) (zig_lt m h0 h1)
  have htx := txt_le s hs
  have hR0 := hR.below ((Below.refl w.heap.size w).alloc (Nat.le_refl _) (.cells #[.int .i64 0, .int .i64 0, .string ⟨#[]⟩] 23))
  have HZ : Hid (Has (w.alloc (.cells #[.int .i64 0, .int .i64 0, .string ⟨#[]⟩] 23)) w.heap.size 23 #[.int .i64 0, .int .i64 0, .string ⟨#[]⟩]) := Has.new _ _ _
  have HG0 : Hid (w.grownBy (w.alloc (.cells #[.int .i64 0, .int .i64 0, .string ⟨#[]⟩] 23)) (some g)) := World.grownBy_alloc w _ _
  have HM := Lib.hid hm
  have HRS := Lib.hid hR
  clear hm hT hR
  rcases hk with rfl | rfl | rfl | rfl | rfl
  · have HR : Hid (Rdr (w.alloc (.cells #[.int .i64 0, .int .i64 0, .string ⟨#[]⟩] 23)) g (0 :: []) 0) := hR0
    have HBD : Hid (∀ x ∈ ([] : List Nat), x < 256) := fun x hx => by cases hx
    have HBL : Hid ((0 :: [] : List Nat).length ≤ 300) := by show _ ≤ _; simp
    have HBY := Lib.hid (Byte_go g _ 0 ([]) HR.out (by omega) (by have := HBL.out; omega))
    clear hR0
    go_enter Tryd.func24, Tryd.ntmps24
    go_wp2_with fail
    refine HBY.out.mono ?_
    rintro e w1 ⟨rfl, hd, hg⟩
    have HR1 := Lib.hid hd
    have HG1 := Lib.hid (grown_trans HG0.out hg)
    have HZ1 := Lib.hid (HZ.out.grown hg (by omega))
    have hsz1 := HG1.out.size
    have hsz0 : w.heap.size + 1 ≤ w1.heap.size := by have := hg.size; simpa using this
    have hgl1 := hd.lt
    clear hd hg HBY HR HZ HG0
    have HR2 := Lib.hid (HR1.out.below ((Below.refl _ w1).alloc (Nat.le_refl _) (.cells #[.int .i64 0, .int .i64 0, .string ⟨#[]⟩] 23)))
    have HV2 : Hid (Has (w1.alloc (.cells #[.int .i64 0, .int .i64 0, .string ⟨#[]⟩] 23)) w1.heap.size 23 #[.int .i64 0, .int .i64 0, .string ⟨#[]⟩]) := Has.new _ _ _
    have HZ2 := Lib.hid (HZ1.out.alloc (.cells #[.int .i64 0, .int .i64 0, .string ⟨#[]⟩] 23))
    have HG2 := Lib.hid (grown_below HG1.out ((Below.refl _ w1).alloc (Nat.le_refl _) (.cells #[.int .i64 0, .int .i64 0, .string ⟨#[]⟩] 23)))
    have hmm : m = 0 ∧ s = ⟨#[]⟩ := by
      have := HM.out
      simp [mayF] at this
      exact ⟨this.1, empty_list this.2⟩
    obtain ⟨rfl, rfl⟩ := hmm
    obtain ⟨W, hW⟩ : ∃ W, W = w1.alloc (.cells #[.int .i64 0, .int .i64 0, .string ⟨#[]⟩] 23) := ⟨_, rfl⟩
    rw [← hW] at HR2 HV2 HZ2 HG2
    have HE := Lib.hid (Errno_get g [] 0 W HR2.out)
    have c0 := HV2.out.cell 0
    have c1 := HV2.out.cell 1
    have c2 := HV2.out.cell 2
    simp at c0 c1 c2
    have HBW : Hid (w.grownBy W (some g)) := HG2
    go_wp2_with fail
    rw [← hW]
    clear hW
    refine HE.out.mono ?_
    rintro e w3 ⟨rfl, rfl⟩
    go_wp2_with fail
    refine (may_any 0 0 ⟨#[]⟩ W (by simp [ByteArray.size]) (tabs_grown HT.out HRS.out HBW.out)).mono ?_
    rintro e w5 ⟨rfl, hb5⟩
    rw [HM.out]
    have HZ5 := Lib.hid (HZ2.out.below hb5.out HZ2.out.lt)
    have HV5 := Lib.hid (HV2.out.below hb5.out HV2.out.lt)
    have HG5 := Lib.hid (grown_below HBW.out hb5.out)
    have HR5 : Hid (Rdr w5 g [] 0) := HR2.out.below hb5.out
    clear hb5 HE c0 c1 c2
    have c0 := HV5.out.cell 0
    have c1 := HV5.out.cell 1
    have c2 := HV5.out.cell 2
    have z0 := HZ5.out.cell 0
    have z1 := HZ5.out.cell 1
    have z2 := HZ5.out.cell 2
    have e0 := HZ5.out.free 0
    have e1 := HZ5.out.free 1
    have e2 := HZ5.out.free 2
    simp at c0 c1 c2 z0 z1 z2
    have HP := Lib.hid (((HZ5.out.put 0 (.int .i64 0)).put 1 (.int .i64 0)).put 2 (.string ⟨#[]⟩))
    go_wp2_with fail
    exact bodyPost_ret (readEnd _ w.heap.size _ _ _ _ rfl HP.out) rfl ⟨rfl, rdr_nil HR5.out fun t cs h => ((h.far (by simp; omega) _).far (by simp; omega) _).far (by simp; omega) _, grown_set2 (grown_set2 (grown_set2 HG5.out (by simp) _) (by simp) _) (by simp) _⟩
  · have HR : Hid (Rdr (w.alloc (.cells #[.int .i64 0, .int .i64 0, .string ⟨#[]⟩] 23)) g (1 :: digs (zig m)) 0) := hR0
    have HBD : Hid (∀ x ∈ (digs (zig m) : List Nat), x < 256) := digs_byte _
    have HBL : Hid ((1 :: digs (zig m) : List Nat).length ≤ 300) := by show _ ≤ _; simp; omega
    have HBY := Lib.hid (Byte_go g _ 1 (digs (zig m)) HR.out (by omega) (by have := HBL.out; omega))
    clear hR0
    go_enter Tryd.func24, Tryd.ntmps24
    go_wp2_with fail
    refine HBY.out.mono ?_
    rintro e w1 ⟨rfl, hd, hg⟩
    have HR1 := Lib.hid hd
    have HG1 := Lib.hid (grown_trans HG0.out hg)
    have HZ1 := Lib.hid (HZ.out.grown hg (by omega))
    have hsz1 := HG1.out.size
    have hsz0 : w.heap.size + 1 ≤ w1.heap.size := by have := hg.size; simpa using this
    have hgl1 := hd.lt
    clear hd hg HBY HR HZ HG0
    have HR2 := Lib.hid (HR1.out.below ((Below.refl _ w1).alloc (Nat.le_refl _) (.cells #[.int .i64 1, .int .i64 0, .string ⟨#[]⟩] 23)))
    have HV2 : Hid (Has (w1.alloc (.cells #[.int .i64 1, .int .i64 0, .string ⟨#[]⟩] 23)) w1.heap.size 23 #[.int .i64 1, .int .i64 0, .string ⟨#[]⟩]) := Has.new _ _ _
    have HZ2 := Lib.hid (HZ1.out.alloc (.cells #[.int .i64 1, .int .i64 0, .string ⟨#[]⟩] 23))
    have HG2 := Lib.hid (grown_below HG1.out ((Below.refl _ w1).alloc (Nat.le_refl _) (.cells #[.int .i64 1, .int .i64 0, .string ⟨#[]⟩] 23)))
    have HNW : Hid (numF 18446744073709551615 (digs (zig m)) 0 = (zig m, [], 0)) := by
      have h := numF_whole 18446744073709551615 (zig m) [] (zig_lt m h0 h1) (by have := zig_lt m h0 h1; omega)
      rw [List.append_nil] at h
      exact h
    have hmm : s = ⟨#[]⟩ := by
      have := HM.out
      simp [mayF] at this
      exact empty_list this.1
    subst hmm
    have HS := Signed_get g _ 0 _ HR2.out HBD.out (by have := HBL.out; simp at this; omega)
    rw [HNW.out] at HS
    simp only [zag_zig] at HS
    have HSS := Lib.hid HS
    clear HS HNW
    go_wp2_with fail
    refine HSS.out.mono ?_
    rintro e w3 ⟨rfl, hd, hg⟩
    have HR3 := Lib.hid hd
    have HV3 := Lib.hid (HV2.out.grown hg (by omega))
    have HZ3 := Lib.hid (HZ2.out.grown hg (by omega))
    have HG3 := Lib.hid (grown_trans HG2.out hg)
    clear hd hg HSS HR2 HV2 HZ2 HG2
    have x0 := HV3.out.cell 0
    have x1 := HV3.out.cell 1
    have x2 := HV3.out.cell 2
    have y1 := HV3.out.free 1
    simp at x0 x1 x2
    obtain ⟨W, hW⟩ : ∃ W, W = w3.setCell ⟨w1.heap.size, 1, none⟩ (.int .i64 m) := ⟨_, rfl⟩
    have HRW : Hid (Rdr W g [] 0) := rdr_nil HR3.out fun t cs h => by rw [hW]; exact h.far (by simp; omega) _
    have HV2 : Hid (Has W w1.heap.size 23 #[.int .i64 1, .int .i64 m, .string ⟨#[]⟩]) := by rw [hW]; exact HV3.out.put 1 _
    have HZ2 : Hid (Has W w.heap.size 23 #[.int .i64 0, .int .i64 0, .string ⟨#[]⟩]) := by rw [hW]; exact HZ3.out.far (by simp; omega) _
    have HBW : Hid (w.grownBy W (some g)) := by rw [hW]; exact grown_set2 HG3.out (by simp; omega) _
    have HE := Lib.hid (Errno_get g [] 0 W HRW.out)
    have HR2 := HRW
    go_wp2_with fail
    rw [← hW]
    clear x0 x1 x2 y1 HR3 HV3 HZ3 HG3 hW
    refine HE.out.mono ?_
    rintro e w4 ⟨rfl, rfl⟩
    have c0 := HV2.out.cell 0
    have c1 := HV2.out.cell 1
    have c2 := HV2.out.cell 2
    simp at c0 c1 c2
    go_wp2_with fail
    refine (may_any 1 m ⟨#[]⟩ W (by simp [ByteArray.size]) (tabs_grown HT.out HRS.out HBW.out)).mono ?_
    rintro e w5 ⟨rfl, hb5⟩
    rw [HM.out]
    have HZ5 := Lib.hid (HZ2.out.below hb5.out HZ2.out.lt)
    have HV5 := Lib.hid (HV2.out.below hb5.out HV2.out.lt)
    have HG5 := Lib.hid (grown_below HBW.out hb5.out)
    have HR5 : Hid (Rdr w5 g [] 0) := HR2.out.below hb5.out
    clear hb5 HE c0 c1 c2
    have c0 := HV5.out.cell 0
    have c1 := HV5.out.cell 1
    have c2 := HV5.out.cell 2
    have z0 := HZ5.out.cell 0
    have z1 := HZ5.out.cell 1
    have z2 := HZ5.out.cell 2
    have e0 := HZ5.out.free 0
    have e1 := HZ5.out.free 1
    have e2 := HZ5.out.free 2
    simp at c0 c1 c2 z0 z1 z2
    have HP := Lib.hid (((HZ5.out.put 0 (.int .i64 1)).put 1 (.int .i64 m)).put 2 (.string ⟨#[]⟩))
    go_wp2_with fail
    exact bodyPost_ret (readEnd _ w.heap.size _ _ _ _ rfl HP.out) rfl ⟨rfl, rdr_nil HR5.out fun t cs h => ((h.far (by simp; omega) _).far (by simp; omega) _).far (by simp; omega) _, grown_set2 (grown_set2 (grown_set2 HG5.out (by simp) _) (by simp) _) (by simp) _⟩
  · have HR : Hid (Rdr (w.alloc (.cells #[.int .i64 0, .int .i64 0, .string ⟨#[]⟩] 23)) g (2 :: digs (zig m)) 0) := hR0
    have HBD : Hid (∀ x ∈ (digs (zig m) : List Nat), x < 256) := digs_byte _
    have HBL : Hid ((2 :: digs (zig m) : List Nat).length ≤ 300) := by show _ ≤ _; simp; omega
    have HBY := Lib.hid (Byte_go g _ 2 (digs (zig m)) HR.out (by omega) (by have := HBL.out; omega))
    clear hR0
    go_enter Tryd.func24, Tryd.ntmps24
    go_wp2_with fail
    refine HBY.out.mono ?_
    rintro e w1 ⟨rfl, hd, hg⟩
    have HR1 := Lib.hid hd
    have HG1 := Lib.hid (grown_trans HG0.out hg)
    have HZ1 := Lib.hid (HZ.out.grown hg (by omega))
    have hsz1 := HG1.out.size
    have hsz0 : w.heap.size + 1 ≤ w1.heap.size := by have := hg.size; simpa using this
    have hgl1 := hd.lt
    clear hd hg HBY HR HZ HG0
    have HR2 := Lib.hid (HR1.out.below ((Below.refl _ w1).alloc (Nat.le_refl _) (.cells #[.int .i64 2, .int .i64 0, .string ⟨#[]⟩] 23)))
    have HV2 : Hid (Has (w1.alloc (.cells #[.int .i64 2, .int .i64 0, .string ⟨#[]⟩] 23)) w1.heap.size 23 #[.int .i64 2, .int .i64 0, .string ⟨#[]⟩]) := Has.new _ _ _
    have HZ2 := Lib.hid (HZ1.out.alloc (.cells #[.int .i64 2, .int .i64 0, .string ⟨#[]⟩] 23))
    have HG2 := Lib.hid (grown_below HG1.out ((Below.refl _ w1).alloc (Nat.le_refl _) (.cells #[.int .i64 2, .int .i64 0, .string ⟨#[]⟩] 23)))
    have HNW : Hid (numF 18446744073709551615 (digs (zig m)) 0 = (zig m, [], 0)) := by
      have h := numF_whole 18446744073709551615 (zig m) [] (zig_lt m h0 h1) (by have := zig_lt m h0 h1; omega)
      rw [List.append_nil] at h
      exact h
    have hmm : s = ⟨#[]⟩ := by
      have := HM.out
      simp [mayF] at this
      exact empty_list this
    subst hmm
    have HS := Signed_get g _ 0 _ HR2.out HBD.out (by have := HBL.out; simp at this; omega)
    rw [HNW.out] at HS
    simp only [zag_zig] at HS
    have HSS := Lib.hid HS
    clear HS HNW
    go_wp2_with fail
    refine HSS.out.mono ?_
    rintro e w3 ⟨rfl, hd, hg⟩
    have HR3 := Lib.hid hd
    have HV3 := Lib.hid (HV2.out.grown hg (by omega))
    have HZ3 := Lib.hid (HZ2.out.grown hg (by omega))
    have HG3 := Lib.hid (grown_trans HG2.out hg)
    clear hd hg HSS HR2 HV2 HZ2 HG2
    have x0 := HV3.out.cell 0
    have x1 := HV3.out.cell 1
    have x2 := HV3.out.cell 2
    have y1 := HV3.out.free 1
    simp at x0 x1 x2
    obtain ⟨W, hW⟩ : ∃ W, W = w3.setCell ⟨w1.heap.size, 1, none⟩ (.int .i64 m) := ⟨_, rfl⟩
    have HRW : Hid (Rdr W g [] 0) := rdr_nil HR3.out fun t cs h => by rw [hW]; exact h.far (by simp; omega) _
    have HV2 : Hid (Has W w1.heap.size 23 #[.int .i64 2, .int .i64 m, .string ⟨#[]⟩]) := by rw [hW]; exact HV3.out.put 1 _
    have HZ2 : Hid (Has W w.heap.size 23 #[.int .i64 0, .int .i64 0, .string ⟨#[]⟩]) := by rw [hW]; exact HZ3.out.far (by simp; omega) _
    have HBW : Hid (w.grownBy W (some g)) := by rw [hW]; exact grown_set2 HG3.out (by simp; omega) _
    have HE := Lib.hid (Errno_get g [] 0 W HRW.out)
    have HR2 := HRW
    go_wp2_with fail
    rw [← hW]
    clear x0 x1 x2 y1 HR3 HV3 HZ3 HG3 hW
    refine HE.out.mono ?_
    rintro e w4 ⟨rfl, rfl⟩
    have c0 := HV2.out.cell 0
    have c1 := HV2.out.cell 1
    have c2 := HV2.out.cell 2
    simp at c0 c1 c2
    go_wp2_with fail
    refine (may_any 2 m ⟨#[]⟩ W (by simp [ByteArray.size]) (tabs_grown HT.out HRS.out HBW.out)).mono ?_
    rintro e w5 ⟨rfl, hb5⟩
    rw [HM.out]
    have HZ5 := Lib.hid (HZ2.out.below hb5.out HZ2.out.lt)
    have HV5 := Lib.hid (HV2.out.below hb5.out HV2.out.lt)
    have HG5 := Lib.hid (grown_below HBW.out hb5.out)
    have HR5 : Hid (Rdr w5 g [] 0) := HR2.out.below hb5.out
    clear hb5 HE c0 c1 c2
    have c0 := HV5.out.cell 0
    have c1 := HV5.out.cell 1
    have c2 := HV5.out.cell 2
    have z0 := HZ5.out.cell 0
    have z1 := HZ5.out.cell 1
    have z2 := HZ5.out.cell 2
    have e0 := HZ5.out.free 0
    have e1 := HZ5.out.free 1
    have e2 := HZ5.out.free 2
    simp at c0 c1 c2 z0 z1 z2
    have HP := Lib.hid (((HZ5.out.put 0 (.int .i64 2)).put 1 (.int .i64 m)).put 2 (.string ⟨#[]⟩))
    go_wp2_with fail
    exact bodyPost_ret (readEnd _ w.heap.size _ _ _ _ rfl HP.out) rfl ⟨rfl, rdr_nil HR5.out fun t cs h => ((h.far (by simp; omega) _).far (by simp; omega) _).far (by simp; omega) _, grown_set2 (grown_set2 (grown_set2 HG5.out (by simp) _) (by simp) _) (by simp) _⟩
  · have HR : Hid (Rdr (w.alloc (.cells #[.int .i64 0, .int .i64 0, .string ⟨#[]⟩] 23)) g (3 :: txt s) 0) := hR0
    have HBD : Hid (∀ x ∈ (txt s : List Nat), x < 256) := txt_byte s
    have HBL : Hid ((3 :: txt s : List Nat).length ≤ 300) := by show _ ≤ _; simp; omega
    have HBY := Lib.hid (Byte_go g _ 3 (txt s) HR.out (by omega) (by have := HBL.out; omega))
    clear hR0
    go_enter Tryd.func24, Tryd.ntmps24
    go_wp2_with fail
    refine HBY.out.mono ?_
    rintro e w1 ⟨rfl, hd, hg⟩
    have HR1 := Lib.hid hd
    have HG1 := Lib.hid (grown_trans HG0.out hg)
    have HZ1 := Lib.hid (HZ.out.grown hg (by omega))
    have hsz1 := HG1.out.size
    have hsz0 : w.heap.size + 1 ≤ w1.heap.size := by have := hg.size; simpa using this
    have hgl1 := hd.lt
    clear hd hg HBY HR HZ HG0
    have HR2 := Lib.hid (HR1.out.below ((Below.refl _ w1).alloc (Nat.le_refl _) (.cells #[.int .i64 3, .int .i64 0, .string ⟨#[]⟩] 23)))
    have HV2 : Hid (Has (w1.alloc (.cells #[.int .i64 3, .int .i64 0, .string ⟨#[]⟩] 23)) w1.heap.size 23 #[.int .i64 3, .int .i64 0, .string ⟨#[]⟩]) := Has.new _ _ _
    have HZ2 := Lib.hid (HZ1.out.alloc (.cells #[.int .i64 3, .int .i64 0, .string ⟨#[]⟩] 23))
    have HG2 := Lib.hid (grown_below HG1.out ((Below.refl _ w1).alloc (Nat.le_refl _) (.cells #[.int .i64 3, .int .i64 0, .string ⟨#[]⟩] 23)))
    have HNW : Hid (textF 9223372036854775807 (txt s) 0 = (sb s, [], 0)) := by
      have h := textF_big s hs []
      rw [List.append_nil] at h
      exact h
    have hmm : m = 0 := by
      have := HM.out
      simp [mayF] at this
      have h2 := this.1
      simp [short] at h2
      exact h2.1
    subst hmm
    have HS := Text_get g _ 0 _ 9223372036854775807 HR2.out HBD.out (by have := HBL.out; simp at this; omega)
    rw [HNW.out] at HS
    simp only [bs_sb] at HS
    have HSS := Lib.hid HS
    clear HS HNW
    go_wp2_with fail
    refine HSS.out.mono ?_
    rintro e w3 ⟨rfl, hd, hg⟩
    have HR3 := Lib.hid hd
    have HV3 := Lib.hid (HV2.out.grown hg (by omega))
    have HZ3 := Lib.hid (HZ2.out.grown hg (by omega))
    have HG3 := Lib.hid (grown_trans HG2.out hg)
    clear hd hg HSS HR2 HV2 HZ2 HG2
    have x0 := HV3.out.cell 0
    have x1 := HV3.out.cell 1
    have x2 := HV3.out.cell 2
    have y2 := HV3.out.free 2
    simp at x0 x1 x2
    obtain ⟨W, hW⟩ : ∃ W, W = w3.setCell ⟨w1.heap.size, 2, none⟩ (.string s) := ⟨_, rfl⟩
    have HRW : Hid (Rdr W g [] 0) := rdr_nil HR3.out fun t cs h => by rw [hW]; exact h.far (by simp; omega) _
    have HV2 : Hid (Has W w1.heap.size 23 #[.int .i64 3, .int .i64 0, .string s]) := by rw [hW]; exact HV3.out.put 2 _
    have HZ2 : Hid (Has W w.heap.size 23 #[.int .i64 0, .int .i64 0, .string ⟨#[]⟩]) := by rw [hW]; exact HZ3.out.far (by simp; omega) _
    have HBW : Hid (w.grownBy W (some g)) := by rw [hW]; exact grown_set2 HG3.out (by simp; omega) _
    have HE := Lib.hid (Errno_get g [] 0 W HRW.out)
    have HR2 := HRW
    go_wp2_with fail
    rw [← hW]
    clear x0 x1 x2 y2 HR3 HV3 HZ3 HG3 hW
    refine HE.out.mono ?_
    rintro e w4 ⟨rfl, rfl⟩
    have c0 := HV2.out.cell 0
    have c1 := HV2.out.cell 1
    have c2 := HV2.out.cell 2
    simp at c0 c1 c2
    go_wp2_with fail
    refine (may_any 3 0 s W (by omega) (tabs_grown HT.out HRS.out HBW.out)).mono ?_
    rintro e w5 ⟨rfl, hb5⟩
    rw [HM.out]
    have HZ5 := Lib.hid (HZ2.out.below hb5.out HZ2.out.lt)
    have HV5 := Lib.hid (HV2.out.below hb5.out HV2.out.lt)
    have HG5 := Lib.hid (grown_below HBW.out hb5.out)
    have HR5 : Hid (Rdr w5 g [] 0) := HR2.out.below hb5.out
    clear hb5 HE c0 c1 c2
    have c0 := HV5.out.cell 0
    have c1 := HV5.out.cell 1
    have c2 := HV5.out.cell 2
    have z0 := HZ5.out.cell 0
    have z1 := HZ5.out.cell 1
    have z2 := HZ5.out.cell 2
    have e0 := HZ5.out.free 0
    have e1 := HZ5.out.free 1
    have e2 := HZ5.out.free 2
    simp at c0 c1 c2 z0 z1 z2
    have HP := Lib.hid (((HZ5.out.put 0 (.int .i64 3)).put 1 (.int .i64 0)).put 2 (.string s))
    go_wp2_with fail
    exact bodyPost_ret (readEnd _ w.heap.size _ _ _ _ rfl HP.out) rfl ⟨rfl, rdr_nil HR5.out fun t cs h => ((h.far (by simp; omega) _).far (by simp; omega) _).far (by simp; omega) _, grown_set2 (grown_set2 (grown_set2 HG5.out (by simp) _) (by simp) _) (by simp) _⟩
  · have HR : Hid (Rdr (w.alloc (.cells #[.int .i64 0, .int .i64 0, .string ⟨#[]⟩] 23)) g (4 :: txt s) 0) := hR0
    have HBD : Hid (∀ x ∈ (txt s : List Nat), x < 256) := txt_byte s
    have HBL : Hid ((4 :: txt s : List Nat).length ≤ 300) := by show _ ≤ _; simp; omega
    have HBY := Lib.hid (Byte_go g _ 4 (txt s) HR.out (by omega) (by have := HBL.out; omega))
    clear hR0
    go_enter Tryd.func24, Tryd.ntmps24
    go_wp2_with fail
    refine HBY.out.mono ?_
    rintro e w1 ⟨rfl, hd, hg⟩
    have HR1 := Lib.hid hd
    have HG1 := Lib.hid (grown_trans HG0.out hg)
    have HZ1 := Lib.hid (HZ.out.grown hg (by omega))
    have hsz1 := HG1.out.size
    have hsz0 : w.heap.size + 1 ≤ w1.heap.size := by have := hg.size; simpa using this
    have hgl1 := hd.lt
    clear hd hg HBY HR HZ HG0
    have HR2 := Lib.hid (HR1.out.below ((Below.refl _ w1).alloc (Nat.le_refl _) (.cells #[.int .i64 4, .int .i64 0, .string ⟨#[]⟩] 23)))
    have HV2 : Hid (Has (w1.alloc (.cells #[.int .i64 4, .int .i64 0, .string ⟨#[]⟩] 23)) w1.heap.size 23 #[.int .i64 4, .int .i64 0, .string ⟨#[]⟩]) := Has.new _ _ _
    have HZ2 := Lib.hid (HZ1.out.alloc (.cells #[.int .i64 4, .int .i64 0, .string ⟨#[]⟩] 23))
    have HG2 := Lib.hid (grown_below HG1.out ((Below.refl _ w1).alloc (Nat.le_refl _) (.cells #[.int .i64 4, .int .i64 0, .string ⟨#[]⟩] 23)))
    have HNW : Hid (textF 9223372036854775807 (txt s) 0 = (sb s, [], 0)) := by
      have h := textF_big s hs []
      rw [List.append_nil] at h
      exact h
    have hmm : m = 0 := by
      have := HM.out
      simp [mayF] at this
      have h2 := this
      simp [short] at h2
      exact h2.1
    subst hmm
    have HS := Text_get g _ 0 _ 9223372036854775807 HR2.out HBD.out (by have := HBL.out; simp at this; omega)
    rw [HNW.out] at HS
    simp only [bs_sb] at HS
    have HSS := Lib.hid HS
    clear HS HNW
    go_wp2_with fail
    refine HSS.out.mono ?_
    rintro e w3 ⟨rfl, hd, hg⟩
    have HR3 := Lib.hid hd
    have HV3 := Lib.hid (HV2.out.grown hg (by omega))
    have HZ3 := Lib.hid (HZ2.out.grown hg (by omega))
    have HG3 := Lib.hid (grown_trans HG2.out hg)
    clear hd hg HSS HR2 HV2 HZ2 HG2
    have x0 := HV3.out.cell 0
    have x1 := HV3.out.cell 1
    have x2 := HV3.out.cell 2
    have y2 := HV3.out.free 2
    simp at x0 x1 x2
    obtain ⟨W, hW⟩ : ∃ W, W = w3.setCell ⟨w1.heap.size, 2, none⟩ (.string s) := ⟨_, rfl⟩
    have HRW : Hid (Rdr W g [] 0) := rdr_nil HR3.out fun t cs h => by rw [hW]; exact h.far (by simp; omega) _
    have HV2 : Hid (Has W w1.heap.size 23 #[.int .i64 4, .int .i64 0, .string s]) := by rw [hW]; exact HV3.out.put 2 _
    have HZ2 : Hid (Has W w.heap.size 23 #[.int .i64 0, .int .i64 0, .string ⟨#[]⟩]) := by rw [hW]; exact HZ3.out.far (by simp; omega) _
    have HBW : Hid (w.grownBy W (some g)) := by rw [hW]; exact grown_set2 HG3.out (by simp; omega) _
    have HE := Lib.hid (Errno_get g [] 0 W HRW.out)
    have HR2 := HRW
    go_wp2_with fail
    rw [← hW]
    clear x0 x1 x2 y2 HR3 HV3 HZ3 HG3 hW
    refine HE.out.mono ?_
    rintro e w4 ⟨rfl, rfl⟩
    have c0 := HV2.out.cell 0
    have c1 := HV2.out.cell 1
    have c2 := HV2.out.cell 2
    simp at c0 c1 c2
    go_wp2_with fail
    refine (may_any 4 0 s W (by omega) (tabs_grown HT.out HRS.out HBW.out)).mono ?_
    rintro e w5 ⟨rfl, hb5⟩
    rw [HM.out]
    have HZ5 := Lib.hid (HZ2.out.below hb5.out HZ2.out.lt)
    have HV5 := Lib.hid (HV2.out.below hb5.out HV2.out.lt)
    have HG5 := Lib.hid (grown_below HBW.out hb5.out)
    have HR5 : Hid (Rdr w5 g [] 0) := HR2.out.below hb5.out
    clear hb5 HE c0 c1 c2
    have c0 := HV5.out.cell 0
    have c1 := HV5.out.cell 1
    have c2 := HV5.out.cell 2
    have z0 := HZ5.out.cell 0
    have z1 := HZ5.out.cell 1
    have z2 := HZ5.out.cell 2
    have e0 := HZ5.out.free 0
    have e1 := HZ5.out.free 1
    have e2 := HZ5.out.free 2
    simp at c0 c1 c2 z0 z1 z2
    have HP := Lib.hid (((HZ5.out.put 0 (.int .i64 4)).put 1 (.int .i64 0)).put 2 (.string s))
    go_wp2_with fail
    exact bodyPost_ret (readEnd _ w.heap.size _ _ _ _ rfl HP.out) rfl ⟨rfl, rdr_nil HR5.out fun t cs h => ((h.far (by simp; omega) _).far (by simp; omega) _).far (by simp; omega) _, grown_set2 (grown_set2 (grown_set2 HG5.out (by simp) _) (by simp) _) (by simp) _⟩
theorem wr_pos (k m : Int) (s : ByteArray) : wrV k m s ≠ [] := by
  unfold wrV
  repeat' split
  all_goals simp
theorem wr_len (k m : Int) (s : ByteArray) (hs : s.size ≤ 200) (h0 : -9223372036854775808 ≤ m) (h1 : m ≤ 9223372036854775807) : (wrV k m s).length ≤ 300 := by
  have hdg := digs_le_ten (zig m) (zig_lt m h0 h1)
  have htx := txt_le s hs
  unfold wrV
  repeat' split
  all_goals simp <;> omega
/-- A row of the call's own, its length under a letter. -/
theorem own_open {B : Nat} {w : World} {v : Value} {l : List Nat} (h : Own B w v l) : ∃ A n c, v = .slice A n c ∧ Hid (l.length = n) ∧ n ≤ c ∧ c ≤ maxLen ∧ Hid (Rd w A l) := by
  obtain ⟨A, c, e, h1, h2⟩ := own_full h
  refine ⟨A, l.length, c, e, rfl, h1, ?_, h2⟩
  rcases h.2 with ⟨hv, hn⟩ | ⟨g, cap, cur, hv, _, hh, hc, hcm, _⟩
  · rw [hv] at e; injection e with _ _ e3; rw [← e3]; exact Nat.zero_le _
  · rw [hv] at e; injection e with _ _ e3; rw [← e3]; exact hcm
end Go.Proofs.YtlkhijccjjpbbaaDoor
