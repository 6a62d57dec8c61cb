/-
  The document's disk: a new one, deeds armed, a file's bytes.
-/
import Derived.Test.YtoooainecoappaaRl
namespace Go.Proofs.Ytoooainecoappaa
open Go.RowKit Go.Maps Go.WideShapes
theorem rnew_at (w : World) (room : Nat) : RIn w.heap.size (w.alloc (.cells #[.int .i64 room, .slice none 0 0, .int .i64 (-1), .bool false] 67)) (newD room) (.slice none 0 0) (-1) :=
  ⟨Has.new w _ _, World.ownsRow_nil _ _ _ _, .inr (.inl rfl), by omega, fun g hg => by simp [Value.ownBlock] at hg⟩
set_option maxHeartbeats 2000000 in
set_option maxRecDepth 100000 in
theorem rnewP_any (w : World) (room : Nat) :
    Calls Try.prog 11 #[.int .i64 room] w fun e w' => e = .returned (.pointer (some ⟨w.heap.size, 0, none⟩)) ∧ Hid (RIn w.heap.size w' (newD room) (.slice none 0 0) (-1)) ∧ Hid (Below w.heap.size w w') := by
  have HI := Lib.hid (rnew_at w room)
  have HB := Lib.hid ((Below.refl w.heap.size w).alloc (Nat.le_refl _) (.cells #[.int .i64 room, .slice none 0 0, .int .i64 (-1), .bool false] 67))
  have hp : (0 : Int) ≤ (room : Int) := by omega
  go_enter Try.func11, Try.ntmps11
  go_wp2_with fail
  go_ret
  exact ⟨rfl, HI, HB⟩
set_option maxHeartbeats 2000000 in
set_option maxRecDepth 100000 in
theorem rnewN_any (w : World) (room : Int) (hr : room < 0) :
    Calls Try.prog 11 #[.int .i64 room] w fun e w' => e = .returned (.pointer (some ⟨w.heap.size, 0, none⟩)) ∧ Hid (RIn w.heap.size w' (newD 0) (.slice none 0 0) (-1)) ∧ Hid (Below w.heap.size w w') := by
  have HI : Hid (RIn w.heap.size (w.alloc (.cells #[.int .i64 0, .slice none 0 0, .int .i64 (-1), .bool false] 67)) (newD 0) (.slice none 0 0) (-1)) := rnew_at w 0
  have HB := Lib.hid ((Below.refl w.heap.size w).alloc (Nat.le_refl _) (.cells #[.int .i64 0, .slice none 0 0, .int .i64 (-1), .bool false] 67))
  have hm : Hid (max room 0 = 0) := by show _ = _; omega
  go_enter Try.func11, Try.ntmps11
  go_wp2_with fail
  go_ret
  rw [hm.out]
  exact ⟨rfl, HI, HB⟩
section
variable {r : Nat} {w : World} {S : Ds} {v : Value} {ra : Int}
set_option maxHeartbeats 2000000 in
set_option maxRecDepth 100000 in
theorem rarm_any (h : RIn r w S v ra) (n : Int) (hn : -9223372036854775808 ≤ n ∧ n ≤ 9223372036854775807) :
    Calls Try.prog 36 #[.pointer (some ⟨r, 0, none⟩), .int .i64 n] w fun e w' => e = .returned (.tuple #[]) ∧ Hid (∃ rb, RIn r w' { S with armed := n } v rb) ∧ Hid (Tur [r] w w') ∧ w'.heap.size = w.heap.size := by
  have t2 := h.top.cell 2
  have f2 := h.top.free 2
  have HI : Hid (∃ rb, RIn r (w.setCell ⟨r, 2, none⟩ (.int .i64 (max n (-1)))) { S with armed := n } v rb) := ⟨_, h.tops n (max n (-1)) S.down (h.top.put 2 _) (fun b hb => Below.heap_setCell _ ⟨r, 2, none⟩ _ _ hb) (by omega) (by omega)⟩
  have HT : Hid (Tur [r] w (w.setCell ⟨r, 2, none⟩ (.int .i64 (max n (-1))))) := Tur.setCell w (p := ⟨r, 2, none⟩) (by simp) _
  clear h
  go_enter Try.func36, Try.ntmps36
  go_wp2_with fail
  go_end0
  exact ⟨rfl, HI, HT, by simp [World.setCell]⟩
theorem has_at {S : Ds} {nm : List UInt8} (h : hasP nm S.fs = true) : ∃ (j : Nat) (x : Pf), S.fs[j]? = some x ∧ x.nm = nm := by
  obtain ⟨x, hx, hn⟩ := List.any_eq_true.1 h
  obtain ⟨j, hj⟩ := List.getElem?_of_mem hx
  exact ⟨j, x, hj, by simpa using hn⟩
theorem fileD_at {S : Ds} (hg : Good S) {s : ByteArray} {j : Nat} {x : Pf} (hj : S.fs[j]? = some x) (hx : x.nm = nmO s) : fileD S s = x := by
  unfold fileD getP
  have hm : x ∈ S.fs := List.mem_of_getElem? hj
  cases hc : S.fs.find? (fun f => f.nm == nmO s) with
  | none =>
    have := List.find?_eq_none.1 hc x hm
    simp [hx] at this
  | some y =>
    have h1 : y.nm = nmO s := by simpa using List.find?_some hc
    obtain ⟨i, hi⟩ := List.getElem?_of_mem (List.mem_of_find?_eq_some hc)
    have := hg.one hi hj (by rw [h1, hx])
    subst this
    rw [hi] at hj
    simpa using hj
set_option maxHeartbeats 2000000 in
set_option maxRecDepth 100000 in
theorem rread_any (h : RIn r w S v ra) (hg : Good S) (hl : S.fs.length ≤ 100000) (s : ByteArray) (hs : s.size ≤ 140737488355328) :
    Calls Try.prog 40 #[.pointer (some ⟨r, 0, none⟩), .string s] w fun e w' => ∃ k : Nat, e = .returned (.tuple #[.string (bs (readD S s).1), .int .i64 k]) ∧ Hid (k = (readD S s).2) ∧ Hid (Below w.heap.size w w') := by
  have t3 := h.top.cell 3
  have H := Lib.hid h
  have HC : Hid ((readD S s) = if errs S s [] = 0 then ((fileD S s).l, 0) else ([], errs S s [])) := rfl
  have HB := Lib.hid (Below.refl w.heap.size w)
  by_cases hd : S.down = true
  · have he : errs S s [] = 12 := by unfold errs; rw [if_pos hd]
    have HV : Hid (readD S s = ([], 12)) := by show _ = _; rw [HC.out, he]; rfl
    rw [hd] at t3
    clear h he HC
    go_enter Try.func40, Try.ntmps40
    go_wp2_with fail
    refine (named_any s w hs).mono ?_
    rintro e w1 ⟨rfl, rfl⟩
    go_wp2_with fail
    go_ret2
    rw [HV.out]
    exact ⟨12, rfl, rfl, HB⟩
  have hd' : S.down = false := by simpa using hd
  rw [hd'] at t3
  cases hf : fileF s with
  | false =>
    have he : errs S s [] = 6 := by unfold errs; rw [hd']; simp [hf]
    have HV : Hid (readD S s = ([], 6)) := by show _ = _; rw [HC.out, he]; rfl
    have HNM := Lib.hid (named_any s w hs)
    rw [hf] at HNM
    clear h he HC
    go_enter Try.func40, Try.ntmps40
    go_wp2_with fail
    refine HNM.out.mono ?_
    rintro e w1 ⟨rfl, rfl⟩
    go_wp2_with fail
    go_ret2
    rw [HV.out]
    exact ⟨6, rfl, rfl, HB⟩
  | true =>
    have HNM := Lib.hid (named_any s w hs)
    rw [hf] at HNM
    cases hh : hasP (nmO s) S.fs with
    | false =>
      have he : errs S s [] = 7 := by unfold errs; rw [hd']; simp [hf, hh]
      have HV : Hid (readD S s = ([], 7)) := by show _ = _; rw [HC.out, he]; rfl
      have HAT := Lib.hid (at_no h s hh hl)
      clear h he HC
      go_enter Try.func40, Try.ntmps40
      go_wp2_with fail
      refine HNM.out.mono ?_
      rintro e w1 ⟨rfl, rfl⟩
      go_wp2_with fail
      refine HAT.out.mono ?_
      rintro e w2 ⟨rfl, rfl⟩
      go_wp2_with fail
      go_ret2
      rw [HV.out]
      exact ⟨7, rfl, rfl, HB⟩
    | true =>
      obtain ⟨j, x, hj, hx⟩ := has_at hh
      have he : errs S s [] = 0 := by unfold errs; rw [hd']; simp [hf, hh]
      have HV : Hid (readD S s = (x.l, 0)) := by show _ = _; rw [HC.out, he, fileD_at hg hj hx]; rfl
      have HAT := Lib.hid (at_yes h hg s j x hj hx hl)
      obtain ⟨A, c, rfl, _, _, _, _, hrow⟩ := h.row
      obtain ⟨g, rfl, c0, c1, c2, _⟩ := hrow j x hj
      have t1 := h.top.cell 1
      have hjl := (List.getElem?_eq_some_iff.1 hj).1
      have hkp := (hg.kept x (List.mem_of_getElem? hj)).1
      have hlx := hg.len (List.mem_of_getElem? hj)
      have hroom := hg.room
      have hcat : bs (x.l.take x.k) ++ bs (x.l.drop x.k) = bs x.l := by rw [← bs_append, List.take_append_drop]
      have s1 : (bs (x.l.take x.k)).size ≤ 1000 := by rw [bs_size, List.length_take]; omega
      have s2 : (bs (x.l.drop x.k)).size ≤ 1000 := by rw [bs_size, List.length_drop]; omega
      obtain ⟨n, hn⟩ : ∃ n, S.fs.length = n := ⟨_, rfl⟩
      rw [hn] at t1 hjl
      clear h he HC hrow c0 hkp hlx hroom hg hj hx hn
      generalize bs (x.l.take x.k) = sa at *
      generalize bs (x.l.drop x.k) = sb2 at *
      have i1 : (j : Int) < (n : Int) := by omega
      have HBD := Lib.hid (fun q => below_drewN HB.out q)
      go_enter Try.func40, Try.ntmps40
      go_wp2_with fail
      refine HNM.out.mono ?_
      rintro e w1 ⟨rfl, rfl⟩
      go_wp2_with fail
      refine HAT.out.mono ?_
      rintro e w2 ⟨rfl, rfl⟩
      go_wp2_with fail
      go_quiet (fail)
      go_wp2_with fail
      go_ret2
      rw [HV.out]
      exact ⟨0, rfl, rfl, HBD.out _⟩
end
end Go.Proofs.Ytoooainecoappaa
