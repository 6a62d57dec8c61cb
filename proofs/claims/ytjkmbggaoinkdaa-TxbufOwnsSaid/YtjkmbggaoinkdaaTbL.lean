/-
  The document's example, and an event whose number is not below 0.
-/
import Derived.Test.YtjkmbggaoinkdaaTbH
import Derived.RegionTactic
namespace Go.Proofs.Ytjkmbggaoinkdaa
open Go.RowKit Go.Maps Dg
set_option maxRecDepth 100000
set_option linter.unusedVariables false
/-- An event without rows. -/
def er0 (k n : Int) (t : ByteArray) (ck : Int) (ct : ByteArray) : Er := ⟨⟨k, n, t, [], [], ck, ct, [], 0, ⟨⟨#[]⟩, 0, false⟩⟩, none, 0, 0, none, 0, 0, none, 0, 0⟩
theorem er0_ok (k n : Int) (t : ByteArray) (ck : Int) (ct : ByteArray) (w : World) : (er0 k n t ck ct).ok w :=
  ⟨⟨rfl, Nat.zero_le _, fun h => absurd rfl h, fun _ => rfl⟩, ⟨rfl, Nat.zero_le _, fun h => absurd rfl h, fun _ => rfl⟩, ⟨rfl, Nat.zero_le _, fun h => absurd rfl h, fun _ => rfl⟩⟩

set_option maxHeartbeats 2000000 in
theorem put_is {b : Nat} {w : World} {lim num : Int} {E : List Ev} {F : List Nat} (h : BufAt b w lim num E F) (hl : 1 ≤ lim) (r : Er) (hr : r.ok w) (hfew : E.length ≤ 1000000) {num' : Int} {E' L : List Ev} {s : Bool} {er : Int} (ho : putF lim num E r.x = (num', E', L, s, er)) :
    Calls Try.prog 12 #[.pointer (some ⟨b, 0, none⟩), r.val] w fun e w' => ∃ tv F', e = .returned (.tuple #[tv, .bool s, .int .i64 er]) ∧ Hid (Told w' tv L F) ∧ Hid (BufAt b w' lim num' E' F') ∧ Hid (Tur F w w') ∧ Hid (Fre F F' w) := by
  refine (put_any h hl r hr hfew).mono ?_
  rintro e w' ⟨tv, F', h1, h2⟩
  rw [ho] at h1 h2
  exact ⟨tv, F', h1, h2⟩
/-- Told events, opened. -/
theorem told_one {w : World} {tv : Value} {x : Ev} {F : List Nat} (h : Told w tv [x] F) : ∃ b off c, tv = .slice (some ⟨b, off, none⟩) 1 c ∧ w.cell? ⟨b, off, none⟩ = some (.int .i64 x.k) ∧ w.cell? ⟨b, off + 2, none⟩ = some (.string x.t) ∧ w.cell? ⟨b, off + 1, none⟩ = some (.int .i64 x.n) := by
  obtain ⟨A, n, c, T, rfl, hn, hr, hm, hx⟩ := h
  clear hx
  have hl : T.length = 1 := by
    have := congrArg List.length hm
    simpa using this
  obtain ⟨r, rfl⟩ := List.length_eq_one_iff.1 hl
  have e : r.x = x := by simpa using hm
  obtain ⟨b, off, rfl, hc⟩ := hr (by simp)
  obtain rfl : n = 1 := by rw [← hn]; rfl
  have q0 := hc 0 (by simp) 0 (by omega)
  have q1 := hc 0 (by simp) 1 (by omega)
  have q2 := hc 0 (by simp) 2 (by omega)
  simp [Er.row] at q0 q1 q2
  subst e
  exact ⟨b, off, c, rfl, q0, q2, q1⟩
set_option maxHeartbeats 4000000 in
theorem lives_any (w : World) : Calls Try.prog 18 #[] w fun e w' => e = .returned (.bool true) ∧ Hid (Below w.heap.size w w') := by
  have HN := Lib.hid (new_any 5 w)
  rw [show max (5 : Int) 1 = 5 by decide] at HN
  have HB0 := Lib.hid (buf_new w 5)
  have HL0 := Lib.hid ((Below.refl w.heap.size w).alloc (Nat.le_refl _) (.cells #[.int .i64 5, .int .i64 (-1), .slice none 0 0] 55))
  obtain ⟨w0, hw0⟩ : ∃ W, W = w.alloc (.cells #[.int .i64 5, .int .i64 (-1), .slice none 0 0] 55) := ⟨_, rfl⟩
  rw [← hw0] at HN HB0 HL0
  clear hw0
  have HP1 := Lib.hid (put_is HB0.out (by decide) (er0 2 1 ⟨#[]⟩ 0 ⟨#[]⟩) (er0_ok ..) (by simp) (num' := 1) (E' := []) (L := []) (s := false) (er := 0) (by simp [putF, er0]))
  go_enter Try.func18, Try.ntmps18
  go_wp2_with fail
  refine HN.out.mono ?_
  rintro e w1 ⟨rfl, rfl⟩
  go_wp2_with fail
  refine HP1.out.mono ?_
  rintro e w2 ⟨tv1, F1, rfl, _, h3, h4, h5⟩
  have HL1 : Hid (Below w.heap.size w w2) := HL0.out.trans (h4.out.below (fun k hk => HB0.out.low k hk) HL0.out.size)
  have HP2 := Lib.hid (put_is h3.out (by decide) (er0 5 0 ⟨#[116]⟩ 0 ⟨#[]⟩) (er0_ok ..) (by simp) (num' := 1) (E' := [(er0 5 0 ⟨#[116]⟩ 0 ⟨#[]⟩).x]) (L := []) (s := false) (er := 0) (by simp [putF, er0]))
  clear HP1 HN h4 h5
  go_wp2_with fail
  refine HP2.out.mono ?_
  rintro e w3 ⟨tv2, F2, rfl, _, g3, g4, g5⟩
  have HL2 : Hid (Below w.heap.size w w3) := HL1.out.trans (g4.out.below (fun k hk => h3.out.low k hk) HL1.out.size)
  have HP3 := Lib.hid (put_is g3.out (by decide) (er0 7 1 ⟨#[]⟩ 0 ⟨#[]⟩) (er0_ok ..) (by simp) (num' := -1) (E' := []) (L := [(er0 5 0 ⟨#[116]⟩ 0 ⟨#[]⟩).x]) (s := true) (er := 0) (by simp [putF, er0]))
  clear HP2 h3 g4 g5
  go_wp2_with fail
  refine HP3.out.mono ?_
  rintro e w4 ⟨tv3, F3, rfl, k2, k3, k4, k5⟩
  have HL3 : Hid (Below w.heap.size w w4) := HL2.out.trans (k4.out.below (fun k hk => g3.out.low k hk) HL2.out.size)
  obtain ⟨b5, off, c5, rfl, c0, c2, c1⟩ := told_one k2.out
  have HO := Lib.hid (open_any k3.out)
  clear HP3 g3 k4 k5 k2 HL0 HL1 HL2 c1
  simp only [er0] at c0 c2
  go_wp2_with fail
  refine HO.out.mono ?_
  rintro e w5 ⟨rfl, rfl⟩
  go_wp2_with fail
  go_ret
  exact ⟨by rfl, HL3⟩
end Go.Proofs.Ytjkmbggaoinkdaa
