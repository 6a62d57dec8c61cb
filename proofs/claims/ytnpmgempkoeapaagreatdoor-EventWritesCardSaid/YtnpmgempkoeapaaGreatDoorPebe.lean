/-
  Put together, as far as it is used: Mb.
-/
import Derived.Test.YtnpmgempkoeapaaGreatDoorPeal
import Derived.Test.YtnpmgempkoeapaaGreatDoorPeak
set_option linter.unusedVariables false
set_option linter.unusedSimpArgs false
set_option linter.defProp false
namespace Go.Proofs.YtnpmgempkoeapaaGreatDoor
open Go.RowKit Go.Maps Dg
set_option maxRecDepth 100000
set_option maxHeartbeats 400000 in
theorem NumberD_get {D : Nat} (g : Nat) (l : List Nat) (e : Nat) (w : World) (h : RdrD D w g l e) (hl : ∀ x ∈ l, x < 256) (hb : l.length ≤ 1000000) :
 Calls Tryz.prog 97 #[.pointer (some ⟨g, 0, none⟩)] w (StepD D w g (.int .i64 ((numF 9223372036854775807 l e).1 : Int)) (numF 9223372036854775807 l e).2.1 (numF 9223372036854775807 l e).2.2) := by
 have hc := numberD_any g l e w 9223372036854775807 h hl hb
 have hle := numF_le 9223372036854775807 l e
 generalize numF 9223372036854775807 l e = R at *
 obtain ⟨r1, r2, r3⟩ := R
 simp only at hle hc ⊢
 have HC := Lib.hid hc
 clear hc h
 go_enter Tryz.func97, Tryz.ntmps97
 go_wp2_with fail
 refine HC.out.mono ?_
 rintro x w1 ⟨rfl, hd, hg⟩
 have HD := Lib.hid hd
 have HG := Lib.hid hg
 clear hd hg
 go_wp2_with fail
 go_ret
 exact ⟨rfl, HD.out, HG.out⟩
theorem numD_put {D : Nat} (g n : Nat) (rest : List Nat) (w : World) (h : RdrD D w g (digs n ++ rest) 0) (hn : n ≤ 9223372036854775807) (hl : ∀ x ∈ digs n ++ rest, x < 256) (hb : (digs n ++ rest).length ≤ 1000000) :
 Calls Tryz.prog 97 #[.pointer (some ⟨g, 0, none⟩)] w fun x w' => x = .returned (.int .i64 (n : Int)) ∧ Hid (RdrD D w' g rest 0) ∧ Hid (w.grownBy w' (some g)) := by
 refine (NumberD_get g _ 0 w h hl hb).mono ?_
 rintro x w' ⟨rfl, h1, h2⟩
 rw [numF_whole 9223372036854775807 n rest (by omega) hn] at h1 ⊢
 exact ⟨rfl, h1, h2⟩
theorem textF_gen (most : Int) (s : ByteArray) (hs : s.size ≤ 900) (hm : (s.size : Int) ≤ most) (rest : List Nat) : textF most (ytxt s ++ rest) 0 = (sb s, rest, 0) := by
 have hn : s.size < 18446744073709551616 := by omega
 unfold textF ytxt
 rw [if_neg (by simp), List.append_assoc, head_whole _ s.size _ hn (by omega)]
 simp only
 rw [if_neg (by simp), if_neg (by omega), if_neg]
 ·have h1 : (digs s.size ++ (sb s ++ rest)).drop (digs s.size).length = sb s ++ rest := List.drop_left
  rw [← List.drop_drop, h1]
  have h2 : (sb s ++ rest).take s.size = sb s := by rw [← sb_length s]; exact List.take_left
  have h3 : (sb s ++ rest).drop s.size = rest := by rw [← sb_length s]; exact List.drop_left
  rw [h2, h3]
 ·rw [List.length_append, List.length_append, sb_length]
  omega
theorem txtD_put {D : Nat} (g : Nat) (most : Int) (s : ByteArray) (rest : List Nat) (w : World) (h : RdrD D w g (ytxt s ++ rest) 0) (hs : s.size ≤ 900) (hm : (s.size : Int) ≤ most) (hl : ∀ x ∈ ytxt s ++ rest, x < 256) (hb : (ytxt s ++ rest).length ≤ 1000000) :
 Calls Tryz.prog 102 #[.pointer (some ⟨g, 0, none⟩), .int .i64 most] w fun x w' => x = .returned (.string s) ∧ Hid (RdrD D w' g rest 0) ∧ Hid (w.grownBy w' (some g)) := by
 refine (TextD_get g _ 0 w most h hl hb).mono ?_
 rintro x w' ⟨rfl, h1, h2⟩
 rw [textF_gen most s hs hm rest] at h1 ⊢
 exact ⟨by rw [bs_sb], h1, h2⟩
theorem byteD_put {D : Nat} (g y : Nat) (rest : List Nat) (w : World) (h : RdrD D w g (y :: rest) 0) (hl : ∀ x ∈ y :: rest, x < 256) (hb : (y :: rest).length ≤ 1000000) :
 Calls Tryz.prog 36 #[.pointer (some ⟨g, 0, none⟩)] w fun x w' => x = .returned (.int .i64 (y : Int)) ∧ Hid (RdrD D w' g rest 0) ∧ Hid (w.grownBy w' (some g)) := by
 refine (ByteD_get g _ 0 w h hl hb).mono ?_
 rintro x w' ⟨rfl, h1, h2⟩
 exact ⟨rfl, h1, h2⟩
theorem Has.grn {w w' : World} {g g' : Nat} {t : TypeId} {cs : Array Value} (h : Has w g' t cs) (hg : w.grownBy w' (some g)) (hne : g' ≠ g) : Has w' g' t cs :=
 (hg.block g' h.lt (fun e => hne (Option.some.inj e))).trans h
theorem grn_set {w x : World} {g : Nat} (h : w.grownBy x (some g)) {p : Addr} (hp : w.heap.size ≤ p.block) (u : Value) : w.grownBy (x.setCell p u) (some g) :=
 ⟨h.os, h.tape, h.output, by rw [size_set]; exact h.size, fun b hb hne => by
   have := h.block b hb hne
   rw [← this]
   exact (Below.heap_setCell x p u b (by omega))⟩
theorem grn_below {w x y : World} {g : Nat} (h : w.grownBy x (some g)) (hb : Below x.heap.size x y) : w.grownBy y (some g) :=
 ⟨hb.os.trans h.os, hb.tape.trans h.tape, hb.output.trans h.output, Nat.le_trans h.size hb.size, fun b hlt hne => (hb.block b (Nat.lt_of_lt_of_le hlt h.size)).trans (h.block b hlt hne)⟩
end Go.Proofs.YtnpmgempkoeapaaGreatDoor
