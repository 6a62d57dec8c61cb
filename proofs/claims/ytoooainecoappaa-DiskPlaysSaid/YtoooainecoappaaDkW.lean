/-
  A disk as the laws hold it: New, Arm, Down; each call with what it leaves; the law's example.
-/
import Derived.Test.YtoooainecoappaaDkV
import Derived.Test.YtoooainecoappaaDkPa
import Derived.Test.YtoooainecoappaaDkPd
import Derived.Test.YtoooainecoappaaDkPr
import Derived.Test.YtoooainecoappaaDkPn
import Derived.RegionTactic
namespace Go.Proofs.Ytoooainecoappaa
open Go.RowKit Go.Maps Go.WideShapes Go.WideMaps
/-- A disk whose blocks lie from B on. -/
def DK (B d : Nat) (w : World) (S : Ds) : Prop := ∃ X, DAt B d w S X ∧ B ≤ w.heap.size
section
variable {B d : Nat} {w w' : World} {S : Ds}
theorem DK.below (h : DK B d w S) (hb : Below w.heap.size w w') : DK B d w' S := by
  obtain ⟨X, h, hB⟩ := h
  exact ⟨X, h.below hb, Nat.le_trans hB hb.size⟩
theorem DK.alloc (h : DK B d w S) (o : Obj) : DK B d (w.alloc o) S := h.below ((Below.refl _ _).alloc (Nat.le_refl _) _)
theorem DK.size (h : DK B d w S) : B ≤ w.heap.size := h.choose_spec.2
theorem Out.dk {X : List Nat} {S' : Ds} (h : DAt B d w S X) (hB : B ≤ w.heap.size) (ho : Out B d X w S' w') : DK B d w' S' ∧ Below B w w' := by
  have hb := ho.below h.ge hB
  obtain ⟨X', h1, _, _⟩ := ho
  exact ⟨⟨X', h1, Nat.le_trans hB hb.size⟩, hb⟩
theorem DK.down_cell (h : DK B d w S) : w.cell? ⟨d, 3, none⟩ = some (.bool S.down) := by
  obtain ⟨X, ⟨m, gs, rfl, h⟩, _⟩ := h
  exact h.top.cell 3
theorem create_dk (h : DK B d w S) (s : ByteArray) (hs : s.size ≤ 140737488355328) (hlen : S.fs.length ≤ 100000) :
    Calls Try.prog 29 #[.pointer (some ⟨d, 0, none⟩), .string s] w fun e w' => ∃ k : Nat, e = .returned (.int .i64 k) ∧ Hid (k = (createD S s).2) ∧ Hid (DK B d w' (createD S s).1) ∧ Hid (Below B w w') := by
  obtain ⟨X, h, hB⟩ := h
  exact (create_any B d w S X h hB s hs hlen).mono fun e w' ⟨k, he, hk, ho⟩ => ⟨k, he, hk, (Out.dk h hB ho.out).1, (Out.dk h hB ho.out).2⟩
theorem remove_dk (h : DK B d w S) (s : ByteArray) (hs : s.size ≤ 140737488355328) :
    Calls Try.prog 34 #[.pointer (some ⟨d, 0, none⟩), .string s] w fun e w' => ∃ k : Nat, e = .returned (.int .i64 k) ∧ Hid (k = (removeD S s).2) ∧ Hid (DK B d w' (removeD S s).1) ∧ Hid (Below B w w') := by
  obtain ⟨X, h, hB⟩ := h
  exact (remove_any B d w S X h s hs).mono fun e w' ⟨k, he, hk, ho⟩ => ⟨k, he, hk, (Out.dk h hB ho.out).1, (Out.dk h hB ho.out).2⟩
theorem sync_dk (h : DK B d w S) (s : ByteArray) (hs : s.size ≤ 140737488355328) :
    Calls Try.prog 32 #[.pointer (some ⟨d, 0, none⟩), .string s] w fun e w' => ∃ k : Nat, e = .returned (.int .i64 k) ∧ Hid (k = (syncD S s).2) ∧ Hid (DK B d w' (syncD S s).1) ∧ Hid (Below B w w') := by
  obtain ⟨X, h, hB⟩ := h
  exact (sync_any B d w S X h hB s hs).mono fun e w' ⟨k, he, hk, ho⟩ => ⟨k, he, hk, (Out.dk h hB ho.out).1, (Out.dk h hB ho.out).2⟩
theorem rename_dk (h : DK B d w S) (s t : ByteArray) (hs : s.size ≤ 140737488355328) (ht : t.size ≤ 140737488355328) (hlen : S.fs.length ≤ 100000) :
    Calls Try.prog 33 #[.pointer (some ⟨d, 0, none⟩), .string s, .string t] w fun e w' => ∃ k : Nat, e = .returned (.int .i64 k) ∧ Hid (k = (renameD S s t).2) ∧ Hid (DK B d w' (renameD S s t).1) ∧ Hid (Below B w w') := by
  obtain ⟨X, h, hB⟩ := h
  exact (rename_any B d w S X h s t hs ht hlen).mono fun e w' ⟨k, he, hk, ho⟩ => ⟨k, he, hk, (Out.dk h hB ho.out).1, (Out.dk h hB ho.out).2⟩
theorem append_dk (h : DK B d w S) (s : ByteArray) (hs : s.size ≤ 140737488355328) (A : Option Addr) (b : List Nat) (n c : Nat) (hn : b.length = n) (hm : Rd w A b) (hA : A = none → c = 0) (hb : ∀ x ∈ b, x < 256) :
    Calls Try.prog 31 #[.pointer (some ⟨d, 0, none⟩), .string s, .slice A n c] w fun e w' => ∃ k : Nat, e = .returned (.int .i64 k) ∧ Hid (k = (appendD S s b).2) ∧ Hid (DK B d w' (appendD S s b).1) ∧ Hid (Below B w w') := by
  obtain ⟨X, h, hB⟩ := h
  exact (append_any B d w S X h hB s hs A b n c hn hm hA hb).mono fun e w' ⟨k, he, hk, ho⟩ => ⟨k, he, hk, (Out.dk h hB ho.out).1, (Out.dk h hB ho.out).2⟩
theorem read_dk (h : DK B d w S) (s : ByteArray) (hs : s.size ≤ 140737488355328) :
    Calls Try.prog 39 #[.pointer (some ⟨d, 0, none⟩), .string s] w fun e w' => ∃ (A : Option Addr) (n c k : Nat), e = .returned (.tuple #[.slice A n c, .int .i64 k]) ∧ Hid (k = (readD S s).2) ∧ Hid ((readD S s).1.length = n) ∧
      Hid (Own w.heap.size w' (.slice A n c) (readD S s).1 ∧ ∀ x ∈ (readD S s).1, x < 256) ∧ Hid (Rd w' A (readD S s).1) ∧ Hid (Below w.heap.size w w') := by
  obtain ⟨X, h, hB⟩ := h
  refine (read_any B d w S X h s hs).mono fun e w' ⟨v, k, he, hk, ho, hb⟩ => ?_
  obtain ⟨A, c, rfl, _, _, hr, _⟩ := own_full ho.out.1
  exact ⟨A, _, c, k, he, hk, rfl, ho, hr, hb⟩
theorem free_dk (h : DK B d w S) : Calls Try.prog 43 #[.pointer (some ⟨d, 0, none⟩)] w fun e w' => e = .returned (.int .i64 (freeD S)) ∧ Hid (Below w.heap.size w w') := by
  obtain ⟨X, h, hB⟩ := h
  exact free_any B d w S X h
theorem list_dk (h : DK B d w S) (hlen : S.fs.length ≤ 100000) :
    Calls Try.prog 41 #[.pointer (some ⟨d, 0, none⟩)] w fun e w' => ∃ A n c, e = .returned (.slice A n c) ∧ Hid (n = (listD S).length) ∧
      Hid (w'.ownsRow w.heap.size 9 1 (.slice A n c) n ((listD S).map encStr)) ∧ Hid (Below w.heap.size w w') := by
  obtain ⟨X, h, hB⟩ := h
  exact list_any B d w S X h hlen
theorem up_dk (h : DK B d w S) (hlen : S.fs.length ≤ 100000) (A : Option Addr) (keep : List Int) (nk c : Nat) (hnk : keep.length = nk) (hnk2 : nk ≤ 140737488355328) (hI : Ints w A keep) (hX : keep ≠ [] → ∀ a, A = some a → a.block < B)
    (hr : ∀ x ∈ keep, -9223372036854775808 ≤ x ∧ x ≤ 9223372036854775807) :
    Calls Try.prog 37 #[.pointer (some ⟨d, 0, none⟩), .slice A nk c] w fun e w' => e = .returned (.tuple #[]) ∧ Hid (DK B d w' (upD S keep)) ∧ Hid (Below B w w') := by
  obtain ⟨X, h, hB⟩ := h
  exact (up_any B d w S X h hB hlen A keep nk c hnk hnk2 hI (fun he a ha hx => by have h1 := hX he a ha; have h2 := h.ge _ hx; omega) hr).mono fun e w' ⟨he, ho⟩ => ⟨he, (Out.dk h hB ho.out).1, (Out.dk h hB ho.out).2⟩
/-- Up, with one number that lies in a new row. -/
theorem up1_dk (h : DK B d w S) (hlen : S.fs.length ≤ 100000) (x : Int) (hx : -9223372036854775808 ≤ x ∧ x ≤ 9223372036854775807) :
    Calls Try.prog 37 #[.pointer (some ⟨d, 0, none⟩), .slice (some ⟨w.heap.size, 0, none⟩) 1 1] (w.alloc (.cells #[.int .i64 x] 3)) fun e w' => e = .returned (.tuple #[]) ∧ Hid (DK B d w' (upD S [x])) ∧ Hid (Below B w w') := by
  obtain ⟨X, h, hB⟩ := h
  have hb1 : Below w.heap.size w (w.alloc (.cells #[.int .i64 x] 3)) := (Below.refl _ _).alloc (Nat.le_refl _) _
  have h1 := h.below hb1
  have hB1 := Nat.le_trans hB hb1.size
  refine (up_any B d _ S X h1 hB1 hlen (some ⟨w.heap.size, 0, none⟩) [x] 1 1 rfl (by omega) (fun _ => ⟨_, 0, rfl, fun i hi => ?_⟩) (fun _ a ha hxx => ?_) (fun y hy => by rw [List.mem_singleton.1 hy]; exact hx)).mono fun e w' ⟨he, ho⟩ => ⟨he, (Out.dk h1 hB1 ho.out).1, (hb1.mono hB).trans (Out.dk h1 hB1 ho.out).2⟩
  · have hi0 : i = 0 := by simpa using hi
    subst hi0
    exact (Has.new w 3 #[.int .i64 x]).cell 0
  · injection ha with ha
    subst ha
    have := h.lt _ hxx
    simp at this
end
set_option maxHeartbeats 2000000 in
set_option maxRecDepth 100000 in
theorem arm_dk {B d : Nat} {w : World} {S : Ds} (h : DK B d w S) (n : Int) (hn : -9223372036854775808 ≤ n ∧ n ≤ 9223372036854775807) :
    Calls Try.prog 35 #[.pointer (some ⟨d, 0, none⟩), .int .i64 n] w fun e w' => e = .returned (.tuple #[]) ∧ Hid (DK B d w' { S with armed := n }) ∧ Hid (Below B w w') := by
  obtain ⟨X, ⟨m, gs, rfl, h⟩, hB⟩ := h
  have d2 := h.top.cell 2
  have f2 := h.top.free 2
  have HD := Lib.hid (h.arms n hn)
  have HT := Lib.hid (Tur.setCell (X := foot d m gs) w (p := ⟨d, 2, none⟩) (by simp [foot]) (.int .i64 n))
  have HG := Lib.hid h.ge
  clear h
  go_enter Try.func35, Try.ntmps35
  go_wp2_with fail
  go_end0
  exact ⟨rfl, ⟨_, ⟨m, gs, rfl, HD.out⟩, by simpa [World.setCell] using hB⟩, HT.out.below HG.out hB⟩
set_option maxHeartbeats 2000000 in
set_option maxRecDepth 100000 in
theorem down_dk {B d : Nat} {w : World} {S : Ds} (h : DK B d w S) :
    Calls Try.prog 42 #[.pointer (some ⟨d, 0, none⟩)] w fun e w' => e = .returned (.bool S.down) ∧ w' = w := by
  have d3 := h.down_cell
  clear h
  go_enter Try.func42, Try.ntmps42
  go_wp2_with fail
  go_ret
  exact ⟨rfl, rfl⟩
/-- A disk that is new. -/
def newD (room : Nat) : Ds := ⟨room, [], -1, false⟩
theorem new_dk (w : World) (room : Nat) (hr : room ≤ 1000) : DAt w.heap.size (w.heap.size + 1) ((w.alloc (.map #[] 0)).alloc (.cells #[.int .i64 room, .map (some w.heap.size), .int .i64 (-1), .bool false] 64)) (newD room) [w.heap.size + 1, w.heap.size] := by
  have e1 : (w.alloc (.map #[] 0)).heap.size = w.heap.size + 1 := by simp
  have ht := Has.new (w.alloc (.map #[] 0)) 64 #[.int .i64 room, .map (some w.heap.size), .int .i64 (-1), .bool false]
  rw [e1] at ht
  refine ⟨w.heap.size, [], rfl, rfl, ht, ?_, List.Pairwise.nil, fun f hf => (by cases hf), (by simp [foot]), (by intro b hb; simp [foot] at hb; omega), Nat.zero_le _, hr, ⟨by show (-9223372036854775808 : Int) ≤ -1; decide, by show (-1 : Int) ≤ 9223372036854775807; decide⟩⟩
  exact (World.ownsMap_made w Try.prog 9 ptrR).alloc _
set_option maxHeartbeats 2000000 in
set_option maxRecDepth 100000 in
theorem newP_any (w : World) (room : Nat) (hr : room ≤ 1000) :
    Calls Try.prog 10 #[.int .i64 room] w fun e w' => e = .returned (.pointer (some ⟨w.heap.size + 1, 0, none⟩)) ∧ Hid (DAt w.heap.size (w.heap.size + 1) w' (newD room) [w.heap.size + 1, w.heap.size]) ∧ Hid (Below w.heap.size w w') := by
  have hmm := @run_makeMap Try.prog
  have HD := Lib.hid (new_dk w room hr)
  have hb : Below w.heap.size w ((w.alloc (.map #[] 0)).alloc (.cells #[.int .i64 room, .map (some w.heap.size), .int .i64 (-1), .bool false] 64)) := ((Below.refl _ _).alloc (Nat.le_refl _) _).alloc (by simp) _
  have HB := Lib.hid hb
  clear hb
  have hp : (0 : Int) ≤ (room : Int) := by omega
  go_enter Try.func10, Try.ntmps10
  go_wp2_with fail
  go_ret
  exact ⟨rfl, HD, HB⟩
set_option maxHeartbeats 2000000 in
set_option maxRecDepth 100000 in
theorem newN_any (w : World) (room : Int) (hr : room < 0) :
    Calls Try.prog 10 #[.int .i64 room] w fun e w' => e = .returned (.pointer (some ⟨w.heap.size + 1, 0, none⟩)) ∧ Hid (DAt w.heap.size (w.heap.size + 1) w' (newD 0) [w.heap.size + 1, w.heap.size]) ∧ Hid (Below w.heap.size w w') := by
  have hmm := @run_makeMap Try.prog
  have HD : Hid (DAt w.heap.size (w.heap.size + 1) ((w.alloc (.map #[] 0)).alloc (.cells #[.int .i64 0, .map (some w.heap.size), .int .i64 (-1), .bool false] 64)) (newD 0) [w.heap.size + 1, w.heap.size]) := new_dk w 0 (by omega)
  have hb : Below w.heap.size w ((w.alloc (.map #[] 0)).alloc (.cells #[.int .i64 0, .map (some w.heap.size), .int .i64 (-1), .bool false] 64)) := ((Below.refl _ _).alloc (Nat.le_refl _) _).alloc (by simp) _
  have HB := Lib.hid hb
  clear hb
  have hm : Hid (max room 0 = 0) := by show _ = _; omega
  go_enter Try.func10, Try.ntmps10
  go_wp2_with fail
  go_ret
  rw [hm.out]
  exact ⟨rfl, HD, HB⟩
end Go.Proofs.Ytoooainecoappaa
