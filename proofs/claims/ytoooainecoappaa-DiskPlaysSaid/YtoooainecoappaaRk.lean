/-
  The document's disk in memory: what lies where; names, places, deeds that are left, room.
-/
import Derived.Test.YtoooainecoappaaDkN
import Derived.Test.YtoooainecoappaaDkW
namespace Go.Proofs.Ytoooainecoappaa
open Go.RowKit Go.Maps Go.WideShapes
/-- A text of a name. -/
def tx (nm : List UInt8) : ByteArray := ⟨nm.toArray⟩
theorem tx_list (nm : List UInt8) : (tx nm).toList = nm := by rw [ByteArray.toList_eq]; rfl
theorem tx_nm (s : ByteArray) : tx (nmO s) = s := rfl
theorem nm_list (s : ByteArray) : s.toList = nmO s := ByteArray.toList_eq s
theorem less_before : ∀ a b : List UInt8, Op.bytesLess a b = bytesBefore a b
  | [], [] => rfl
  | [], _ :: _ => rfl
  | _ :: _, [] => rfl
  | x :: a, y :: b => by
    show (x < y || (x == y && Op.bytesLess a b)) = (x < y || (x == y && bytesBefore a b))
    rw [less_before a b]
/-- A file as the document has it. -/
def rc (f : Pf) : List Value := [.string (tx f.nm), .string (bs (f.l.take f.k)), .string (bs (f.l.drop f.k))]
def rcs (l : List Pf) : List Value := l.flatMap rc
theorem rcs_len : ∀ l : List Pf, (rcs l).length = l.length * 3
  | [] => rfl
  | f :: r => by
    have := rcs_len r
    unfold rcs at this ⊢
    rw [List.flatMap_cons, List.length_append, this, List.length_cons]
    show 3 + _ = _
    omega
theorem rcs_get : ∀ (l : List Pf) (i : Nat) (f : Pf) (j : Nat), l[i]? = some f → j < 3 → (rcs l)[i * 3 + j]? = (rc f)[j]?
  | [], i, f, j, h, _ => by simp at h
  | x :: r, 0, f, j, h, hj => by
    have e : x = f := by simpa using h
    subst e
    unfold rcs
    rw [List.flatMap_cons, Nat.zero_mul, Nat.zero_add, List.getElem?_append_left (by show j < 3; exact hj)]
  | x :: r, i + 1, f, j, h, hj => by
    have ih := rcs_get r i f j (by simpa using h) hj
    unfold rcs at ih ⊢
    rw [List.flatMap_cons, List.getElem?_append_right (by show 3 ≤ _; omega)]
    rw [← ih]
    congr 1
    show (i + 1) * 3 + j - 3 = _
    omega
theorem rcs_append (l m : List Pf) : rcs (l ++ m) = rcs l ++ rcs m := by unfold rcs; rw [List.flatMap_append]
/-- What is true of each disk. -/
structure Good (S : Ds) : Prop where
  rise : S.fs.Pairwise fun a b => bytesBefore a.nm b.nm = true
  kept : ∀ f ∈ S.fs, f.k ≤ f.l.length ∧ ∀ x ∈ f.l, x < 256
  full : tot S.fs ≤ S.room
  room : S.room ≤ 1000
  arm : -9223372036854775808 ≤ S.armed ∧ S.armed ≤ 9223372036854775807
theorem DAt.good {B d : Nat} {w : World} {S : Ds} {X : List Nat} (h : DAt B d w S X) : Good S := by
  obtain ⟨m, gs, rfl, h⟩ := h
  refine ⟨?_, ?_, h.full, h.room, h.arm⟩
  · rw [← h.fs]
    exact List.pairwise_map.2 h.rise
  · rw [← h.fs]
    intro f hf
    obtain ⟨g, hg, rfl⟩ := List.mem_map.1 hf
    exact ⟨(h.files g hg).kept, (h.files g hg).byte⟩
theorem Good.one {S : Ds} (h : Good S) {i j : Nat} {f g : Pf} (hi : S.fs[i]? = some f) (hj : S.fs[j]? = some g) (e : f.nm = g.nm) : i = j := by
  have hp := List.pairwise_iff_getElem.1 h.rise
  obtain ⟨hil, hf⟩ := List.getElem?_eq_some_iff.1 hi
  obtain ⟨hjl, hg⟩ := List.getElem?_eq_some_iff.1 hj
  rcases Nat.lt_trichotomy i j with h1 | h1 | h1
  · have := hp i j hil hjl h1
    rw [hf, hg, e, WideAt.bytes_irrefl] at this; cases this
  · exact h1
  · have := hp j i hjl hil h1
    rw [hf, hg, e, WideAt.bytes_irrefl] at this; cases this
theorem Good.len {S : Ds} (h : Good S) {f : Pf} (hf : f ∈ S.fs) : f.l.length ≤ S.room := by
  have h1 := h.full
  have : f.l.length ≤ tot S.fs := by
    obtain ⟨p, q, e⟩ := List.append_of_mem hf
    rw [e]
    simp only [tot, List.map_append, List.map_cons, List.sum_append, List.sum_cons]
    omega
  omega
structure RIn (r : Nat) (w : World) (S : Ds) (v : Value) (ra : Int) : Prop where
  top : Has w r 67 #[.int .i64 S.room, v, .int .i64 ra, .bool S.down]
  own : w.ownsRow 0 81 3 v S.fs.length (rcs S.fs)
  arm : S.down = true ∨ ra = S.armed ∨ (S.armed < 0 ∧ ra = -1)
  rng : -1 ≤ ra ∧ ra ≤ 9223372036854775807
  ne : ∀ g, v.ownBlock = some g → g ≠ r
/-- The blocks of it. -/
def rft (r : Nat) (v : Value) : List Nat := r :: v.ownBlock.toList
def RAt (r : Nat) (w : World) (S : Ds) (Y : List Nat) : Prop := ∃ v ra, Y = rft r v ∧ RIn r w S v ra
/-- What a call on it leaves. -/
def ROut (r : Nat) (Y : List Nat) (w : World) (S : Ds) (w' : World) : Prop := ∃ Y', RAt r w' S Y' ∧ Tur Y w w' ∧ Fre Y Y' w
section
variable {r : Nat} {w w' : World} {S : Ds} {v : Value} {ra : Int}
theorem rft_iff {b : Nat} : b ∈ rft r v ↔ b = r ∨ v.ownBlock = some b := by
  unfold rft
  cases v.ownBlock <;> simp [eq_comm]
theorem RIn.lt (h : RIn r w S v ra) : ∀ b ∈ rft r v, b < w.heap.size := by
  intro b hb
  rcases rft_iff.1 hb with rfl | hb
  · exact h.top.lt
  · exact (World.ownsRow.lt h.own b hb).2
theorem row_keep {e : TypeId} {size n : Nat} {xs : List Value} (h : w.ownsRow 0 e size v n xs) (hb : ∀ g, v.ownBlock = some g → w'.heap[g]? = w.heap[g]?) : w'.ownsRow 0 e size v n xs := by
  refine ⟨h.1, ?_⟩
  rcases h.2 with hn | ⟨g, cap, cur, rfl, hge, hh, r⟩
  · exact .inl hn
  · exact .inr ⟨g, cap, cur, rfl, hge, (hb g rfl).trans hh, r⟩
theorem RIn.keep (h : RIn r w S v ra) (hb : ∀ b ∈ rft r v, w'.heap[b]? = w.heap[b]?) : RIn r w' S v ra :=
  ⟨(hb r (by simp [rft])).trans h.top, row_keep h.own fun g hg => hb g (rft_iff.2 (.inr hg)), h.arm, h.rng, h.ne⟩
theorem RAt.keep {Y : List Nat} (h : RAt r w S Y) (hb : ∀ b ∈ Y, w'.heap[b]? = w.heap[b]?) : RAt r w' S Y := by
  obtain ⟨v, ra, rfl, h⟩ := h
  exact ⟨v, ra, rfl, h.keep hb⟩
theorem RAt.lt {Y : List Nat} (h : RAt r w S Y) : ∀ b ∈ Y, b < w.heap.size := by
  obtain ⟨v, ra, rfl, h⟩ := h
  exact h.lt
theorem RIn.row (h : RIn r w S v ra) : ∃ A c, v = .slice A S.fs.length c ∧ S.fs.length ≤ c ∧ c ≤ maxLen ∧ (A = none → c = 0) ∧ (∀ a, A = some a → a = ⟨a.block, 0, none⟩ ∧ v.ownBlock = some a.block) ∧
    ∀ i f, S.fs[i]? = some f → ∃ g, A = some ⟨g, 0, none⟩ ∧ w.cell? ⟨g, i * 3, none⟩ = some (.string (tx f.nm)) ∧ w.cell? ⟨g, i * 3 + 1, none⟩ = some (.string (bs (f.l.take f.k))) ∧ w.cell? ⟨g, i * 3 + 2, none⟩ = some (.string (bs (f.l.drop f.k))) ∧
      (∀ j, w.frozen? ⟨g, j, none⟩ = false) := by
  rcases h.own.2 with ⟨hv, hn⟩ | ⟨g, cap, cur, hv, _, hh, h1, h2, h3, h4⟩
  · refine ⟨none, 0, by rw [hv, hn], by omega, Nat.zero_le _, fun _ => rfl, (fun a e => by cases e), fun i f hi => ?_⟩
    have := (List.getElem?_eq_some_iff.1 hi).1
    omega
  · refine ⟨some ⟨g, 0, none⟩, cap, hv, h1, h2, (fun e => by cases e), (fun a e => by cases e; exact ⟨rfl, by rw [hv]; rfl⟩), fun i f hi => ?_⟩
    have hc : ∀ j, j < 3 → w.cell? ⟨g, i * 3 + j, none⟩ = (rc f)[j]? := by
      intro j hj
      have e1 := rcs_get S.fs i f j hi hj
      have e2 : (rc f)[j]? = some ((rc f)[j]'(by show j < 3; exact hj)) := List.getElem?_eq_getElem _
      rw [e2] at e1 ⊢
      have := World.ownsRow.cells h.own (g := g) (by rw [hv]; rfl) _ _ e1
      rw [Addr.add_lit, Nat.zero_add] at this
      exact this
    refine ⟨g, rfl, hc 0 (by omega), hc 1 (by omega), hc 2 (by omega), fun j => frozen_of_row w g j cur 81 hh⟩
theorem ROut.none {Y : List Nat} (h : RAt r w S Y) (hb : Below w.heap.size w w') : ROut r Y w S w' := ⟨Y, h.keep fun b hy => hb.block b (h.lt b hy), Tur.of_below hb, Fre.refl _ _⟩
end
set_option maxHeartbeats 2000000 in
set_option maxRecDepth 100000 in
theorem named_any (s : ByteArray) (w : World) (hs : s.size ≤ 140737488355328) :
    Calls Try.prog 60 #[.string s] w fun e w' => e = .returned (.bool (fileF s)) ∧ w' = w := by
  have HF := Lib.hid (nameTo_false s)
  go_enter Try.func60, Try.ntmps60
  go_wp2_with fail
  go_loopw [3] (fun i wr => ∃ pos : Nat, pos ≤ s.size ∧ i = .int .i64 pos ∧ Hid (nameTo s pos = true) ∧ wr = w) (fun i _ => s.size - (intOf i).toNat)
  case atStart => exact ⟨0, by omega, rfl, rfl, rfl⟩
  case round =>
    obtain ⟨pos, hpos, rfl, HT, rfl⟩ := hrel
    by_cases hp : pos < s.size
    · have HE := Lib.hid (byteAt_eq s pos hp)
      have HT2 : Hid (nameTo s (pos + 1) = okC (byteAt s pos)) := by show _ = _; rw [nameTo_succ, HT.out, Bool.true_and]
      have HN : Hid (okC (byteAt s pos) = false → fileF s = false) := fun h => by
        by_cases hz : 1 ≤ s.size ∧ s.size ≤ 20
        · rw [fileF_at hz.1 hz.2, HF.out pos s.size hp h]
        · exact fileF_no hz
      rw [HE.out] at HN HT2
      have hb := (s[pos]'hp).toNat_lt
      clear HE
      have hcs : (s[pos]'hp).toNat < 45 ∨ (s[pos]'hp).toNat = 45 ∨ (s[pos]'hp).toNat = 46 ∨ (s[pos]'hp).toNat = 47 ∨ (48 ≤ (s[pos]'hp).toNat ∧ (s[pos]'hp).toNat ≤ 57) ∨ (58 ≤ (s[pos]'hp).toNat ∧ (s[pos]'hp).toNat ≤ 96) ∨ (97 ≤ (s[pos]'hp).toNat ∧ (s[pos]'hp).toNat ≤ 122) ∨ 123 ≤ (s[pos]'hp).toNat := by omega
      rcases hcs with h1 | h1 | h1 | h1 | ⟨h1, h2⟩ | ⟨h1, h2⟩ | ⟨h1, h2⟩ | h1
      · have HO : Hid (okC (s[pos]'hp).toNat = false) := by show _ = _; simp [okC]; omega
        have hq : (((s[pos]'hp).toNat : Int) != 46) = true := by simp; omega
        have hq2 : (((s[pos]'hp).toNat : Int) != 45) = true := by simp; omega
        go_wp2_with fail
        all_goals first | (go_ret; exact ⟨by rw [HN.out HO.out]; rfl, by trivial⟩) | (exfalso; rename_i hh; simp at hh; omega)
      · have HO : Hid (okC (s[pos]'hp).toNat = true) := by show _ = _; rw [h1]; rfl
        have hq : (((s[pos]'hp).toNat : Int) != 46) = true := by simp; omega
        have hq2 : (((s[pos]'hp).toNat : Int) != 45) = false := by simp; omega
        go_wp2_with fail
        go_roundw
        case rel => exact ⟨pos + 1, by omega, by go_num, by rw [HT2.out]; exact HO, by trivial⟩
        case measure => simp [intOf]; omega
      · have HO : Hid (okC (s[pos]'hp).toNat = true) := by show _ = _; rw [h1]; rfl
        have hq : (((s[pos]'hp).toNat : Int) != 46) = false := by simp; omega
        go_wp2_with fail
        go_roundw
        case rel => exact ⟨pos + 1, by omega, by go_num, by rw [HT2.out]; exact HO, by trivial⟩
        case measure => simp [intOf]; omega
      · have HO : Hid (okC (s[pos]'hp).toNat = false) := by show _ = _; simp [okC]; omega
        have hq : (((s[pos]'hp).toNat : Int) != 46) = true := by simp; omega
        have hq2 : (((s[pos]'hp).toNat : Int) != 45) = true := by simp; omega
        go_wp2_with fail
        all_goals first | (go_ret; exact ⟨by rw [HN.out HO.out]; rfl, by trivial⟩) | (exfalso; rename_i hh; simp at hh; omega)
      · have HO : Hid (okC (s[pos]'hp).toNat = true) := by show _ = _; simp [okC, h1, h2]
        go_wp2_with fail
        go_roundw
        case rel => exact ⟨pos + 1, by omega, by go_num, by rw [HT2.out]; exact HO, by trivial⟩
        case measure => simp [intOf]; omega
      · have HO : Hid (okC (s[pos]'hp).toNat = false) := by show _ = _; simp [okC]; omega
        have hq : (((s[pos]'hp).toNat : Int) != 46) = true := by simp; omega
        have hq2 : (((s[pos]'hp).toNat : Int) != 45) = true := by simp; omega
        go_wp2_with fail
        all_goals first | (go_ret; exact ⟨by rw [HN.out HO.out]; rfl, by trivial⟩) | (exfalso; rename_i hh; simp at hh; omega)
      · have HO : Hid (okC (s[pos]'hp).toNat = true) := by show _ = _; simp [okC, h1, h2]
        go_wp2_with fail
        go_roundw
        case rel => exact ⟨pos + 1, by omega, by go_num, by rw [HT2.out]; exact HO, by trivial⟩
        case measure => simp [intOf]; omega
      · have HO : Hid (okC (s[pos]'hp).toNat = false) := by show _ = _; simp [okC]; omega
        have hq : (((s[pos]'hp).toNat : Int) != 46) = true := by simp; omega
        have hq2 : (((s[pos]'hp).toNat : Int) != 45) = true := by simp; omega
        go_wp2_with fail
        all_goals first | (go_ret; exact ⟨by rw [HN.out HO.out]; rfl, by trivial⟩) | (exfalso; rename_i hh; simp at hh; omega)
    · obtain rfl : pos = s.size := by omega
      by_cases h1 : 1 ≤ s.size
      · by_cases h2 : s.size ≤ 20
        · have HN := Lib.hid (fileF_at h1 h2)
          have hq : decide ((s.size : Int) ≤ 20) = true := by simp; omega
          go_wp2_with fail
          go_ret
          exact ⟨by rw [HN.out, HT.out]; rfl, by trivial⟩
        · have HN := Lib.hid (fileF_no (s := s) (fun h => h2 h.2))
          have h3 : 20 < s.size := by omega
          have hq : decide ((s.size : Int) ≤ 20) = false := by simp; omega
          go_wp2_with fail
          go_ret
          exact ⟨by rw [HN.out]; rfl, by trivial⟩
      · have HN := Lib.hid (fileF_no (s := s) (fun h => h1 h.1))
        have h3 : s.size < 1 := by omega
        go_wp2_with fail
        go_ret
        exact ⟨by rw [HN.out]; rfl, by trivial⟩
end Go.Proofs.Ytoooainecoappaa
