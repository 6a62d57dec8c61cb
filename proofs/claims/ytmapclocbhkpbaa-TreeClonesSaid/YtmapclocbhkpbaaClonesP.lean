/-
  TreeClones, walked.
-/
import Derived.Test.YtmapclocbhkpbaaTPlaysW
namespace Go.Proofs.Ytmapclocbhkpbaa
open Go.RowKit Go.Maps Dg
set_option linter.unusedVariables false
set_option maxHeartbeats 2000000 in
set_option maxRecDepth 100000 in
theorem clone_any {tb : Nat} {w : World} {T : Tr} (h : TrAt tb w T) : Calls Try.prog 13 #[.pointer (some ⟨tb, 0, none⟩)] w fun e w' => e = .returned (.pointer (some ⟨w.heap.size, 0, none⟩)) ∧ w' = w.alloc (.cells #[.pointer T.ptr] 49) := by
  have c0 : w.cell? ⟨tb, 0, none⟩ = some (.pointer T.ptr) := h.top.cell 0
  generalize T.ptr = p at *
  clear h
  go_enter Try.func13, Try.ntmps13
  go_wp2_with fail
  go_ret
  exact ⟨rfl, rfl⟩
theorem cloned {tb : Nat} {w : World} {T : Tr} (h : TrAt tb w T) : TrAt w.heap.size (w.alloc (.cells #[.pointer T.ptr] 49)) T := by
  have al : Below w.heap.size w (w.alloc (.cells #[.pointer T.ptr] 49)) := (Below.refl _ w).alloc (Nat.le_refl _) _
  exact ⟨Has.new w _ _, (h.tr.below al).mono al.size, h.bal, h.ris⟩
/-- Two pairs that share nothing. -/
structure Pair (B tb rb : Nat) (X : List Nat) (tc sc : Nat) (Y : List Nat) (w : World) (T S : Tr) : Prop where
  l : Duo B tb rb X w T
  r : Duo B tc sc Y w S
  no : ∀ b ∈ tb :: X, b ∉ tc :: Y
theorem Pair.below {B tb rb tc sc : Nat} {X Y : List Nat} {w w' : World} {T S : Tr} (h : Pair B tb rb X tc sc Y w T S) (hb : Below w.heap.size w w') : Pair B tb rb X tc sc Y w' T S := ⟨h.l.below hb, h.r.below hb, h.no⟩
theorem Pair.swap {B tb rb tc sc : Nat} {X Y : List Nat} {w : World} {T S : Tr} (h : Pair B tb rb X tc sc Y w T S) : Pair B tc sc Y tb rb X w S T := ⟨h.r, h.l, fun b hb hx => h.no b hx hb⟩
theorem Pair.left {B tb rb tc sc : Nat} {X Y : List Nat} {w w' : World} {T S : Tr} (h : Pair B tb rb X tc sc Y w T S) (hB : B ≤ w.heap.size) (hd : Did B tb rb X w w' T) : ∃ T' X', Pair B tb rb X' tc sc Y w' T' S ∧ T'.con.length ≤ T.con.length + 1 ∧ Below B w w' := by
  obtain ⟨T', X', h1, h2, h3, h4⟩ := hd
  refine ⟨T', X', ⟨h1, h.r.tur h2 (fun b hb hx => h.no b hx hb) (fun b hb => (h.l.far b hb).2.2), fun b hb hx => ?_⟩, h4, Did.below (X' := X) h.l hB h2⟩
  rcases h3 b hb with q | q
  · exact h.no b q hx
  · have := (h.r.far b hx).2.1
    omega
theorem Pair.right {B tb rb tc sc : Nat} {X Y : List Nat} {w w' : World} {T S : Tr} (h : Pair B tb rb X tc sc Y w T S) (hB : B ≤ w.heap.size) (hd : Did B tc sc Y w w' S) : ∃ S' Y', Pair B tb rb X tc sc Y' w' T S' ∧ S'.con.length ≤ S.con.length + 1 ∧ Below B w w' := by
  obtain ⟨S', Y', h1, h2, h3⟩ := h.swap.left hB hd
  exact ⟨S', Y', h1.swap, h2, h3⟩
set_option maxHeartbeats 2000000 in
/-- The rows of a new one, out of those of another one. -/
theorem clone_chain {B rb : Nat} {X : List Nat} {w : World} {C : List (ByteArray × Int)} (h : RfAt B rb X w C) (hz : C.length ≤ 80000) {sc : Nat} (hs : Has w sc 29 #[.slice none 0 0, .slice none 0 0]) (hsB : B ≤ sc) (hne : sc ∉ X) {A A2 : Option Addr} {n c c2 : Nat}
    (h1 : Has w rb 29 #[.slice A n c, .slice A2 n c2]) (hn : C.length = n) (hr : RdS w A (C.map (fun x : ByteArray × Int => x.1))) (hr2 : RdI w A2 (C.map (fun x : ByteArray × Int => x.2))) (hz1 : A = none → c = 0) (hz2 : A2 = none → c2 = 0) (hnc : n ≤ c) (hnc2 : n ≤ c2) (hg2 : ∀ a, A2 = some a → a.block ≠ sc) :
    ∃ (a5 : Option Addr) (m5 d5 : Nat) (w1 : World) (a6 : Option Addr) (m6 d6 : Nat) (w2 : World),
      (Builtin.append_ #[26, 26] 26 #[.slice none 0 0, .slice A n c]).run Try.prog w.drew = .ok (.slice a5 m5 d5) w1 ∧
      (Builtin.append_ #[27, 27] 27 #[.slice none 0 0, .slice A2 n c2]).run Try.prog (w1.setCell ⟨sc, 0, none⟩ (.slice a5 m5 d5)).drew = .ok (.slice a6 m6 d6) w2 ∧
      w1.cell? ⟨rb, 0, none⟩ = some (.slice A n c) ∧ w1.cell? ⟨sc, 0, none⟩ = some (.slice none 0 0) ∧ w1.frozen? ⟨sc, 0, none⟩ = false ∧ (w1.setCell ⟨sc, 0, none⟩ (.slice a5 m5 d5)).cell? ⟨rb, 0, none⟩ = some (.slice A n c) ∧
      (w1.setCell ⟨sc, 0, none⟩ (.slice a5 m5 d5)).drew.cell? ⟨rb, 1, none⟩ = some (.slice A2 n c2) ∧ (w1.setCell ⟨sc, 0, none⟩ (.slice a5 m5 d5)).drew.cell? ⟨sc, 1, none⟩ = some (.slice none 0 0) ∧
      w2.cell? ⟨rb, 1, none⟩ = some (.slice A2 n c2) ∧ w2.cell? ⟨sc, 1, none⟩ = some (.slice none 0 0) ∧ w2.frozen? ⟨sc, 1, none⟩ = false ∧ (w2.setCell ⟨sc, 1, none⟩ (.slice a6 m6 d6)).cell? ⟨rb, 1, none⟩ = some (.slice A2 n c2) ∧
      ∃ Y, RfAt B sc Y (w2.setCell ⟨sc, 1, none⟩ (.slice a6 m6 d6)) C ∧ Tur [sc] w (w2.setCell ⟨sc, 1, none⟩ (.slice a6 m6 d6)) ∧ ∀ b ∈ Y, b = sc ∨ w.heap.size ≤ b := by
  have hBw : B ≤ w.heap.size := Nat.le_trans hsB (Nat.le_of_lt hs.lt)
  have hrbs : rb ≠ sc := fun e => hne (by obtain ⟨_, _, _, _, _, hX⟩ := h.ex; rw [hX, e]; simp)
  have lk : (C.map (fun x : ByteArray × Int => x.1)).length = n := by rw [List.length_map, hn]
  have lv : (C.map (fun x : ByteArray × Int => x.2)).length = n := by rw [List.length_map, hn]
  obtain ⟨wd, hwd⟩ : ∃ wd, wd = w.drew := ⟨_, rfl⟩
  have td : Tur [sc] w wd := by rw [hwd]; exact Tur.drew _ _
  have hsz : wd.heap.size = w.heap.size := by rw [hwd]; rfl
  have hrd : RdS wd A (C.map (fun x : ByteArray × Int => x.1)) := by rw [hwd]; exact hr
  have hrd2 : RdI wd A2 (C.map (fun x : ByteArray × Int => x.2)) := by rw [hwd]; exact hr2
  have hd : Has wd rb 29 #[.slice A n c, .slice A2 n c2] := by rw [hwd]; exact h1
  have hsd : Has wd sc 29 #[.slice none 0 0, .slice none 0 0] := by rw [hwd]; exact hs
  rw [← hwd]
  obtain ⟨R5, w1, r5, o5, t5, f5⟩ := appSS wd B (.slice none 0 0) [] A n c _ (ownS_nil _ _) (by rw [hsz]; exact hBw) lk hrd (fun e => ⟨by have := hz1 e; omega, hz1 e⟩) (by simp; omega)
  rw [List.nil_append] at o5
  have b1 : Below wd.heap.size wd w1 := t5.below (fun b hb => by simp [Value.ownBlock] at hb) (Nat.le_refl _)
  have F5 : ∀ k, R5.ownBlock = some k → wd.heap.size ≤ k := fun k hk => (f5 k hk).elim (fun e => by cases e) id
  obtain ⟨a5, m5, d5, rfl, -⟩ := ownS_row o5
  have hd1 : Has w1 rb 29 #[.slice A n c, .slice A2 n c2] := hd.below b1 hd.lt
  have hs1 : Has w1 sc 29 #[.slice none 0 0, .slice none 0 0] := hsd.below b1 hsd.lt
  have ts1 : Tur [sc] w1 (w1.setCell ⟨sc, 0, none⟩ (.slice a5 m5 d5)) := Tur.setCell w1 (p := ⟨sc, 0, none⟩) (by simp) _
  have hs1s : Has (w1.setCell ⟨sc, 0, none⟩ (.slice a5 m5 d5)) sc 29 #[.slice a5 m5 d5, .slice none 0 0] := hs1.put 0 _
  have hd1s : Has (w1.setCell ⟨sc, 0, none⟩ (.slice a5 m5 d5)) rb 29 #[.slice A n c, .slice A2 n c2] := hd1.tur ts1 (by simpa using hrbs)
  have ne5 : ∀ g, (Value.slice a5 m5 d5).ownBlock = some g → g ∉ [sc] := fun g hg => by
    obtain ⟨_, x1⟩ := o5.has hg
    simpa using x1.ne hs1 (by decide)
  have o5s := o5.tur ts1 ne5
  have hr1s := (hrd2.below b1).tur ts1 fun a ha => by simpa using hg2 a ha
  have z1s : (w1.setCell ⟨sc, 0, none⟩ (.slice a5 m5 d5)).heap.size = w1.heap.size := size_set _ _ _
  obtain ⟨we, hwe⟩ : ∃ we, we = (w1.setCell ⟨sc, 0, none⟩ (.slice a5 m5 d5)).drew := ⟨_, rfl⟩
  have te : Tur [sc] (w1.setCell ⟨sc, 0, none⟩ (.slice a5 m5 d5)) we := by rw [hwe]; exact Tur.drew _ _
  have hsze : we.heap.size = w1.heap.size := by rw [hwe]; exact z1s
  have hre : RdI we A2 (C.map (fun x : ByteArray × Int => x.2)) := by rw [hwe]; exact hr1s
  have hse : Has we sc 29 #[.slice a5 m5 d5, .slice none 0 0] := by rw [hwe]; exact hs1s
  have hde : Has we rb 29 #[.slice A n c, .slice A2 n c2] := by rw [hwe]; exact hd1s
  have o5e : OwnS B we (.slice a5 m5 d5) (C.map (fun x : ByteArray × Int => x.1)) := by rw [hwe]; exact o5s
  obtain ⟨R6, w2, r6, o6, t6, f6⟩ := appII we B (.slice none 0 0) [] A2 n c2 _ (ownI_nil _ _) (by rw [hsze]; have := b1.size; omega) lv hre (fun e => ⟨by have := hz2 e; omega, hz2 e⟩) (by simp; omega)
  rw [List.nil_append] at o6
  have b2 : Below we.heap.size we w2 := t6.below (fun b hb => by simp [Value.ownBlock] at hb) (Nat.le_refl _)
  have F6 : ∀ k, R6.ownBlock = some k → wd.heap.size ≤ k := fun k hk => (f6 k hk).elim (fun e => by cases e) (fun e => by have := b1.size; omega)
  obtain ⟨a6, m6, d6, rfl, -⟩ := ownI_row o6
  have hs2 := hse.below b2 hse.lt
  have hd2 := hde.below b2 hde.lt
  have o52 := o5e.below b2
  have ts2 : Tur [sc] w2 (w2.setCell ⟨sc, 1, none⟩ (.slice a6 m6 d6)) := Tur.setCell w2 (p := ⟨sc, 1, none⟩) (by simp) _
  have hs2s : Has (w2.setCell ⟨sc, 1, none⟩ (.slice a6 m6 d6)) sc 29 #[.slice a5 m5 d5, .slice a6 m6 d6] := hs2.put 1 _
  have hd2s : Has (w2.setCell ⟨sc, 1, none⟩ (.slice a6 m6 d6)) rb 29 #[.slice A n c, .slice A2 n c2] := hd2.tur ts2 (by simpa using hrbs)
  have ne6 : ∀ g, (Value.slice a6 m6 d6).ownBlock = some g → g ∉ [sc] := fun g hg => by
    obtain ⟨_, x1⟩ := o6.has hg
    simpa using x1.ne hs2 (by decide)
  have u1 : Tur [sc] w w1 := td.trans (Tur.of_below (X := []) b1) fun b hb => by cases hb
  have u2 : Tur [sc] w we := (u1.trans ts1 (Fre.refl _ _)).trans te (Fre.refl _ _)
  have u3 : Tur [sc] w w2 := u2.trans (Tur.of_below (X := []) b2) fun b hb => by cases hb
  refine ⟨a5, m5, d5, w1, a6, m6, d6, w2, r5, by rw [← hwe]; exact r6, hd1.cell 0, hs1.cell 0, hs1.free 0, hd1s.cell 0, by rw [← hwe]; exact hde.cell 1, by rw [← hwe]; exact hse.cell 1, hd2.cell 1, hs2.cell 1, hs2.free 1, hd2s.cell 1, _, ⟨hsB, ⟨_, _, hs2s, o52.tur ts2 ne5, o6.tur ts2 ne6, rfl⟩, h.ris⟩, u3.trans ts2 (Fre.refl _ _), ?_⟩
  intro b hb
  rcases List.mem_cons.1 hb with e | hb
  · exact .inl e
  · refine .inr ?_
    rw [← hsz]
    rcases List.mem_append.1 hb with hb | hb
    · exact F5 b (by simpa using hb)
    · exact F6 b (by simpa using hb)
end Go.Proofs.Ytmapclocbhkpbaa
