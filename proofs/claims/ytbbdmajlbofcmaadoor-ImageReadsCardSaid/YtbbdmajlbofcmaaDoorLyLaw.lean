/-
  What the laws of layer 1 want besides the calls: cut numbers and texts, whole ones, and a reader while another one is read.
-/
import Derived.Test.YtbbdmajlbofcmaaDoorLyRead
import Derived.OpenShut
namespace Go.Proofs.YtbbdmajlbofcmaaDoor
open Go.RowKit Dg
set_option maxRecDepth 100000
theorem Rdr.far {w w' : World} {g g' : Nat} {l l' : List Nat} {e e' : Nat} (h : Rdr w g l e) (hg : w.grownBy w' (some g')) (hh : Rdr w g' l' e') (hne : g ≠ g') : Rdr w' g l e := by
  obtain ⟨A, c, h1, h2, h3⟩ := h
  obtain ⟨A', c', h1', _, _⟩ := hh
  exact ⟨A, c, (hg.block g h1.lt (fun e => hne (by injection e))).trans h1, h2, h3.turn hg h1' (rdr_cells _ _ _ _)⟩
theorem Rdr.lt {w : World} {g : Nat} {l : List Nat} {e : Nat} (h : Rdr w g l e) : g < w.heap.size := by
  obtain ⟨A, c, h1, _, _⟩ := h
  exact h1.lt
theorem Rdr.below {w w' : World} {g : Nat} {l : List Nat} {e : Nat} (h : Rdr w g l e) (hb : Below w.heap.size w w') : Rdr w' g l e := by
  obtain ⟨A, c, h1, h2, h3⟩ := h
  exact ⟨A, c, h1.below hb h1.lt, h2, h3.below hb⟩
theorem Below.turn {w w1 w2 : World} {g : Nat} (h : Below w.heap.size w w1) (hg : w1.grownBy w2 (some g)) (hl : w.heap.size ≤ g) : Below w.heap.size w w2 :=
  h.grown hg h.size (fun k hk => by injection hk with hk; omega)

theorem Rdr.drewN {w : World} {g : Nat} {l : List Nat} {e : Nat} (h : Rdr w g l e) (n : Nat) : Rdr (w.drewN n) g l e := h
theorem Rdr.drew {w : World} {g : Nat} {l : List Nat} {e : Nat} (h : Rdr w g l e) : Rdr w.drew g l e := h
theorem numF_cut (most n k : Nat) (hn : n < 18446744073709551616) (hk : k < (digs n).length) : numF most ((digs n).take k) 0 = (0, (digs n).take k, 4) := by
  unfold numF
  rw [head_cut most n 10 0 0 k hk (digs_le_ten n hn)]
  simp
theorem head_whole (most n : Nat) (rest : List Nat) (hn : n < 18446744073709551616) (hm : n ≤ most) : headF most 10 0 0 (digs n ++ rest) = (n, (digs n).length, 0) := by
  have h := head_digs most rest n 10 0 0 (by omega) (fun h => absurd h (by omega)) (by omega) (digs_le_ten n hn)
  rw [h, if_neg (by simp; omega)]
  simp
theorem numF_whole (most n : Nat) (rest : List Nat) (hn : n < 18446744073709551616) (hm : n ≤ most) : numF most (digs n ++ rest) 0 = (n, rest, 0) := by
  unfold numF
  rw [head_whole most n rest hn hm]
  simp
/-- A text's bytes. -/
def txt (s : ByteArray) : List Nat := digs s.size ++ sb s
theorem txt_pos (s : ByteArray) : 0 < (txt s).length := by
  unfold txt; rw [List.length_append]; have := digs_pos s.size; omega
theorem txt_le (s : ByteArray) (h : s.size ≤ 200) : (txt s).length ≤ 210 := by
  unfold txt; rw [List.length_append, sb_length]; have := digs_le_ten s.size (by omega); omega
theorem txt_byte (s : ByteArray) : ∀ x ∈ txt s, x < 256 := by
  intro x hx
  rcases List.mem_append.1 hx with h | h
  · exact digs_byte _ x h
  · exact sb_byte s x h
theorem textF_cut (s : ByteArray) (hs : s.size ≤ 200) (k : Nat) (hk : k < (txt s).length) : textF 200 ((txt s).take k) 0 = ([], (txt s).take k, 4) := by
  have hn : s.size < 18446744073709551616 := by omega
  unfold textF
  rw [if_neg (by simp)]
  rcases Nat.lt_or_ge k (digs s.size).length with h | h
  · have e : (txt s).take k = (digs s.size).take k := by unfold txt; rw [List.take_append_of_le_length (by omega)]
    rw [e, head_cut _ s.size 10 0 0 k h (digs_le_ten s.size hn)]
    simp
  · have e : (txt s).take k = digs s.size ++ (sb s).take (k - (digs s.size).length) := by
      unfold txt; rw [List.take_append, List.take_of_length_le h]
    rw [e, head_whole _ s.size _ hn (by omega)]
    have hl : (txt s).length = (digs s.size).length + s.size := by unfold txt; rw [List.length_append, sb_length]
    simp only
    rw [if_neg (by simp), if_neg (by omega), if_pos]
    rw [List.length_append, List.length_take, sb_length]
    omega
theorem textF_whole (s : ByteArray) (hs : s.size ≤ 200) (rest : List Nat) : textF 200 (txt s ++ rest) 0 = (sb s, rest, 0) := by
  have hn : s.size < 18446744073709551616 := by omega
  unfold textF txt
  rw [if_neg (by simp), List.append_assoc, head_whole _ s.size _ hn (by omega)]
  simp only
  rw [if_neg (by simp), if_neg (by omega), if_neg]
  · have h1 : (digs s.size ++ (sb s ++ rest)).drop (digs s.size).length = sb s ++ rest := List.drop_left
    rw [← List.drop_drop, h1]
    have h2 : (sb s ++ rest).take s.size = sb s := by rw [← sb_length s]; exact List.take_left
    have h3 : (sb s ++ rest).drop s.size = rest := by rw [← sb_length s]; exact List.drop_left
    rw [h2, h3]
  · rw [List.length_append, List.length_append, sb_length]
    omega

/-- What comes out, its length under a letter. -/
theorem Out.open_ {w w' : World} {l : List Nat} {e : Ending} (h : Out w l e w') : ∃ A n c, e = .returned (.slice A n c) ∧ Hid (l.length = n) ∧ n ≤ c ∧ Hid (Rd w' A l) ∧ Hid (Below w.heap.size w w') := by
  obtain ⟨v, he, A, c, rfl, hc, hr, hb⟩ := h
  exact ⟨A, l.length, c, he, rfl, hc, hr, hb⟩
theorem Read_len (A : Option Addr) (l : List Nat) (n c : Nat) (w : World) (hn : l.length = n) (h : Rd w A l) (hb : n ≤ 1000000) :
    Calls Tryd.prog 13 #[.slice A n c] w fun e w' => ∃ g, e = .returned (.pointer (some ⟨g, 0, none⟩)) ∧ w.heap.size ≤ g ∧ Hid (Rdr w' g l 0) ∧ Hid (Below w.heap.size w w') := by
  rw [← hn] at hb ⊢
  exact Read_any A l c w h hb
theorem zag_zero : zag 0 = 0 := by decide
theorem bs_nil : bs [] = { data := #[] } := rfl

theorem endF_nil : endF [] 0 = 0 := rfl
theorem endF_four : endF [] 4 = 4 := rfl
end Go.Proofs.YtbbdmajlbofcmaaDoor
