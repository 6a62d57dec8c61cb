/-
  TreePlays, walked.
-/
import Derived.Test.YtmapclocbhkpbaaRTg
import Derived.Test.YtmapclocbhkpbaaRTh
namespace Go.Proofs.Ytmapclocbhkpbaa
open Go.RowKit Go.Maps Dg
set_option linter.unusedVariables false
/-- A deed's cells, in a later world. -/
theorem deed_at {w wr : World} {A : Option Addr} {L : List Dee} (hr : Elems w A 3 (L.map Dee.cells)) (hI : Below w.heap.size w wr) {i : Nat} (hi : i < L.length) :
    ∃ b off, A = some ⟨b, off, none⟩ ∧ wr.cell? ⟨b, off + i * 3, none⟩ = some (.int .i64 L[i].kd) ∧ wr.cell? ⟨b, off + i * 3 + 1, none⟩ = some (.int .i64 L[i].n) ∧ wr.cell? ⟨b, off + i * 3 + 2, none⟩ = some (.string L[i].key) := by
  obtain ⟨b, off, rfl, hc⟩ := hr (by intro e; rw [List.map_eq_nil_iff] at e; rw [e] at hi; simp at hi)
  have key : ∀ j, j < 3 → wr.cell? ⟨b, off + i * 3 + j, none⟩ = (L[i].cells)[j]? := fun j hj => by
    have h1 := hc i (by rw [List.length_map]; exact hi) j hj
    rw [List.getElem_map] at h1
    have h2 : ∃ u, w.cell? ⟨b, off + i * 3 + j, none⟩ = some u := by
      rw [h1]
      have : j < (L[i].cells).size := by show j < 3; exact hj
      exact ⟨_, Array.getElem?_eq_getElem this⟩
    obtain ⟨u, hu⟩ := h2
    exact (hI.cell (p := ⟨b, off + i * 3 + j, none⟩) (World.block_lt_of_cell? w _ hu)).trans h1
  exact ⟨b, off, rfl, key 0 (by omega), key 1 (by omega), key 2 (by omega)⟩
/-- A new pair. -/
theorem duo_new {w w1 : World} (h : TrAt w.heap.size w1 .nil) (hb : Below w.heap.size w w1) :
    Duo w.heap.size w.heap.size w1.heap.size [w1.heap.size] (w1.alloc (.cells #[.slice none 0 0, .slice none 0 0] 29)) .nil ∧ Below w.heap.size w (w1.alloc (.cells #[.slice none 0 0, .slice none 0 0] 29)) := by
  have al : Below w1.heap.size w1 (w1.alloc (.cells #[.slice none 0 0, .slice none 0 0] 29)) := (Below.refl _ w1).alloc (Nat.le_refl _) _
  exact ⟨⟨h.below al, ⟨hb.size, ⟨.slice none 0 0, .slice none 0 0, Has.new w1 _ _, ownS_nil _ _, ownI_nil _ _, rfl⟩, h.ris⟩, Nat.le_refl _⟩, hb.trans (al.mono hb.size)⟩
/-- What is done leaves all that there was. -/
theorem Did.below {B tb rb : Nat} {X X' : List Nat} {w w' : World} {T : Tr} (h : Duo B tb rb X w T) (hB : B ≤ w.heap.size) (ht : Tur (tb :: X) w w') : Below B w w' := ht.below (fun b hb => (h.far b hb).1) hB
end Go.Proofs.Ytmapclocbhkpbaa
namespace Go.Proofs.Ytmapclocbhkpbaa.treePlays
open Go.RowKit Go.Maps Dg
set_option linter.unusedVariables false
set_option maxHeartbeats 8000000 in
set_option maxRecDepth 100000 in
theorem walk (A : Option Addr) (n c : Nat) (L : List Dee) (w : World) (hl : L.length = n) (hnc : n ≤ c) (hcm : c ≤ maxLen) (hr : Elems w A 3 (L.map Dee.cells) ∧ ∀ v ∈ L, v.ok w) :
    Calls Try.prog 3 #[.slice A n c] w fun e w' => e = .returned (.bool true) ∧ Below w.heap.size w w' := by
  have HL := Lib.hid hl
  have HR := Lib.hid hr
  have hcI : (c : Int) ≤ 9223372036854775807 := by unfold maxLen at hcm; omega
  clear hl hr
  go_enter Try.func3, Try.ntmps3
  go_wp2_with fail
  refine (tnew_any w).mono ?_
  rintro e w1 ⟨rfl, h1, b1⟩
  obtain ⟨hd, hb⟩ := duo_new h1 b1
  have HD := Lib.hid hd
  have HB := Lib.hid hb
  clear h1 b1 hd hb
  go_wp2_with fail
  go_loopw [5] (fun u wr => ∃ (i : Nat) (T : Tr) (X : List Nat), i ≤ 80 ∧ i ≤ n ∧ u = .int .i64 i ∧ Hid (Duo w.heap.size w.heap.size w1.heap.size X wr T) ∧ Hid (T.con.length ≤ i) ∧ Hid (Below w.heap.size w wr)) (fun u _ => 80 - (intOf u).toNat)
  case atStart => exact ⟨0, .nil, _, by omega, by omega, rfl, HD, Nat.le_refl 0, HB⟩
  case round =>
    obtain ⟨i, T, X, hi, hin, rfl, HT, HLen, HI⟩ := hrel
    by_cases hlt : i < n
    · have hiI : (i : Int) < (n : Int) := by omega
      by_cases hl8 : i < 80
      · have hi8 : (i : Int) < 80 := by omega
        have hil : i < L.length := by rw [HL.out]; exact hlt
        have hok := HR.out.2 _ (List.getElem_mem hil)
        obtain ⟨b, off, rfl, c0, c1, c2⟩ := deed_at HR.out.1 HI.out hil
        generalize L[i] = x at *
        obtain ⟨kd, dn, key⟩ := x
        replace c0 : wr.cell? ⟨b, off + i * 3, none⟩ = some (.int .i64 kd) := c0
        replace c1 : wr.cell? ⟨b, off + i * 3 + 1, none⟩ = some (.int .i64 dn) := c1
        replace c2 : wr.cell? ⟨b, off + i * 3 + 2, none⟩ = some (.string key) := c2
        have HDO := Lib.hid (does_any HT.out (by have := HLen.out; omega) kd dn key hok.n)
        clear hok
        go_wp2_with fail
        refine HDO.out.mono ?_
        rintro e w2 ⟨rfl, T2, X2, h2, t2, f2, l2⟩
        have HT2 := Lib.hid h2
        have HLen2 : Hid (T2.con.length ≤ i + 1) := by show T2.con.length ≤ i + 1; have := HLen.out; omega
        have HI2 := Lib.hid (HI.out.trans (Did.below (X' := X) HT.out HI.out.size t2))
        clear h2 t2 f2 l2 HDO HT
        go_wp2_with fail
        refine (like_any HT2.out (by have := HLen2.out; omega)).mono ?_
        rintro e w3 ⟨rfl, b3⟩
        have HT3 := Lib.hid (HT2.out.below b3)
        have HI3 := Lib.hid (HI2.out.trans (b3.mono HI2.out.size))
        clear b3 HT2 HI2
        go_wp2_with fail
        go_roundw
        case rel => exact ⟨i + 1, T2, X2, by omega, by omega, by go_num, HT3, HLen2, HI3⟩
        case measure => simp [intOf]; omega
      · have hi8 : ¬ (i : Int) < 80 := by omega
        go_wp2_with fail
        refine (lives_any wr).mono ?_
        rintro e w4 ⟨rfl, b4⟩
        have HI4 := Lib.hid (HI.out.trans (b4.mono HI.out.size))
        clear b4
        go_wp2_with fail
        go_ret
        exact ⟨rfl, HI4.out⟩
    · have hiI : ¬ (i : Int) < (n : Int) := by omega
      go_wp2_with fail
      refine (lives_any wr).mono ?_
      rintro e w4 ⟨rfl, b4⟩
      have HI4 := Lib.hid (HI.out.trans (b4.mono HI.out.size))
      clear b4
      go_wp2_with fail
      go_ret
      exact ⟨rfl, HI4.out⟩
end Go.Proofs.Ytmapclocbhkpbaa.treePlays
