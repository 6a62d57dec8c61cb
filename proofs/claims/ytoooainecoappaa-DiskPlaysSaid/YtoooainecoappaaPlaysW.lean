/-
  DiskPlays, walked.
-/
import Derived.Test.YtoooainecoappaaRa
namespace Go.Proofs.Ytoooainecoappaa.diskPlays
open Go.RowKit Go.Maps Go.WideShapes
theorem new_any (w : World) (R : Int) (N : Nat) (h : (0 ≤ R ∧ R = N) ∨ (R < 0 ∧ N = 0)) (hN : N ≤ 1000) :
    Calls Try.prog 10 #[.int .i64 R] w fun e w' => e = .returned (.pointer (some ⟨w.heap.size + 1, 0, none⟩)) ∧ Hid (DAt w.heap.size (w.heap.size + 1) w' (newD N) [w.heap.size + 1, w.heap.size]) ∧ Hid (Below w.heap.size w w') := by
  rcases h with ⟨_, rfl⟩ | ⟨h, rfl⟩
  · exact newP_any w N hN
  · exact newN_any w R h
theorem rnew_any (w : World) (R : Int) (N : Nat) (h : (0 ≤ R ∧ R = N) ∨ (R < 0 ∧ N = 0)) :
    Calls Try.prog 11 #[.int .i64 R] w fun e w' => e = .returned (.pointer (some ⟨w.heap.size, 0, none⟩)) ∧ Hid (RIn w.heap.size w' (newD N) (.slice none 0 0) (-1)) ∧ Hid (Below w.heap.size w w') := by
  rcases h with ⟨_, rfl⟩ | ⟨h, rfl⟩
  · exact rnewP_any w N
  · exact rnewN_any w R h
theorem two_new {w w1 w2 : World} {N : Nat} (hd : DAt w.heap.size (w.heap.size + 1) w1 (newD N) [w.heap.size + 1, w.heap.size]) (hb : Below w.heap.size w w1) (hr : RIn w1.heap.size w2 (newD N) (.slice none 0 0) (-1)) (hb2 : Below w1.heap.size w1 w2) :
    Two w.heap.size (w.heap.size + 1) w1.heap.size w2 (newD N) (newD N) := by
  obtain ⟨m, gs, hX, h0⟩ := hd
  refine ⟨_, _, _, ⟨m, gs, hX, h0.below hb2⟩, hr, fun b hx h2 => ?_, fun b hx => ?_, Nat.le_trans hb.size hb2.size⟩
  · have hl := h0.lt b (hX ▸ h2)
    rcases rft_iff.1 hx with rfl | h
    · exact absurd hl (Nat.lt_irrefl _)
    · cases h
  · rcases rft_iff.1 hx with rfl | h
    · exact hb.size
    · cases h
/-- An ask's cells, in a later world. -/
theorem ask_at {w wr : World} {A : Option Addr} {L : List Ak} (hr : Elems w A 6 (L.map Ak.cells)) (hI : Below w.heap.size w wr) {i : Nat} (hi : i < L.length) :
    ∃ b off, A = some ⟨b, off, none⟩ ∧ ∀ j, j < 6 → wr.cell? ⟨b, off + i * 6 + j, none⟩ = (L[i].cells)[j]? := by
  obtain ⟨b, off, rfl, hc⟩ := hr (by intro e; rw [List.map_eq_nil_iff] at e; rw [e] at hi; simp at hi)
  refine ⟨b, off, rfl, fun j hj => ?_⟩
  have h1 := hc i (by rw [List.length_map]; exact hi) j hj
  rw [List.getElem_map] at h1
  have h2 : ∃ u, w.cell? ⟨b, off + i * 6 + j, none⟩ = some u := by
    rw [h1]
    have : j < (L[i].cells).size := by show j < 6; exact hj
    exact ⟨_, Array.getElem?_eq_getElem this⟩
  obtain ⟨u, hu⟩ := h2
  exact (hI.cell (p := ⟨b, off + i * 6 + j, none⟩) (World.block_lt_of_cell? w _ hu)).trans h1
theorem rd_ints {w X : World} {A : Option Addr} {l : List Int} (h : Ints w A l) (hb : Below w.heap.size w X) : Ints X A l := fun hne => by
  obtain ⟨b, off, rfl, hc⟩ := h hne
  exact ⟨b, off, rfl, fun i hi => (hb.cell (p := ⟨b, off + i, none⟩) (World.block_lt_of_cell? w _ (hc i hi))).trans (hc i hi)⟩
theorem ints_blk {w : World} {A : Option Addr} {l : List Int} (h : Ints w A l) : l ≠ [] → ∀ a, A = some a → a.block < w.heap.size := fun hne a ha => by
  obtain ⟨b, off, rfl, hc⟩ := h hne
  injection ha with ha
  subst ha
  have h0 : 0 < l.length := by
    rcases l with _ | ⟨x, l⟩
    · exact absurd rfl hne
    · simp
  exact World.block_lt_of_cell? w _ (hc 0 h0)
theorem nm_new (N : Nat) : Nm (newD N) := fun f hf => by cases hf
set_option maxHeartbeats 4000000 in
set_option maxRecDepth 100000 in
theorem walkR (room R : Int) (N : Nat) (hgo : (500 < room ∧ R = room % 501) ∨ (room ≤ 500 ∧ R = room)) (hNR : (0 ≤ R ∧ R = N) ∨ (R < 0 ∧ N = 0)) (hN : N ≤ 1000) (Aa : Option Addr) (na ca : Nat) (L : List Ak) (w : World)
    (hl : L.length = na) (_ : na ≤ ca) (_ : ca ≤ maxLen) (hr : Elems w Aa 6 (L.map Ak.cells) ∧ ∀ v ∈ L, v.ok w) :
    Calls Try.prog 3 #[.int .i64 room, .slice Aa na ca] w fun e w' => e = .returned (.bool true) ∧ Below w.heap.size w w' := by
  have HL := Lib.hid hl
  have HR := Lib.hid hr
  have HNR := Lib.hid hNR
  have hRb : R ≤ 1000 := by omega
  clear hl hr hNR
  rcases hgo with ⟨hg, rfl⟩ | ⟨hg, rfl⟩
  · go_enter Try.func3, Try.ntmps3
    go_wp2_with fail
    refine (new_any w (room % 501) N HNR.out hN).mono ?_
    rintro e w1 ⟨rfl, hd, hb⟩
    go_wp2_with fail
    refine (rnew_any w1 (room % 501) N HNR.out).mono ?_
    rintro e w2 ⟨rfl, hd2, hb2⟩
    have HT := Lib.hid (two_new hd.out hb.out hd2.out hb2.out)
    have HB := Lib.hid (hb.out.trans (hb2.out.mono hb.out.size))
    clear hd hb hd2 hb2
    generalize w1.heap.size = r at *
    go_wp2_with fail
    go_loopw [7] (fun v wr => ∃ (i : Nat) (S : Ds), i ≤ na ∧ i ≤ 40 ∧ v = .int .i64 i ∧ Hid (Two w.heap.size (w.heap.size + 1) r wr S S) ∧ Hid (Nm S) ∧ Hid (S.fs.length ≤ i) ∧ Hid (Below w.heap.size w wr)) (fun v _ => na - (intOf v).toNat)
    case atStart => exact ⟨0, _, by omega, by omega, rfl, HT, nm_new N, Nat.le_refl 0, HB⟩
    case round =>
      obtain ⟨i, S, hi, hi2, rfl, HT, HM, HF, HI⟩ := hrel
      by_cases hlt : i < na ∧ i < 40
      · obtain ⟨hlt, hlt2⟩ := hlt
        have hil : i < L.length := by rw [HL.out]; exact hlt
        have hok := HR.out.2 _ (List.getElem_mem hil)
        obtain ⟨b, off, rfl, hci⟩ := ask_at HR.out.1 HI.out hil
        have c0 := hci 0 (by omega)
        have c1 := hci 1 (by omega)
        have c2 := hci 2 (by omega)
        have c3 := hci 3 (by omega)
        have c4 := hci 4 (by omega)
        have c5 := hci 5 (by omega)
        clear hci
        generalize L[i] = x at *
        obtain ⟨kd, nm, to, ⟨bA, bl, bc⟩, n, K, keep, ck⟩ := x
        have HX := Lib.hid hok
        clear hok
        replace c0 : wr.cell? ⟨b, off + i * 6, none⟩ = some (.int .i64 kd) := c0
        replace c1 : wr.cell? ⟨b, off + i * 6 + 1, none⟩ = some (.string nm) := c1
        replace c2 : wr.cell? ⟨b, off + i * 6 + 2, none⟩ = some (.string to) := c2
        replace c3 : wr.cell? ⟨b, off + i * 6 + 3, none⟩ = some (.slice bA bl.length bc) := c3
        replace c4 : wr.cell? ⟨b, off + i * 6 + 4, none⟩ = some (.int .i64 n) := c4
        replace c5 : wr.cell? ⟨b, off + i * 6 + 5, none⟩ = some (.slice K keep.length ck) := c5
        have HASK := Lib.hid (ask_any HT.out HM.out (by have := HF.out; omega) kd nm to bA bl bl.length bc n K keep keep.length ck HX.out.nm HX.out.to rfl HX.out.b.cap HX.out.b.max (fun Y hY => HX.out.b.rd.below (HI.out.trans hY)) HX.out.b.byte HX.out.b.nil HX.out.n rfl HX.out.kfew (fun Y hY => rd_ints HX.out.krd (HI.out.trans hY)) HX.out.ints (ints_blk HX.out.krd))
        clear HX
        generalize bl.length = bn at *
        generalize keep.length = kn at *
        go_wp2_with fail
        refine HASK.out.mono ?_
        rintro e v5 ⟨rfl, S', hT, hM, hF, hB⟩
        have HI5 := Lib.hid (HI.out.trans hB.out)
        have HF5 : Hid (S'.fs.length ≤ i + 1) := Nat.le_trans hF.out (Nat.succ_le_succ HF.out)
        clear HT HM HF HI HASK hF hB
        go_wp2_with fail
        refine (like_any hT.out hM.out (by have := HF5.out; omega)).mono ?_
        rintro e v6 ⟨rfl, hB⟩
        have HT6 := Lib.hid (hT.out.below hB.out)
        have HI6 := Lib.hid (HI5.out.trans (hB.out.mono HI5.out.size))
        clear hT hB HI5
        go_wp2_with fail
        go_roundw
        case rel => exact ⟨i + 1, S', by omega, by omega, by go_num, HT6, hM, HF5, HI6⟩
        case measure => simp [intOf]; omega
      · go_wp2_with fail
        all_goals (
          refine (lives_any _).mono ?_
          rintro e v7 ⟨rfl, hB⟩
          have HI6 := HI.out.trans (hB.out.mono HI.out.size)
          go_wp2_with fail
          go_ret
          exact ⟨rfl, HI6⟩)
  · go_enter Try.func3, Try.ntmps3
    go_wp2_with fail
    refine (new_any w R N HNR.out hN).mono ?_
    rintro e w1 ⟨rfl, hd, hb⟩
    go_wp2_with fail
    refine (rnew_any w1 R N HNR.out).mono ?_
    rintro e w2 ⟨rfl, hd2, hb2⟩
    have HT := Lib.hid (two_new hd.out hb.out hd2.out hb2.out)
    have HB := Lib.hid (hb.out.trans (hb2.out.mono hb.out.size))
    clear hd hb hd2 hb2
    generalize w1.heap.size = r at *
    go_wp2_with fail
    go_loopw [7] (fun v wr => ∃ (i : Nat) (S : Ds), i ≤ na ∧ i ≤ 40 ∧ v = .int .i64 i ∧ Hid (Two w.heap.size (w.heap.size + 1) r wr S S) ∧ Hid (Nm S) ∧ Hid (S.fs.length ≤ i) ∧ Hid (Below w.heap.size w wr)) (fun v _ => na - (intOf v).toNat)
    case atStart => exact ⟨0, _, by omega, by omega, rfl, HT, nm_new N, Nat.le_refl 0, HB⟩
    case round =>
      obtain ⟨i, S, hi, hi2, rfl, HT, HM, HF, HI⟩ := hrel
      by_cases hlt : i < na ∧ i < 40
      · obtain ⟨hlt, hlt2⟩ := hlt
        have hil : i < L.length := by rw [HL.out]; exact hlt
        have hok := HR.out.2 _ (List.getElem_mem hil)
        obtain ⟨b, off, rfl, hci⟩ := ask_at HR.out.1 HI.out hil
        have c0 := hci 0 (by omega)
        have c1 := hci 1 (by omega)
        have c2 := hci 2 (by omega)
        have c3 := hci 3 (by omega)
        have c4 := hci 4 (by omega)
        have c5 := hci 5 (by omega)
        clear hci
        generalize L[i] = x at *
        obtain ⟨kd, nm, to, ⟨bA, bl, bc⟩, n, K, keep, ck⟩ := x
        have HX := Lib.hid hok
        clear hok
        replace c0 : wr.cell? ⟨b, off + i * 6, none⟩ = some (.int .i64 kd) := c0
        replace c1 : wr.cell? ⟨b, off + i * 6 + 1, none⟩ = some (.string nm) := c1
        replace c2 : wr.cell? ⟨b, off + i * 6 + 2, none⟩ = some (.string to) := c2
        replace c3 : wr.cell? ⟨b, off + i * 6 + 3, none⟩ = some (.slice bA bl.length bc) := c3
        replace c4 : wr.cell? ⟨b, off + i * 6 + 4, none⟩ = some (.int .i64 n) := c4
        replace c5 : wr.cell? ⟨b, off + i * 6 + 5, none⟩ = some (.slice K keep.length ck) := c5
        have HASK := Lib.hid (ask_any HT.out HM.out (by have := HF.out; omega) kd nm to bA bl bl.length bc n K keep keep.length ck HX.out.nm HX.out.to rfl HX.out.b.cap HX.out.b.max (fun Y hY => HX.out.b.rd.below (HI.out.trans hY)) HX.out.b.byte HX.out.b.nil HX.out.n rfl HX.out.kfew (fun Y hY => rd_ints HX.out.krd (HI.out.trans hY)) HX.out.ints (ints_blk HX.out.krd))
        clear HX
        generalize bl.length = bn at *
        generalize keep.length = kn at *
        go_wp2_with fail
        refine HASK.out.mono ?_
        rintro e v5 ⟨rfl, S', hT, hM, hF, hB⟩
        have HI5 := Lib.hid (HI.out.trans hB.out)
        have HF5 : Hid (S'.fs.length ≤ i + 1) := Nat.le_trans hF.out (Nat.succ_le_succ HF.out)
        clear HT HM HF HI HASK hF hB
        go_wp2_with fail
        refine (like_any hT.out hM.out (by have := HF5.out; omega)).mono ?_
        rintro e v6 ⟨rfl, hB⟩
        have HT6 := Lib.hid (hT.out.below hB.out)
        have HI6 := Lib.hid (HI5.out.trans (hB.out.mono HI5.out.size))
        clear hT hB HI5
        go_wp2_with fail
        go_roundw
        case rel => exact ⟨i + 1, S', by omega, by omega, by go_num, HT6, hM, HF5, HI6⟩
        case measure => simp [intOf]; omega
      · go_wp2_with fail
        all_goals (
          refine (lives_any _).mono ?_
          rintro e v7 ⟨rfl, hB⟩
          have HI6 := HI.out.trans (hB.out.mono HI.out.size)
          go_wp2_with fail
          go_ret
          exact ⟨rfl, HI6⟩)
theorem walk (room : Int) (Aa : Option Addr) (na ca : Nat) (L : List Ak) (w : World) (_ : -9223372036854775808 ≤ room ∧ room ≤ 9223372036854775807)
    (hl : L.length = na) (h1 : na ≤ ca) (h2 : ca ≤ maxLen) (hr : Elems w Aa 6 (L.map Ak.cells) ∧ ∀ v ∈ L, v.ok w) :
    Calls Try.prog 3 #[.int .i64 room, .slice Aa na ca] w fun e w' => e = .returned (.bool true) ∧ Below w.heap.size w w' := by
  by_cases hg : 500 < room
  · exact walkR room (room % 501) (room % 501).toNat (.inl ⟨hg, rfl⟩) (by omega) (by omega) Aa na ca L w hl h1 h2 hr
  · exact walkR room room room.toNat (.inr ⟨by omega, rfl⟩) (by omega) (by omega) Aa na ca L w hl h1 h2 hr
end Go.Proofs.Ytoooainecoappaa.diskPlays
