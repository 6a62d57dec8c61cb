/-
  TreeCuts, walked.
-/
import Derived.Test.YtoooainecoappaaTrZ
namespace Go.Proofs.Ytoooainecoappaa.treeCuts
open Go.RowKit Go.Maps Dg
set_option linter.unusedVariables false
theorem wrap64_small {x : Int} (h1 : 0 ≤ x) (h2 : x ≤ 40) : wrap64 x = x := by
  have := IntKind.wrap_i64 x
  unfold wrap64
  omega
theorem str_at {w wr : World} {A : Option Addr} {L : List ByteArray} (hr : Strs w A L) (hI : Below w.heap.size w wr) {i : Nat} (hi : i < L.length) :
    ∃ b off, A = some ⟨b, off, none⟩ ∧ wr.cell? ⟨b, off + i, none⟩ = some (.string L[i]) := by
  obtain ⟨b, off, e, hc⟩ := hr (by intro e; rw [e] at hi; simp at hi)
  exact ⟨b, off, e, (hI.cell (p := ⟨b, off + i, none⟩) (World.block_lt_of_cell? w _ (hc i hi))).trans (hc i hi)⟩
theorem Strs.take {w : World} {A : Option Addr} {L : List ByteArray} (h : Strs w A L) (k : Nat) : Strs w A (L.take k) := fun hne => by
  have hne2 : L ≠ [] := fun e => hne (by rw [e]; simp)
  obtain ⟨b, off, e, hc⟩ := h hne2
  exact ⟨b, off, e, fun i hi => by rw [List.getElem_take]; exact hc i (by rw [List.length_take] at hi; omega)⟩
/-- Keys that are among the first k. -/
def Among (L : List ByteArray) (k : Nat) (C : List (ByteArray × Int)) : Prop := ∀ x ∈ C, ∃ j, j < k ∧ ∃ s, L[j]? = some s ∧ x.1 = fewS s
theorem Among.put {L : List ByteArray} {k : Nat} {C : List (ByteArray × Int)} (h : Among L k C) {s : ByteArray} (hs : L[k]? = some s) (v : Int) : Among L (k + 1) (putL (fewS s) v C) := fun x hx => by
  rcases putL_mem hx with e | hx
  · exact ⟨k, by omega, s, hs, e⟩
  · obtain ⟨j, hj, h2⟩ := h x hx
    exact ⟨j, by omega, h2⟩
theorem Among.cut {L : List ByteArray} {k : Nat} {C : List (ByteArray × Int)} (h : Among L (k + 1) C) {s : ByteArray} (hs : L[k]? = some s) : Among L k (cutL (fewS s) C) := fun x hx => by
  obtain ⟨hx1, hx2⟩ := List.mem_filter.1 hx
  obtain ⟨j, hj, s2, hs2, e⟩ := h x hx1
  refine ⟨j, ?_, s2, hs2, e⟩
  apply Classical.byContradiction
  intro hn
  have hjk : j = k := by omega
  subst hjk
  rw [hs] at hs2
  injection hs2 with hs2
  rw [e, hs2] at hx2
  simp at hx2
theorem Among.none {L : List ByteArray} {C : List (ByteArray × Int)} (h : Among L 0 C) : C = [] := by
  rcases C with _ | ⟨x, C⟩
  · rfl
  · obtain ⟨j, hj, -⟩ := h x List.mem_cons_self
    omega
set_option maxHeartbeats 8000000 in
set_option maxRecDepth 100000 in
theorem walk (A : Option Addr) (n c : Nat) (L0 : List ByteArray) (w : World) (hl0 : L0.length = n) (hnc : n ≤ c) (hcm : c ≤ maxLen) (hr0 : Strs w A L0) :
    Calls Try.prog 9 #[.slice A n c] w fun e w' => e = .returned (.bool true) ∧ Below w.heap.size w w' := by
  have hcI : (c : Int) ≤ 9223372036854775807 := by unfold maxLen at hcm; omega
  by_cases hn40 : 40 < n
  · have hl : (L0.take 40).length = 40 := by rw [List.length_take]; omega
    have hr : Strs w A (L0.take 40) := Strs.take hr0 40
    have hnI : (40 : Int) < (n : Int) := by omega
    have hcc : (40 : Int) ≤ (c : Int) := by omega
    generalize L0.take 40 = L at *
    have HL := Lib.hid hl
    have HR := Lib.hid hr
    clear hl hr hl0 hr0
    go_enter Try.func9, Try.ntmps9
    go_wp2_with fail
    refine (tnew_any w).mono ?_
    rintro e w1 ⟨rfl, h1, b1⟩
    have H1 := Lib.hid h1
    have HB1 := Lib.hid b1
    clear h1 b1
    go_wp2_with fail
    go_loopw [4] (fun u wr => ∃ (i : Nat) (T : Tr), i ≤ 40 ∧ u = .int .i64 i ∧ Hid (TrAt w.heap.size wr T) ∧ Hid (T.con.length ≤ i) ∧ Hid (Among L i T.con) ∧ Hid (Below w.heap.size w wr)) (fun u _ => 40 - (intOf u).toNat)
    case atStart => exact ⟨0, .nil, by omega, rfl, H1, Nat.le_refl 0, fun x hx => (by cases hx), HB1⟩
    case round =>
      obtain ⟨i, T, hi, rfl, HT, HLen, HA, HI⟩ := hrel
      by_cases hlt : i < 40
      · have hil : i < L.length := by rw [HL.out]; exact hlt
        obtain ⟨b, off, rfl, c0⟩ := str_at HR.out HI.out hil
        have hs : L[i]? = some L[i] := List.getElem?_eq_getElem hil
        have hiI : (i : Int) < 40 := by omega
        generalize L[i] = s at *
        go_wp2_with fail
        refine (few_any _ s).mono ?_
        rintro e w2 ⟨rfl, rfl⟩
        go_wp2_with fail
        refine (tput_any HT.out (by have := HLen.out; omega) (fewS s) (by have := fewS_size s; omega) i).mono ?_
        rintro e w3 ⟨rfl, T', h3, c3, t3⟩
        have H3 := Lib.hid h3
        have HB3 := Lib.hid (HI.out.trans (t3.below (by simp) HI.out.size))
        have HLen3 : Hid (T'.con.length ≤ i + 1) := by
          show T'.con.length ≤ i + 1
          rw [c3]
          have := putL_len (k := fewS s) (v := (i : Int)) T.con
          have := HLen.out
          omega
        have HA3 : Hid (Among L (i + 1) T'.con) := by
          show Among L (i + 1) T'.con
          rw [c3]
          exact HA.out.put hs _
        clear h3 t3 c3 HT HLen HA HI
        go_wp2_with fail
        go_roundw
        case rel => exact ⟨i + 1, T', by omega, by go_num, H3, HLen3, HA3, HB3⟩
        case measure => simp [intOf]; omega
      · have him : i = 40 := by omega
        have hm40 : 40 ≤ 40 := by omega
        have HA0 : Hid (Among L 40 T.con) := by
          show Among L 40 T.con
          rw [← him]
          exact HA.out
        have HLn : Hid (T.con.length ≤ 40) := by
          show T.con.length ≤ 40
          have := HLen.out
          omega
        have HN := Lib.hid (len_any HT.out)
        have hltI : ¬ (i : Int) < 40 := by omega
        clear him HA HLen hi
        go_wp2_with fail
        refine HN.out.mono ?_
        rintro e w2 ⟨rfl, rfl⟩
        clear HN
        go_wp2_with fail
        go_loopw [5, 6] (fun u5 u6 wr => ∃ (p : Nat) (T : Tr), p ≤ 40 ∧ u6 = .int .i64 ((p : Int) - 1) ∧ u5 = .int .i64 (T.con.length : Int) ∧ Hid (TrAt w.heap.size wr T) ∧ Hid (T.con.length ≤ 40) ∧ Hid (Among L p T.con) ∧ Hid (Below w.heap.size w wr)) (fun _ u6 _ => (intOf u6 + 1).toNat)
        case atStart => exact ⟨40, T, by omega, by first | rfl | (congr 1), rfl, HT, HLn, HA0, HI⟩
        case round =>
          obtain ⟨p, T, hp, rfl, rfl, HT, HLen, HA, HI⟩ := hrel
          rcases p with _ | q
          · have hnil := HA.out.none
            have hz : T.size = 0 := by rw [← con_len, hnil]; rfl
            have hht : T.ht = 0 := by have := ht_size T; omega
            have HH := Lib.hid (hgt_any HT.out)
            have HK := Lib.hid (keys_any wr w.heap.size T HT.out.tr HT.out.top (by omega) ⟨#[]⟩ 9)
            rw [keysF_con HT.out.ris, hnil, show keysL [] ⟨#[]⟩ 9 = [] from rfl] at HK
            rw [hht] at HH
            rw [hnil]
            clear HA hnil hz hht HLen HT
            go_wp2_with fail
            refine HH.out.mono ?_
            rintro e w3 ⟨rfl, rfl⟩
            go_wp2_with fail
            refine HK.out.mono ?_
            rintro e w4 ⟨v, rfl, ho, b4⟩
            obtain ⟨A4, n4, c4, rfl, hn4, -⟩ := ownS_row ho
            obtain rfl : n4 = 0 := hn4.symm
            have HI4 := Lib.hid (HI.out.trans (b4.mono HI.out.size))
            clear ho b4 HK HH HI
            go_wp2_with fail
            refine (lives_any w4).mono ?_
            rintro e w5 ⟨rfl, b5⟩
            have HI5 := Lib.hid (HI4.out.trans (b5.mono HI4.out.size))
            clear b5 HI4
            go_wp2_with fail
            go_ret
            exact ⟨rfl, HI5.out⟩
          · have hqe : ((q + 1 : Nat) : Int) - 1 = (q : Int) := by omega
            rw [hqe]
            have hqL : q < L.length := by rw [HL.out]; omega
            obtain ⟨b, off, rfl, c0⟩ := str_at HR.out HI.out hqL
            have hs : L[q]? = some L[q] := List.getElem?_eq_getElem hqL
            have hq0 : (0 : Int) ≤ (q : Int) := by omega
            have hqI : (q : Int) < 40 := by omega
            generalize L[q] = s at *
            clear hqe
            go_wp2_with fail
            refine (few_any _ s).mono ?_
            rintro e w3 ⟨rfl, rfl⟩
            go_wp2_with fail
            refine (tcut_any HT.out (by have := HLen.out; omega) (fewS s)).mono ?_
            rintro e w4 ⟨rfl, T', h4, c4, t4⟩
            have H4 := Lib.hid h4
            have HB4 := Lib.hid (HI.out.trans (t4.below (by simp) HI.out.size))
            have hcl := cutL_len (k := fewS s) HT.out.ris
            rw [← c4] at hcl
            have HLen4 : Hid (T'.con.length ≤ 40) := by
              show T'.con.length ≤ 40
              have := HLen.out
              omega
            have HA4 : Hid (Among L q T'.con) := by
              show Among L q T'.con
              rw [c4]
              exact HA.out.cut hs
            have HG := Lib.hid (get_any h4 (fewS s))
            rw [show getL (fewS s) T'.con = none by rw [c4]; exact getL_cut _ _] at HG
            have HN4 := Lib.hid (len_any h4)
            have hcell : w4.cell? ⟨b, off + q, none⟩ = some (.string s) := by
              obtain ⟨b', off', e', c5⟩ := str_at HR.out HB4.out hqL
              cases e'
              have : L[q]? = some L[q] := List.getElem?_eq_getElem hqL
              rw [hs] at this
              injection this with this
              rw [this]
              exact c5
            clear h4 t4 c4 HT HLen HA HI c0
            cases hh : hadL (fewS s) T.con with
            | true =>
              rw [hh] at hcl
              have hcl2 : (T.con.length : Int) - 1 = (T'.con.length : Int) := by simp at hcl; omega
              have hbnd : (T'.con.length : Int) ≤ 40 := by have := HLen4.out; omega
              have hw64 : wrap64 (T'.con.length : Int) = (T'.con.length : Int) := wrap64_small (by omega) (by omega)
              clear hcl
              go_wp2_with fail
              refine (few_any _ s).mono ?_
              rintro e w5 ⟨rfl, rfl⟩
              go_wp2_with fail
              refine HG.out.mono ?_
              rintro e w6 ⟨rfl, rfl⟩
              go_wp2_with fail
              refine HN4.out.mono ?_
              rintro e w7 ⟨rfl, rfl⟩
              go_wp2_with fail
              go_roundw
              case rel => exact ⟨q, T', by omega, by go_num, by first | rfl | rw [hcl2], H4, HLen4, HA4, HB4⟩
              case measure => simp [intOf] <;> omega
            | false =>
              rw [hh] at hcl
              have hcl2 : (T.con.length : Int) = (T'.con.length : Int) := by simp at hcl; omega
              clear hcl
              go_wp2_with fail
              refine (few_any _ s).mono ?_
              rintro e w5 ⟨rfl, rfl⟩
              go_wp2_with fail
              refine HG.out.mono ?_
              rintro e w6 ⟨rfl, rfl⟩
              go_wp2_with fail
              refine HN4.out.mono ?_
              rintro e w7 ⟨rfl, rfl⟩
              go_wp2_with fail
              go_roundw
              case rel => exact ⟨q, T', by omega, by go_num, by first | rfl | rw [hcl2], H4, HLen4, HA4, HB4⟩
              case measure => simp [intOf] <;> omega
  · have hl := hl0
    have hr := hr0
    generalize L0 = L at *
    have HL := Lib.hid hl
    have HR := Lib.hid hr
    clear hl hr hl0 hr0
    go_enter Try.func9, Try.ntmps9
    go_wp2_with fail
    refine (tnew_any w).mono ?_
    rintro e w1 ⟨rfl, h1, b1⟩
    have H1 := Lib.hid h1
    have HB1 := Lib.hid b1
    clear h1 b1
    go_wp2_with fail
    go_loopw [4] (fun u wr => ∃ (i : Nat) (T : Tr), i ≤ n ∧ u = .int .i64 i ∧ Hid (TrAt w.heap.size wr T) ∧ Hid (T.con.length ≤ i) ∧ Hid (Among L i T.con) ∧ Hid (Below w.heap.size w wr)) (fun u _ => n - (intOf u).toNat)
    case atStart => exact ⟨0, .nil, by omega, rfl, H1, Nat.le_refl 0, fun x hx => (by cases hx), HB1⟩
    case round =>
      obtain ⟨i, T, hi, rfl, HT, HLen, HA, HI⟩ := hrel
      by_cases hlt : i < n
      · have hil : i < L.length := by rw [HL.out]; exact hlt
        obtain ⟨b, off, rfl, c0⟩ := str_at HR.out HI.out hil
        have hs : L[i]? = some L[i] := List.getElem?_eq_getElem hil
        have hiI : (i : Int) < (n : Int) := by omega
        generalize L[i] = s at *
        go_wp2_with fail
        refine (few_any _ s).mono ?_
        rintro e w2 ⟨rfl, rfl⟩
        go_wp2_with fail
        refine (tput_any HT.out (by have := HLen.out; omega) (fewS s) (by have := fewS_size s; omega) i).mono ?_
        rintro e w3 ⟨rfl, T', h3, c3, t3⟩
        have H3 := Lib.hid h3
        have HB3 := Lib.hid (HI.out.trans (t3.below (by simp) HI.out.size))
        have HLen3 : Hid (T'.con.length ≤ i + 1) := by
          show T'.con.length ≤ i + 1
          rw [c3]
          have := putL_len (k := fewS s) (v := (i : Int)) T.con
          have := HLen.out
          omega
        have HA3 : Hid (Among L (i + 1) T'.con) := by
          show Among L (i + 1) T'.con
          rw [c3]
          exact HA.out.put hs _
        clear h3 t3 c3 HT HLen HA HI
        go_wp2_with fail
        go_roundw
        case rel => exact ⟨i + 1, T', by omega, by go_num, H3, HLen3, HA3, HB3⟩
        case measure => simp [intOf]; omega
      · have him : i = n := by omega
        have hm40 : n ≤ 40 := by omega
        have HA0 : Hid (Among L n T.con) := by
          show Among L n T.con
          rw [← him]
          exact HA.out
        have HLn : Hid (T.con.length ≤ 40) := by
          show T.con.length ≤ 40
          have := HLen.out
          omega
        have HN := Lib.hid (len_any HT.out)
        have hltI : ¬ (i : Int) < (n : Int) := by omega
        clear him HA HLen hi
        go_wp2_with fail
        refine HN.out.mono ?_
        rintro e w2 ⟨rfl, rfl⟩
        clear HN
        go_wp2_with fail
        go_loopw [5, 6] (fun u5 u6 wr => ∃ (p : Nat) (T : Tr), p ≤ n ∧ u6 = .int .i64 ((p : Int) - 1) ∧ u5 = .int .i64 (T.con.length : Int) ∧ Hid (TrAt w.heap.size wr T) ∧ Hid (T.con.length ≤ 40) ∧ Hid (Among L p T.con) ∧ Hid (Below w.heap.size w wr)) (fun _ u6 _ => (intOf u6 + 1).toNat)
        case atStart => exact ⟨n, T, by omega, by first | rfl | (congr 1), rfl, HT, HLn, HA0, HI⟩
        case round =>
          obtain ⟨p, T, hp, rfl, rfl, HT, HLen, HA, HI⟩ := hrel
          rcases p with _ | q
          · have hnil := HA.out.none
            have hz : T.size = 0 := by rw [← con_len, hnil]; rfl
            have hht : T.ht = 0 := by have := ht_size T; omega
            have HH := Lib.hid (hgt_any HT.out)
            have HK := Lib.hid (keys_any wr w.heap.size T HT.out.tr HT.out.top (by omega) ⟨#[]⟩ 9)
            rw [keysF_con HT.out.ris, hnil, show keysL [] ⟨#[]⟩ 9 = [] from rfl] at HK
            rw [hht] at HH
            rw [hnil]
            clear HA hnil hz hht HLen HT
            go_wp2_with fail
            refine HH.out.mono ?_
            rintro e w3 ⟨rfl, rfl⟩
            go_wp2_with fail
            refine HK.out.mono ?_
            rintro e w4 ⟨v, rfl, ho, b4⟩
            obtain ⟨A4, n4, c4, rfl, hn4, -⟩ := ownS_row ho
            obtain rfl : n4 = 0 := hn4.symm
            have HI4 := Lib.hid (HI.out.trans (b4.mono HI.out.size))
            clear ho b4 HK HH HI
            go_wp2_with fail
            refine (lives_any w4).mono ?_
            rintro e w5 ⟨rfl, b5⟩
            have HI5 := Lib.hid (HI4.out.trans (b5.mono HI4.out.size))
            clear b5 HI4
            go_wp2_with fail
            go_ret
            exact ⟨rfl, HI5.out⟩
          · have hqe : ((q + 1 : Nat) : Int) - 1 = (q : Int) := by omega
            rw [hqe]
            have hqL : q < L.length := by rw [HL.out]; omega
            obtain ⟨b, off, rfl, c0⟩ := str_at HR.out HI.out hqL
            have hs : L[q]? = some L[q] := List.getElem?_eq_getElem hqL
            have hq0 : (0 : Int) ≤ (q : Int) := by omega
            have hqI : (q : Int) < (n : Int) := by omega
            generalize L[q] = s at *
            clear hqe
            go_wp2_with fail
            refine (few_any _ s).mono ?_
            rintro e w3 ⟨rfl, rfl⟩
            go_wp2_with fail
            refine (tcut_any HT.out (by have := HLen.out; omega) (fewS s)).mono ?_
            rintro e w4 ⟨rfl, T', h4, c4, t4⟩
            have H4 := Lib.hid h4
            have HB4 := Lib.hid (HI.out.trans (t4.below (by simp) HI.out.size))
            have hcl := cutL_len (k := fewS s) HT.out.ris
            rw [← c4] at hcl
            have HLen4 : Hid (T'.con.length ≤ 40) := by
              show T'.con.length ≤ 40
              have := HLen.out
              omega
            have HA4 : Hid (Among L q T'.con) := by
              show Among L q T'.con
              rw [c4]
              exact HA.out.cut hs
            have HG := Lib.hid (get_any h4 (fewS s))
            rw [show getL (fewS s) T'.con = none by rw [c4]; exact getL_cut _ _] at HG
            have HN4 := Lib.hid (len_any h4)
            have hcell : w4.cell? ⟨b, off + q, none⟩ = some (.string s) := by
              obtain ⟨b', off', e', c5⟩ := str_at HR.out HB4.out hqL
              cases e'
              have : L[q]? = some L[q] := List.getElem?_eq_getElem hqL
              rw [hs] at this
              injection this with this
              rw [this]
              exact c5
            clear h4 t4 c4 HT HLen HA HI c0
            cases hh : hadL (fewS s) T.con with
            | true =>
              rw [hh] at hcl
              have hcl2 : (T.con.length : Int) - 1 = (T'.con.length : Int) := by simp at hcl; omega
              have hbnd : (T'.con.length : Int) ≤ 40 := by have := HLen4.out; omega
              have hw64 : wrap64 (T'.con.length : Int) = (T'.con.length : Int) := wrap64_small (by omega) (by omega)
              clear hcl
              go_wp2_with fail
              refine (few_any _ s).mono ?_
              rintro e w5 ⟨rfl, rfl⟩
              go_wp2_with fail
              refine HG.out.mono ?_
              rintro e w6 ⟨rfl, rfl⟩
              go_wp2_with fail
              refine HN4.out.mono ?_
              rintro e w7 ⟨rfl, rfl⟩
              go_wp2_with fail
              go_roundw
              case rel => exact ⟨q, T', by omega, by go_num, by first | rfl | rw [hcl2], H4, HLen4, HA4, HB4⟩
              case measure => simp [intOf] <;> omega
            | false =>
              rw [hh] at hcl
              have hcl2 : (T.con.length : Int) = (T'.con.length : Int) := by simp at hcl; omega
              clear hcl
              go_wp2_with fail
              refine (few_any _ s).mono ?_
              rintro e w5 ⟨rfl, rfl⟩
              go_wp2_with fail
              refine HG.out.mono ?_
              rintro e w6 ⟨rfl, rfl⟩
              go_wp2_with fail
              refine HN4.out.mono ?_
              rintro e w7 ⟨rfl, rfl⟩
              go_wp2_with fail
              go_roundw
              case rel => exact ⟨q, T', by omega, by go_num, by first | rfl | rw [hcl2], H4, HLen4, HA4, HB4⟩
              case measure => simp [intOf] <;> omega
end Go.Proofs.Ytoooainecoappaa.treeCuts
