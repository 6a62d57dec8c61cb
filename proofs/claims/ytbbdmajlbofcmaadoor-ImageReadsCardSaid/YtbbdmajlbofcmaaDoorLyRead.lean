/-
  A reader that is made of bytes, and a text that is read.
-/
import Derived.Test.YtbbdmajlbofcmaaDoorLyRdr
namespace Go.Proofs.YtbbdmajlbofcmaaDoor
open Go.RowKit Dg
set_option maxRecDepth 100000
theorem rd_none {w : World} {l : List Nat} (h : Rd w none l) : l = [] := by
  rcases l with _ | ⟨x, l⟩
  · rfl
  · obtain ⟨b, off, e, _⟩ := h (by simp)
    cases e
theorem rd_owned {w : World} {base c : Nat} {l : List Nat} {A : Option Addr} (h : w.ownsRow base 5 1 (.slice A l.length c) l.length (l.map bv)) : l.length ≤ c ∧ Rd w A l := by
  rcases h.2 with ⟨e, hn⟩ | ⟨g, cap, cur, e, _, hh, hc, _, _, ht⟩
  · injection e with e1 e2 e3
    refine ⟨by omega, ?_⟩
    rw [List.eq_nil_of_length_eq_zero hn]
    exact Rd.nil _ _
  · injection e with e1 e2 e3
    subst e1; subst e3
    refine ⟨hc, Rd.of_has (t := 5) (cs := cur) hh fun i hi => ?_⟩
    have h1 : (l.map bv)[i]? = some (bv l[i]) := by simp [hi]
    rw [← ht, List.getElem?_take, if_pos (by omega)] at h1
    simpa using h1
theorem clone_any (A : Option Addr) (l : List Nat) (c : Nat) (w : World) (h : Rd w A l) (hb : l.length ≤ 1000000) :
    Calls Tryd.prog 42 #[.slice A l.length c] w (Out w l) := by
  rcases A with _ | a
  · obtain rfl := rd_none h
    exact (Any.bytes_Clone_nil Tryd.laysSlK4 0 c w).mono fun e w' ⟨he, hw⟩ => ⟨_, he, none, 0, rfl, Nat.le_refl _, Rd.nil _ _, by rw [hw]; exact Below.refl _ _⟩
  · refine (Tryd.bytes_Clone_at a l.length c (l.map Int.ofNat) w (by simp) (by omega) ?_).mono ?_
    · intro i hi
      obtain ⟨b, off, e, hc⟩ := h (by rintro rfl; simp at hi)
      injection e with e
      subst e
      rw [Addr.add_lit, hc i hi]
      simp [bv, hi]
    · rintro e w' ⟨v', rfl, hown, hne, hb'⟩
      have hm : (l.map Int.ofNat).map (Value.int .u8) = l.map bv := by rw [List.map_map]; rfl
      rw [hm] at hown
      rcases hown.2 with ⟨e, hn⟩ | ⟨g, cap, cur, e, _, _⟩
      · exact absurd e hne
      · subst e
        obtain ⟨h1, h2⟩ := rd_owned hown
        exact ⟨_, rfl, _, _, rfl, h1, h2, hb'⟩

set_option maxHeartbeats 400000 in
theorem Read_any (A : Option Addr) (l : List Nat) (c : Nat) (w : World) (h : Rd w A l) (hb : l.length ≤ 1000000) :
    Calls Tryd.prog 13 #[.slice A l.length c] w fun e w' => ∃ g, e = .returned (.pointer (some ⟨g, 0, none⟩)) ∧ w.heap.size ≤ g ∧ Rdr w' g l 0 ∧ Below w.heap.size w w' := by
  have HC := Lib.hid (clone_any A l c w h hb)
  go_enter Tryd.func13, Tryd.ntmps13
  go_wp2_with fail
  refine HC.out.mono ?_
  rintro e w1 ⟨v, rfl, A', c', rfl, hc', hr, hbl⟩
  have HR := Lib.hid hr
  have HB := Lib.hid hbl
  clear hr hbl
  go_wp2_with fail
  go_ret
  exact ⟨_, rfl, HB.out.size, ⟨A', c', Has.new w1 79 _, hc', HR.out.below ((Below.refl _ _).alloc (Nat.le_refl _) _)⟩, HB.out.alloc HB.out.size _⟩

/-- What a reader's text is, what is left, and the error. -/
def textF (most : Int) (l : List Nat) (e : Nat) : List Nat × List Nat × Nat :=
  if e ≠ 0 then ([], l, e) else
  let R := headF 9223372036854775807 10 0 0 l
  if R.2.2 ≠ 0 then ([], l, R.2.2) else if most < R.1 then ([], l, 2) else if (l.length : Int) - R.2.1 < R.1 then ([], l, 4) else ((l.drop R.2.1).take R.1, l.drop (R.2.1 + R.1), 0)
theorem Rd.cut {w : World} {A : Option Addr} {l : List Nat} (h : Rd w A l) (k m : Nat) : Rd w (A.map (fun x => x.add k)) ((l.drop k).take m) := fun hl => by
  have hne : l ≠ [] := by rintro rfl; simp at hl
  obtain ⟨b, off, rfl, hc⟩ := h hne
  rw [Option.map_some, Addr.add_lit]
  exact ((Rd.drop h k).take m) hl
section
variable (g : Nat) (l : List Nat) (e : Nat) (w : World)
set_option maxHeartbeats 800000 in
theorem Text_get (most : Int) (h : Rdr w g l e) (hl : ∀ x ∈ l, x < 256) (hb : l.length ≤ 1000000) :
    Calls Tryd.prog 110 #[.pointer (some ⟨g, 0, none⟩), .int .i64 most] w (Step w g (.string (bs (textF most l e).1)) (textF most l e).2.1 (textF most l e).2.2) := by
  have H := Lib.hid h
  obtain ⟨A, c, hh, hn, hr⟩ := h
  have c0 : w.cell? ⟨g, 0, none⟩ = some (.slice A l.length c) := hh.cell 0
  have HR := Lib.hid hr
  have HAS := Lib.hid hh
  have HH := head_any A l c 9223372036854775807 w hb hl hr
  have hle := head_len 9223372036854775807 10 0 0 l
  have hbg := head_big 9223372036854775807 10 0 0 l
  obtain ⟨R, hR⟩ : ∃ R, R = headF 9223372036854775807 10 0 0 l := ⟨_, rfl⟩
  have hnum : textF most l e = if e ≠ 0 then ([], l, e) else if R.2.2 ≠ 0 then ([], l, R.2.2) else if most < R.1 then ([], l, 2) else if (l.length : Int) - R.2.1 < R.1 then ([], l, 4) else ((l.drop R.2.1).take R.1, l.drop (R.2.1 + R.1), 0) := by rw [hR]; rfl
  rw [hnum]
  rw [← hR] at HH hle hbg
  obtain ⟨r1, r2, r3⟩ := R
  simp only at hle hnum hbg ⊢
  have HHH := Lib.hid HH
  have hk : r2 ≤ l.length := by omega
  clear hh hr hR hnum HH hle
  by_cases he : e = 0
  · subst he
    rw [if_neg (by simp)]
    by_cases h3 : r3 = 0
    · subst h3
      rw [if_neg (by simp)]
      by_cases hm : most < r1
      · rw [if_pos hm]
        go_enter Tryd.func110, Tryd.ntmps110
        go_wp2_with fail
        refine HHH.out.mono ?_
        rintro x w1 ⟨rfl, rfl⟩
        go_wp2_with fail
        refine (pass_bad g l w _ 2 H.out (by omega)).mono ?_
        rintro x w1 ⟨rfl, hd, hg⟩
        have HD := Lib.hid hd
        have HG := Lib.hid hg
        clear hd hg
        go_wp2_with fail
        go_ret
        exact ⟨rfl, HD.out, HG.out⟩
      · rw [if_neg hm]
        by_cases hs : (l.length : Int) - r2 < r1
        · rw [if_pos hs]
          go_enter Tryd.func110, Tryd.ntmps110
          go_wp2_with fail
          refine HHH.out.mono ?_
          rintro x w1 ⟨rfl, rfl⟩
          go_wp2_with fail
          refine (pass_bad g l w _ 4 H.out (by omega)).mono ?_
          rintro x w1 ⟨rfl, hd, hg⟩
          have HD := Lib.hid hd
          have HG := Lib.hid hg
          clear hd hg
          go_wp2_with fail
          go_ret
          exact ⟨rfl, HD.out, HG.out⟩
        · rw [if_neg hs]
          go_enter Tryd.func110, Tryd.ntmps110
          go_wp2_with fail
          refine HHH.out.mono ?_
          rintro x w1 ⟨rfl, rfl⟩
          go_wp2_with fail
          refine (pass_good g l w (r2 + r1) H.out (by omega) hb).mono ?_
          rintro x w1 ⟨rfl, hd, hg⟩
          have HD := Lib.hid hd
          have HG := Lib.hid hg
          have HT := Lib.hid (HR.out.turn hg HAS.out (rdr_cells _ _ _ _))
          clear hd hg
          go_wp2_with fail
          · rw [conv_len w1 _ ((l.drop r2).take r1) r1 _ (by rw [List.length_take, List.length_drop]; omega) (by rw [List.drop_eq_nil_of_le (by omega), List.take_nil]; exact Rd.nil _ _)]
            go_wp2_with fail
            go_ret
            exact ⟨rfl, HD.out, HG.out⟩
          · rw [conv_len w1 _ ((l.drop r2).take r1) r1 _ (by rw [List.length_take, List.length_drop]; omega) (HT.out.cut r2 r1)]
            go_wp2_with fail
            go_ret
            exact ⟨rfl, HD.out, HG.out⟩
    · have HN := Lib.hid h3
      rw [if_pos h3]
      have q3 : ((r3 : Int) != 0) = true := by rw [bne_iff_ne]; omega
      clear h3
      go_enter Tryd.func110, Tryd.ntmps110
      go_wp2_with fail
      refine HHH.out.mono ?_
      rintro x w1 ⟨rfl, rfl⟩
      go_wp2_with fail
      refine (pass_bad g l w _ r3 H.out HN.out).mono ?_
      rintro x w1 ⟨rfl, hd, hg⟩
      have HD := Lib.hid hd
      have HG := Lib.hid hg
      clear hd hg
      go_wp2_with fail
      go_ret
      exact ⟨rfl, HD.out, HG.out⟩
  · have HN := Lib.hid he
    rw [if_pos he]
    clear he
    by_cases hm : most < r1 <;> by_cases hs : (l.length : Int) - r2 < r1 <;> by_cases h3 : r3 = 0
    all_goals
      have H3 := Lib.hid h3
      first | (have q3 : ((r3 : Int) != 0) = true := by rw [bne_iff_ne]; omega) | (have q3 : ((r3 : Int) != 0) = false := by rw [bne_eq_false_iff_eq]; omega)
      clear h3
      go_enter Tryd.func110, Tryd.ntmps110
      go_wp2_with fail
      refine HHH.out.mono ?_
      rintro x w1 ⟨rfl, rfl⟩
      go_wp2_with fail
      all_goals
        refine (pass_err g l e w _ _ H.out HN.out).mono ?_
        rintro x w1 ⟨rfl, rfl⟩
        go_wp2_with fail
        go_ret
        exact ⟨rfl, H.out, grown_refl _ _⟩
end
end Go.Proofs.YtbbdmajlbofcmaaDoor
