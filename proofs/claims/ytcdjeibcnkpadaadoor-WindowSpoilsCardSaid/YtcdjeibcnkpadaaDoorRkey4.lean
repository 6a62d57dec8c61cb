/-
  The key of a row: the document's.
-/
import Derived.Test.YtcdjeibcnkpadaaDoorQc
import Derived.Test.YtcdjeibcnkpadaaDoorRkey
namespace Go.Proofs.YtcdjeibcnkpadaaDoor
open Go.RowKit Dg
theorem VRow.takeK {w : World} {A : Option Addr} {L : List Vl} (h : VRow w A L) (k : Nat) : VRow w A (L.take k) := fun hl => by
  obtain ⟨b, off, e, hc⟩ := h (by rintro rfl; simp at hl)
  refine ⟨b, off, e, fun i hi => ?_⟩
  rw [List.length_take] at hi
  rw [List.getElem_take]
  exact hc i (by omega)
theorem fitsTo_may {M : List Cl} {R : List Vl} {k : Nat} (h : fitsTo M R k = true) (hM : k ≤ M.length) (hR : k ≤ R.length) : ∀ x ∈ R.take k, x.may = true := fun x hx => by
  obtain ⟨i, hi, rfl⟩ := List.getElem_of_mem hx
  rw [List.length_take] at hi
  rw [List.getElem_take]
  unfold fitsTo at h
  rw [List.all_eq_true] at h
  have := h i (List.mem_range.2 (by omega))
  rw [List.getElem?_eq_getElem (by omega), List.getElem?_eq_getElem (by omega)] at this
  simp only [standsF, Bool.and_eq_true] at this
  exact this.1
def keyOk (M : List Cl) (R : List Vl) (k : Nat) : Bool := decide (k ≤ R.length) && fitsTo M R k
def keyT (M : List Cl) (R : List Vl) (k : Nat) : Value := if keyOk M R k = true then .tuple #[.string (bs (keys (R.take k))), .int .i64 0] else .tuple #[.string ⟨#[]⟩, .int .i64 9]
set_option maxHeartbeats 4000000 in
set_option maxRecDepth 100000 in
theorem rkey_any (A : Option Addr) (M : List Cl) (n c : Nat) (kk : Nat) (Ar : Option Addr) (R : List Vl) (nr cr : Nat) (w : World) (hn : M.length = n) (hl : n ≤ 900) (hkn : kk ≤ n) (hk4 : kk ≤ 4) (hnc : nr ≤ cr) (hA : CRow w A M) (hnr : R.length = nr) (hR : VRow w Ar R) (hf : ∀ x ∈ R, x.fit) :
    Calls Tryd.prog 44 #[.agg #[.slice A n c, .int .i64 kk], .slice Ar nr cr] w fun e w' => e = .returned (keyT M R kk) ∧ Hid (Below w.heap.size w w') := by
  have HN := Lib.hid hn
  have HA := Lib.hid hA
  have HNR := Lib.hid hnr
  have HR := Lib.hid hR
  have HF := Lib.hid hf
  have HB0 := Lib.hid ((Below.refl w.heap.size w).alloc (Nat.le_refl _) (.cells #[.slice A n c, .int .i64 kk] 24))
  have HS0 := Lib.hid (Has.new w 24 #[.slice A n c, .int .i64 kk])
  clear hn hA hnr hR hf
  by_cases hnn : kk ≤ nr
  · have HC : Hid (keyOk M R kk = fitsTo M R kk) := by show _ = _; unfold keyOk; rw [HNR.out]; simp [hnn]
    have hqd : decide (nr < kk) = false := by simp; omega
    go_enter Tryd.func44, Tryd.ntmps44
    go_wp2_with fail
    go_loopw [6] (fun i wr => ∃ k : Nat, k ≤ kk ∧ i = .int .i64 k ∧ Hid (fitsTo M R k = true) ∧ Hid (Below w.heap.size w wr) ∧ Hid (Has wr w.heap.size 24 #[.slice A n c, .int .i64 kk])) (fun i _ => kk - (intOf i).toNat)
    case atStart => exact ⟨0, by omega, rfl, rfl, HB0.out, HS0.out⟩
    case round =>
      obtain ⟨k, hk, rfl, HT, HB, HS⟩ := hrel
      by_cases hlt : k < kk
      · have hkl : k < M.length := by rw [HN.out]; omega
        have hkr : k < R.length := by rw [HNR.out]; omega
        obtain ⟨b, off, rfl, hc⟩ := (HA.out.below HB.out) (by intro e; rw [e] at hkl; simp at hkl)
        obtain ⟨b', off', rfl, hc'⟩ := (HR.out.below HB.out) (by intro e; rw [e] at hkr; simp at hkr)
        obtain ⟨c0, c1, c2⟩ := hc k hkl
        obtain ⟨d0, d1, d2⟩ := hc' k hkr
        have hfit := (HF.out R[k] (List.getElem_mem hkr)).2.2
        have HSU := Lib.hid (fitsTo_succ M R k hkl hkr)
        have HFA := Lib.hid (fitsTo_false M R k kk hlt hkl hkr)
        clear hc hc'
        generalize M[k] = x at *
        generalize R[k] = y at *
        obtain ⟨xa, xb, xc⟩ := x
        obtain ⟨yk, yn, ys⟩ := y
        simp only at c0 c1 c2 d0 d1 d2 hfit
        have a0 : wr.cell? ⟨w.heap.size, 0, none⟩ = some (.slice (some ⟨b, off, none⟩) n c) := HS.out.cell 0
        have HCS := Lib.hid (fun W => stands_any xa xb xc yk yn ys W hfit)
        have hkz : (k : Int) < (nr : Int) := by omega
        have hkz2 : (k : Int) < (n : Int) := by omega
        have s1 : wr.cell? ⟨w.heap.size, 1, none⟩ = some (.int .i64 kk) := HS.out.cell 1
        have hk0 : (0 : Int) ≤ (k : Int) := by omega
        have hBD : Hid (Below wr.heap.size wr wr.drew) := (Below.refl _ wr).drew
        have hbw : Hid (Below w.heap.size w wr.drew) := HB.out.drew
        cases hq : standsF ⟨xa, xb, xc⟩ ⟨yk, yn, ys⟩
        · go_wp2_with fail
          go_region_held3 (fun W => Hid (Below w.heap.size w W) ∧ W.cell? ⟨w.heap.size, 0, none⟩ = some (.slice (some ⟨b, off, none⟩) n c) ∧ W.cell? ⟨b, off + k * 3, none⟩ = some (.string xa) ∧ W.cell? ⟨b, off + k * 3 + 1, none⟩ = some (.int .i64 xb) ∧ W.cell? ⟨b, off + k * 3 + 2, none⟩ = some (.bool xc) ∧ W.cell? ⟨b', off' + k * 3, none⟩ = some (.int .i64 yk) ∧ W.cell? ⟨b', off' + k * 3 + 1, none⟩ = some (.int .i64 yn) ∧ W.cell? ⟨b', off' + k * 3 + 2, none⟩ = some (.string ys)) ((refine ⟨by assumption, ?_⟩; go_keep))
            (first | (go_at_call 54; refine (HCS.out _).mono ?_; rintro e x1 ⟨rfl, hb1⟩; rw [hq]; have hbx := Lib.hid (hBD.out.trans (hb1.out.mono hBD.out.size)); have hby := Lib.hid (HB.out.trans (hbx.out.mono HB.out.size)); have za0 := keepC hbx.out a0; have zc0 := keepC hbx.out c0; have zc1 := keepC hbx.out c1; have zc2 := keepC hbx.out c2; have zd0 := keepC hbx.out d0; have zd1 := keepC hbx.out d1; have zd2 := keepC hbx.out d2; clear hb1))
          all_goals
            go_wp2_with fail
            go_ret2
            exact ⟨by unfold keyT; rw [HC.out, HFA.out hq]; rfl, hby⟩
        · go_wp2_with fail
          go_region_held3 (fun W => Hid (Below w.heap.size w W) ∧ W.cell? ⟨w.heap.size, 0, none⟩ = some (.slice (some ⟨b, off, none⟩) n c) ∧ W.cell? ⟨b, off + k * 3, none⟩ = some (.string xa) ∧ W.cell? ⟨b, off + k * 3 + 1, none⟩ = some (.int .i64 xb) ∧ W.cell? ⟨b, off + k * 3 + 2, none⟩ = some (.bool xc) ∧ W.cell? ⟨b', off' + k * 3, none⟩ = some (.int .i64 yk) ∧ W.cell? ⟨b', off' + k * 3 + 1, none⟩ = some (.int .i64 yn) ∧ W.cell? ⟨b', off' + k * 3 + 2, none⟩ = some (.string ys)) ((refine ⟨by assumption, ?_⟩; go_keep))
            (first | (go_at_call 54; refine (HCS.out _).mono ?_; rintro e x1 ⟨rfl, hb1⟩; rw [hq]; have hbx := Lib.hid (hBD.out.trans (hb1.out.mono hBD.out.size)); have hby := Lib.hid (HB.out.trans (hbx.out.mono HB.out.size)); have za0 := keepC hbx.out a0; have zc0 := keepC hbx.out c0; have zc1 := keepC hbx.out c1; have zc2 := keepC hbx.out c2; have zd0 := keepC hbx.out d0; have zd1 := keepC hbx.out d1; have zd2 := keepC hbx.out d2; clear hb1))
          all_goals
            go_wp2_with fail
            go_roundw
            case rel => exact ⟨k + 1, by omega, by go_num, by show _ = _; rw [HSU.out, HT.out, hq]; rfl, hby, HS.out.below hbx.out HS.out.lt⟩
            case measure => simp [intOf]; omega
      · obtain rfl : k = kk := by omega
        have s1 : wr.cell? ⟨w.heap.size, 1, none⟩ = some (.int .i64 k) := HS.out.cell 1
        have z1 : (0 : Int) ≤ (k : Int) := by omega
        have z2 : (k : Int) ≤ (cr : Int) := by omega
        go_wp2_with fail
        refine (refKey_any Ar (R.take k) k cr wr (by rw [List.length_take, HNR.out]; omega) (by omega) ((HR.out.below HB.out).takeK k) (fun x hx => HF.out x (List.mem_of_mem_take hx)) (fitsTo_may HT.out (by rw [HN.out]; omega) (by rw [HNR.out]; omega))).mono ?_
        rintro e w2 ⟨rfl, hb2⟩
        have HB2 := Lib.hid (HB.out.trans (hb2.out.mono HB.out.size))
        clear hb2
        go_wp2_with fail
        go_ret2
        exact ⟨by unfold keyT; rw [HC.out, HT.out]; rfl, HB2⟩
  · have HC : Hid (keyOk M R kk = false) := by show _ = _; unfold keyOk; rw [HNR.out]; simp [hnn]
    have hq : (nr : Int) < (kk : Int) := by omega
    go_enter Tryd.func44, Tryd.ntmps44
    go_wp2_with fail
    go_ret2
    exact ⟨by unfold keyT; rw [HC.out]; rfl, HB0⟩
end Go.Proofs.YtcdjeibcnkpadaaDoor
