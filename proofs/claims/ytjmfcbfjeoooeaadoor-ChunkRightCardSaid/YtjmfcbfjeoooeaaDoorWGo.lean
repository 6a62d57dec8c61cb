/-
  The program's Go and Covers.
-/
import Derived.Test.YtjmfcbfjeoooeaaDoorWAdd
namespace Go.Proofs.YtjmfcbfjeoooeaaDoor
open Go.RowKit Dg
set_option maxRecDepth 100000
theorem leq_not {x y : List UInt8} (h : Op.bytesLess y x = true) : Op.bytesLess x y = false ∧ (x == y) = false := by
  refine ⟨less_asymm _ _ h, ?_⟩
  rw [beq_eq_false_iff_ne]
  rintro rfl
  rw [less_irrefl] at h; cases h
theorem leq_is {x y : List UInt8} (h : Op.bytesLess y x = false) : Op.bytesLess x y = true ∨ Op.bytesLess x y = false ∧ (x == y) = true := by
  cases h2 : Op.bytesLess x y
  · right
    exact ⟨rfl, by rw [less_total _ _ h2 h]; simp⟩
  · exact .inl rfl
theorem go_of_none {T : List Wk} {s k : ByteArray} {dn : Bool} (h : plW T s = false) : goE T s k dn = 7 ∧ goW T s k dn = [] := by
  have e : goE T s k dn = 7 := by unfold goE; simp [h]
  exact ⟨e, by unfold goW; rw [e]; rfl⟩
theorem go_of_done {T : List Wk} {s k : ByteArray} {dn : Bool} (h : plW T s = true) (hd : wdF T s = true) : goE T s k dn = 14 ∧ goW T s k dn = [] := by
  have e : goE T s k dn = 14 := by unfold goE; simp [h, hd]
  exact ⟨e, by unfold goW; rw [e]; rfl⟩
theorem go_of_end {T : List Wk} {s k : ByteArray} (h : plW T s = true) (hd : wdF T s = false) : goE T s k true = 0 ∧ goW T s k true = T.take (lbW T s) ++ [⟨s, true, ⟨#[]⟩⟩] ++ T.drop (lbW T s + 1) := by
  have e : goE T s k true = 0 := by unfold goE; simp [h, hd]
  exact ⟨e, by unfold goW; rw [e]; rfl⟩
theorem go_of_nokey {T : List Wk} {s k : ByteArray} (h : plW T s = true) (hd : wdF T s = false) (hk : isKeyB k = false) : goE T s k false = 14 ∧ goW T s k false = [] := by
  have e : goE T s k false = 14 := by unfold goE; simp [h, hd, hk]
  exact ⟨e, by unfold goW; rw [e]; rfl⟩
theorem go_of_behind {T : List Wk} {s k : ByteArray} (h : plW T s = true) (hd : wdF T s = false) (hk : isKeyB k = true) (hl : Op.bytesLess (wkF T s).toList k.toList = false) : goE T s k false = 14 ∧ goW T s k false = [] := by
  have e : goE T s k false = 14 := by unfold goE; simp [h, hd, hk, hl]
  exact ⟨e, by unfold goW; rw [e]; rfl⟩
theorem go_of_key {T : List Wk} {s k : ByteArray} (h : plW T s = true) (hd : wdF T s = false) (hk : isKeyB k = true) (hl : Op.bytesLess (wkF T s).toList k.toList = true) : goE T s k false = 0 ∧ goW T s k false = T.take (lbW T s) ++ [⟨s, false, k⟩] ++ T.drop (lbW T s + 1) := by
  have e : goE T s k false = 0 := by unfold goE; simp [h, hd, hk, hl]
  exact ⟨e, by unfold goW; rw [e]; rfl⟩
theorem wcells {w : World} {A : Option Addr} {T : List Wk} {s : ByteArray} (h : WRow w A T) (hp : plW T s = true) :
    ∃ b off, A = some ⟨b, off, none⟩ ∧ w.cell? ⟨b, off + lbW T s * 3 + 1, none⟩ = some (.bool (wdF T s)) ∧ w.cell? ⟨b, off + lbW T s * 3 + 2, none⟩ = some (.string (wkF T s)) := by
  have hl := plW_lt hp
  obtain ⟨b, off, e, hc⟩ := h (by intro e; rw [e] at hl; simp at hl)
  obtain ⟨_, c1, c2⟩ := hc _ hl
  exact ⟨b, off, e, by rw [wdF_at hl]; exact c1, by rw [wkF_at hl]; exact c2⟩
set_option maxHeartbeats 4000000 in
theorem pgo_any {B : Nat} {v : Value} {T : List Wk} (s k : ByteArray) (dn : Bool) (w : World) (h : OwnW B w v T) (hl : T.length ≤ 800) (hS : SortW T) (hk : k.size ≤ 900) (hT : Tabs w) :
    Calls Tryd.prog 28 #[v, .string s, .string k, .bool dn] w fun e w' => ∃ u, e = .returned (.tuple #[u, .int .i64 (goE T s k dn)]) ∧ Hid (OwnW w.heap.size w' u (goW T s k dn)) ∧ Hid (Below w.heap.size w w') := by
  obtain ⟨A, n, c, rfl, hn, hc, hm, hr, hz⟩ := ownW_open h
  have HO := Lib.hid h
  have HP := Lib.hid (wplace_any A T n c s w hn.out (by have := hn.out; omega) hr.out hS)
  have HT := Lib.hid hT
  have hlb := lw_le T s
  rw [hn.out] at hlb
  have HKEY := Lib.hid (fun W hW => isKey_any k W hk hW)
  have HN := Lib.hid hn.out
  have HR := hr
  clear hn hr hz h hS hT
  cases hp : plW T s
  · have HG := Lib.hid (go_of_none (k := k) (dn := dn) hp)
    rw [hp] at HP
    clear hp
    go_enter Tryd.func28, Tryd.ntmps28
    go_wp2_with fail
    refine HP.out.mono ?_
    rintro e w1 ⟨rfl, hb1⟩
    go_wp2_with fail
    go_ret2
    exact ⟨_, by rw [HG.out.1]; rfl, by rw [HG.out.2]; exact ownW_nil _ _, hb1⟩
  · have hlt : lbW T s < n := by rw [← HN.out]; exact plW_lt hp
    obtain ⟨b, off, rfl, z1, z2⟩ := wcells HR.out hp
    rw [hp] at HP
    have HP1 := Lib.hid hp
    clear hp
    have HD := Lib.hid (fun x W (hb : Below w.heap.size w W) => wput_one HO.out hl (lbW T s) (lbW T s + 1) (by omega) (by omega) x W hb)
    have hltz : ((lbW T s : Nat) : Int) < (n : Int) := by omega
    have hlw : IntKind.i64.wrap (((lbW T s : Nat) : Int) + 1) = ((lbW T s + 1 : Nat) : Int) := by
      have := HN.out
      rw [IntKind.wrap_i64]; omega
    have HZ1 : Hid (∀ W, Below w.heap.size w W → W.cell? ⟨b, off + lbW T s * 3 + 1, none⟩ = some (.bool (wdF T s))) := fun W hb => keepW hb z1
    have HZ2 : Hid (∀ W, Below w.heap.size w W → W.cell? ⟨b, off + lbW T s * 3 + 2, none⟩ = some (.string (wkF T s))) := fun W hb => keepW hb z2
    clear z1 z2
    cases hd : wdF T s
    · cases dn
      · cases hk' : isKeyB k
        · have HG := Lib.hid (go_of_nokey HP1.out hd hk')
          rw [hk'] at HKEY
          rw [hd] at HZ1
          clear hd hk'
          generalize lbW T s = lb at *
          go_enter Tryd.func28, Tryd.ntmps28
          go_wp2_with fail
          refine HP.out.mono ?_
          rintro e w1 ⟨rfl, hb1⟩
          have y1 := HZ1.out w1 hb1.out
          go_wp2_with fail
          refine (HKEY.out _ (HT.out.below hb1.out)).mono ?_
          rintro e w2 ⟨rfl, hb2⟩
          have HB2 : Hid (Below w.heap.size w w2) := hb1.out.trans (hb2.out.mono hb1.out.size)
          clear y1 hb1 hb2
          go_wp2_with fail
          go_ret2
          exact ⟨_, by rw [HG.out.1]; rfl, by rw [HG.out.2]; exact ownW_nil _ _, HB2⟩
        · cases hlq : Op.bytesLess (wkF T s).toList k.toList
          · have HG := Lib.hid (go_of_behind HP1.out hd hk' hlq)
            rw [hk'] at HKEY
            rw [hd] at HZ1
            clear hd hk'
            generalize lbW T s = lb at *
            generalize wkF T s = wk at *
            rcases leq_is hlq with hq | ⟨hq, hq2⟩
            all_goals
              clear hlq
              go_enter Tryd.func28, Tryd.ntmps28
              go_wp2_with fail
              refine HP.out.mono ?_
              rintro e w1 ⟨rfl, hb1⟩
              have y1 := HZ1.out w1 hb1.out
              go_wp2_with fail
              refine (HKEY.out _ (HT.out.below hb1.out)).mono ?_
              rintro e w2 ⟨rfl, hb2⟩
              have HB2 : Hid (Below w.heap.size w w2) := hb1.out.trans (hb2.out.mono hb1.out.size)
              have y2 := HZ2.out w2 HB2.out
              clear y1 hb1 hb2
              go_wp2_with fail
              go_ret2
              exact ⟨_, by rw [HG.out.1]; rfl, by rw [HG.out.2]; exact ownW_nil _ _, HB2⟩
          · have HG := Lib.hid (go_of_key HP1.out hd hk' hlq)
            rw [hk'] at HKEY
            rw [hd] at HZ1
            clear hd hk'
            generalize lbW T s = lb at *
            generalize wkF T s = wk at *
            obtain ⟨hq, hq2⟩ := leq_not hlq
            clear hlq
            go_enter Tryd.func28, Tryd.ntmps28
            go_wp2_with fail
            refine HP.out.mono ?_
            rintro e w1 ⟨rfl, hb1⟩
            have y1 := HZ1.out w1 hb1.out
            go_wp2_with fail
            refine (HKEY.out _ (HT.out.below hb1.out)).mono ?_
            rintro e w2 ⟨rfl, hb2⟩
            have HB2 : Hid (Below w.heap.size w w2) := hb1.out.trans (hb2.out.mono hb1.out.size)
            have y2 := HZ2.out w2 HB2.out
            clear y1 hb1 hb2
            go_wp2_with fail
            refine (upTo_any s k _).mono ?_
            rintro e w3 ⟨rfl, hb3⟩
            have HB3 : Hid (Below w.heap.size w w3) := HB2.out.trans (hb3.out.mono HB2.out.size)
            clear hb3
            go_wp2_with fail
            refine (HD.out ⟨s, false, k⟩ _ HB3.out).mono ?_
            rintro e w4 ⟨u, rfl, ho, hb4⟩
            have HB4 : Hid (Below w.heap.size w w4) := HB3.out.trans (hb4.out.mono HB3.out.size)
            have HOO := Lib.hid (ownW_down ho.out HB3.out.size)
            clear ho hb4 y2
            go_wp2_with fail
            go_ret2
            exact ⟨_, by rw [HG.out.1]; rfl, by rw [HG.out.2]; exact HOO.out, HB4⟩
      · have HG := Lib.hid (go_of_end (k := k) HP1.out hd)
        rw [hd] at HZ1
        clear hd
        generalize lbW T s = lb at *
        go_enter Tryd.func28, Tryd.ntmps28
        go_wp2_with fail
        refine HP.out.mono ?_
        rintro e w1 ⟨rfl, hb1⟩
        have y1 := HZ1.out w1 hb1.out
        go_wp2_with fail
        refine (atEnd_any s _).mono ?_
        rintro e w3 ⟨rfl, hb3⟩
        have HB3 : Hid (Below w.heap.size w w3) := hb1.out.trans (hb3.out.mono hb1.out.size)
        clear hb3
        go_wp2_with fail
        refine (HD.out ⟨s, true, ⟨#[]⟩⟩ _ HB3.out).mono ?_
        rintro e w4 ⟨u, rfl, ho, hb4⟩
        have HB4 : Hid (Below w.heap.size w w4) := HB3.out.trans (hb4.out.mono HB3.out.size)
        have HOO := Lib.hid (ownW_down ho.out HB3.out.size)
        clear ho hb4 y1
        go_wp2_with fail
        go_ret2
        exact ⟨_, by rw [HG.out.1]; rfl, by rw [HG.out.2]; exact HOO.out, HB4⟩
    · have HG := Lib.hid (go_of_done (k := k) (dn := dn) HP1.out hd)
      rw [hd] at HZ1
      clear hd
      generalize lbW T s = lb at *
      go_enter Tryd.func28, Tryd.ntmps28
      go_wp2_with fail
      refine HP.out.mono ?_
      rintro e w1 ⟨rfl, hb1⟩
      have y1 := HZ1.out w1 hb1.out
      go_wp2_with fail
      go_ret2
      exact ⟨_, by rw [HG.out.1]; rfl, by rw [HG.out.2]; exact ownW_nil _ _, hb1⟩
set_option maxHeartbeats 4000000 in
theorem cov_any {B : Nat} {v : Value} {T : List Wk} (s k : ByteArray) (w : World) (h : OwnW B w v T) (hl : T.length ≤ 800) (hS : SortW T) :
    Calls Tryd.prog 30 #[v, .string s, .string k] w fun e w' => e = .returned (.bool (covB T s k)) ∧ Hid (Below w.heap.size w w') := by
  obtain ⟨A, n, c, rfl, hn, hc, hm, hr, hz⟩ := ownW_open h
  have HP := Lib.hid (wplace_any A T n c s w hn.out (by have := hn.out; omega) hr.out hS)
  have hlb := lw_le T s
  rw [hn.out] at hlb
  have HN := Lib.hid hn.out
  have HR := hr
  have HC0 : Hid (covB T s k = (plW T s && (wdF T s || (!((wkF T s).size == 0) && !Op.bytesLess (wkF T s).toList k.toList)))) := rfl
  have HSZ := size_e (wkF T s)
  clear hn hr hz h hS
  cases hp : plW T s
  · rw [hp] at HP HC0
    clear hp
    go_enter Tryd.func30, Tryd.ntmps30
    go_wp2_with fail
    refine HP.out.mono ?_
    rintro e w1 ⟨rfl, hb1⟩
    go_wp2_with fail
    go_ret
    exact ⟨by rw [HC0.out]; rfl, hb1⟩
  · have hlt : lbW T s < n := by rw [← HN.out]; exact plW_lt hp
    obtain ⟨b, off, rfl, z1, z2⟩ := wcells HR.out hp
    rw [hp] at HP HC0
    clear hp
    have hltz : ((lbW T s : Nat) : Int) < (n : Int) := by omega
    have HZ1 : Hid (∀ W, Below w.heap.size w W → W.cell? ⟨b, off + lbW T s * 3 + 1, none⟩ = some (.bool (wdF T s))) := fun W hb => keepW hb z1
    have HZ2 : Hid (∀ W, Below w.heap.size w W → W.cell? ⟨b, off + lbW T s * 3 + 2, none⟩ = some (.string (wkF T s))) := fun W hb => keepW hb z2
    clear z1 z2
    generalize lbW T s = lb at *
    generalize wdF T s = wd at *
    generalize wkF T s = wk at *
    go_enter Tryd.func30, Tryd.ntmps30
    go_wp2_with fail
    refine HP.out.mono ?_
    rintro e w1 ⟨rfl, hb1⟩
    have y1 := HZ1.out w1 hb1.out
    have y2 := HZ2.out w1 hb1.out
    cases wd
    · cases hz0 : wk.size == 0
      · rw [hz0] at HSZ HC0
        go_wp2_with fail
        go_ret
        exact ⟨by rw [HC0.out]; simp, hb1⟩
      · rw [hz0] at HSZ HC0
        go_wp2_with fail
        go_ret
        exact ⟨by rw [HC0.out]; simp, hb1⟩
    · go_wp2_with fail
      go_ret
      exact ⟨by rw [HC0.out]; simp, hb1⟩
end Go.Proofs.YtjmfcbfjeoooeaaDoor
