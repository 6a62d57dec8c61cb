/-
  The document's isKey, Go and Covers of works.
-/
import Derived.Test.YtjmfcbfjeoooeaaDoorRVals
namespace Go.Proofs.YtjmfcbfjeoooeaaDoor
open Go.RowKit Dg
set_option maxRecDepth 100000
set_option maxHeartbeats 4000000 in
theorem risKey_any (s : ByteArray) (w : World) (hs : s.size ≤ 64) :
    Calls Tryd.prog 46 #[.string s] w fun e w' => e = .returned (.bool (isKeyB s)) ∧ Hid (Below w.heap.size w w') := by
  have HC := Lib.hid (rvals_any s w (by omega))
  have HK : Hid (¬ s.size = 0 → (isKeyB s = true ↔ ∃ L, Good1 L ∧ keys L = sb s)) := isKeyB_iff s (by omega)
  have HE := Lib.hid (isKeyB_empty s)
  go_enter Tryd.func46, Tryd.ntmps46
  go_wp2_with fail
  refine HC.out.mono ?_
  rintro e w1 ⟨hR, hb⟩
  rcases hR with ⟨L, v, hG, hF, hLs, hk, rfl, hO⟩ | ⟨hno, rfl⟩
  · obtain ⟨A, c, rfl, hc1, hc2, hr, _⟩ := ownV_row hO
    obtain ⟨n, hn⟩ : ∃ n, L.length = n := ⟨_, rfl⟩
    rw [hn] at hc1 hLs ⊢
    by_cases h0 : s.size = 0
    · have h1 := HE.out h0
      obtain rfl : n = 0 := by omega
      clear hG hF hk hO hr
      go_wp2_with fail
      go_ret
      exact ⟨by rw [h1]; rfl, hb⟩
    · have h1 := (HK.out h0).2 ⟨L, hG, hk⟩
      have hn0 : 0 < n := by
        rcases Nat.eq_zero_or_pos n with h | h
        · have : L = [] := List.eq_nil_of_length_eq_zero (by omega)
          subst this
          have := congrArg List.length hk
          rw [sb_length] at this
          simp [keys] at this
          omega
        · exact h
      have hnz : (0 : Int) < (n : Int) := by omega
      have HKEY := Lib.hid (refKey_any A L n c w1 hn (by omega) hr (fun x hx => (hF x hx).1) (fun x hx => (hG x hx).1))
      rw [hk, bs_sb] at HKEY
      clear hG hF hk hO hr
      go_wp2_with fail
      refine HKEY.out.mono ?_
      rintro e w2 ⟨rfl, hb2⟩
      have HB2 : Hid (Below w.heap.size w w2) := hb.out.trans (hb2.out.mono hb.out.size)
      go_wp2_with fail
      go_ret
      exact ⟨by rw [h1]; simp, HB2⟩
  · have h1 : isKeyB s = false := by
      by_cases h0 : s.size = 0
      · exact HE.out h0
      · rw [← Bool.not_eq_true, HK.out h0]
        rintro ⟨L, hL, hk⟩
        exact hno L hL hk
    clear hno
    go_wp2_with fail
    go_ret
    exact ⟨by rw [h1]; rfl, hb⟩
theorem ownW_put3 {B : Nat} {w : World} {g n c : Nat} {L : List Wk} (h : OwnW B w (.slice (some ⟨g, 0, none⟩) n c) L) (i : Nat) (hi : i < L.length) (j : Nat) (hj : j < 3) (u : Value) (x : Wk) (hx : x.row = L[i].row.set j u) :
    w.frozen? ⟨g, i * 3 + j, none⟩ = false ∧ w.cell? ⟨g, i * 3 + j, none⟩ = L[i].row[j]? ∧ B ≤ g ∧ OwnW B (w.setCell ⟨g, i * 3 + j, none⟩ u) (.slice (some ⟨g, 0, none⟩) n c) (L.set i x) := by
  obtain ⟨g2, c2, hv, hB, _, hf, hc, ho⟩ := ownW_put h i hi j hj u x hx
  obtain ⟨e1, _, _⟩ := slice_inj hv
  injection e1 with e1
  injection e1 with e1
  subst e1
  exact ⟨hf, hc, hB, ho⟩
theorem ownW_some {B : Nat} {w : World} {A : Option Addr} {n c : Nat} {T : List Wk} (h : OwnW B w (.slice A n c) T) (h0 : 0 < T.length) : ∃ g, A = some ⟨g, 0, none⟩ ∧ T.length = n ∧ n ≤ c ∧ B ≤ g := by
  rcases h.2 with ⟨hv, hn⟩ | ⟨g, cap, cur, hv, hg, hh, hc, hcm, hsz, ht⟩
  · omega
  · obtain ⟨rfl, rfl, rfl⟩ := slice_inj hv
    exact ⟨g, rfl, rfl, hc, hg⟩
theorem wel {T : List Wk} {s : ByteArray} (hp : plW T s = true) (hl : lbW T s < T.length) : T[lbW T s] = ⟨s, wdF T s, wkF T s⟩ := by
  rw [wdF_at hl, wkF_at hl]
  have h := plW_eq hp hl
  generalize T[lbW T s] = x at h ⊢
  obtain ⟨a, b, c⟩ := x
  simp only at h
  rw [h]
/-- Works of which one is another. -/
def setW (T : List Wk) (s : ByteArray) (d : Bool) (k : ByteArray) : List Wk := T.set (lbW T s) ⟨s, d, k⟩
theorem setW_is {T : List Wk} {s : ByteArray} (hp : plW T s = true) (d : Bool) (k : ByteArray) : setW T s d k = T.take (lbW T s) ++ [⟨s, d, k⟩] ++ T.drop (lbW T s + 1) := by
  unfold setW
  rw [List.set_eq_take_append_cons_drop, if_pos (plW_lt hp)]
  simp
theorem setW_len (T : List Wk) (s : ByteArray) (d : Bool) (k : ByteArray) : (setW T s d k).length = T.length := by unfold setW; rw [List.length_set]
theorem setW_at {T : List Wk} {s : ByteArray} (d : Bool) (k : ByteArray) (h : lbW T s < (setW T s d k).length) : (setW T s d k)[lbW T s] = ⟨s, d, k⟩ := by
  unfold setW at *
  rw [List.getElem_set_self]
theorem setW_set (T : List Wk) (s : ByteArray) (d d' : Bool) (k k' : ByteArray) : (setW T s d k).set (lbW T s) ⟨s, d', k'⟩ = setW T s d' k' := by unfold setW; rw [List.set_set]
set_option maxHeartbeats 8000000 in
theorem rgo_any {B : Nat} {v : Value} {T : List Wk} (s k : ByteArray) (dn : Bool) (w : World) (h : OwnW B w v T) (hl : T.length ≤ 800) (hS : SortW T) (hk : k.size ≤ 64) :
    Calls Tryd.prog 29 #[v, .string s, .string k, .bool dn] w fun e w' => ∃ u, e = .returned (.tuple #[u, .int .i64 (goE T s k dn)]) ∧ Hid (OwnW w.heap.size w' u (goW T s k dn)) ∧ Hid (Below w.heap.size w w') := by
  obtain ⟨A, n, c, rfl, HN, hc, hm, HR, HZ⟩ := ownW_open h
  have HO := Lib.hid h
  have HAT := Lib.hid (rat11_any s w h hl hS)
  have HWS : Hid (watS T s = if plW T s = true then (lbW T s : Int) else -1) := rfl
  have HKEY := Lib.hid (risKey_any k w hk)
  clear h hS
  unfold maxLen at hm
  generalize watS T s = ws at *
  cases hp : plW T s
  · have HG := Lib.hid (go_of_none (k := k) (dn := dn) hp)
    rw [hp] at HWS
    obtain rfl : ws = -1 := HWS.out
    clear hp
    go_enter Tryd.func29, Tryd.ntmps29
    go_wp2_with fail
    refine HAT.out.mono ?_
    rintro e w1 ⟨rfl, rfl⟩
    go_wp2_with fail
    go_ret2
    exact ⟨_, by rw [HG.out.1]; rfl, by rw [HG.out.2]; exact ownW_nil _ _, Below.refl _ _⟩
  · rw [hp] at HWS
    obtain rfl : ws = (lbW T s : Int) := HWS.out
    have HP1 := Lib.hid hp
    have hlt : lbW T s < T.length := plW_lt hp
    have hts := plW_eq hp hlt
    obtain ⟨g, rfl, hgn, hgc, hBg⟩ := ownW_some HO.out (by omega)
    obtain ⟨b, off, e9, z1, z2⟩ := wcells HR.out hp
    cases e9
    have hoff : 0 + lbW T s * 3 = lbW T s * 3 := Nat.zero_add _
    rw [hoff] at z1 z2
    have hltz : ((lbW T s : Nat) : Int) < (n : Int) := by omega
    have hlt0 : (0 : Int) ≤ ((lbW T s : Nat) : Int) := by omega
    have HA := Lib.hid (appWs w w.heap.size (.slice none 0 0) [] (ownW_nil _ _) (Nat.le_refl _) (some ⟨g, 0, none⟩) T n c HN.out HR.out (fun e => by cases e) (by simp <;> omega))
    have HB0 : Hid (Below w.heap.size w w) := Below.refl _ _
    have HZ1 : Hid (∀ W, Below w.heap.size w W → W.cell? ⟨g, lbW T s * 3 + 1, none⟩ = some (.bool (wdF T s))) := fun W hb => keepW hb z1
    have HZ2 : Hid (∀ W, Below w.heap.size w W → W.cell? ⟨g, lbW T s * 3 + 2, none⟩ = some (.string (wkF T s))) := fun W hb => keepW hb z2
    clear z1 z2 hp HZ
    cases hd : wdF T s
    · rw [hd] at HZ1
      cases dn
      · cases hk' : isKeyB k
        · have HG := Lib.hid (go_of_nokey HP1.out hd hk')
          rw [hk'] at HKEY
          generalize lbW T s = lb at *
          generalize wkF T s = wk at *
          go_enter Tryd.func29, Tryd.ntmps29
          go_wp2_with fail
          refine HAT.out.mono ?_
          rintro e w1 ⟨rfl, rfl⟩
          go_wp2_with fail
          refine HKEY.out.mono ?_
          rintro e w2 ⟨rfl, hb2⟩
          have y1 := HZ1.out _ hb2.out
          have y2 := HZ2.out _ hb2.out
          go_wp2_with fail
          go_ret2
          exact ⟨_, by rw [HG.out.1]; rfl, by rw [HG.out.2]; exact ownW_nil _ _, hb2⟩
        · rw [hk'] at HKEY
          cases hlq : Op.bytesLess (wkF T s).toList k.toList
          · have HG := Lib.hid (go_of_behind HP1.out hd hk' hlq)
            rcases leq_is hlq with hq | ⟨hq, hq2⟩
            · clear hlq
              generalize lbW T s = lb at *
              generalize wkF T s = wk at *
              go_enter Tryd.func29, Tryd.ntmps29
              go_wp2_with fail
              refine HAT.out.mono ?_
              rintro e w1 ⟨rfl, rfl⟩
              go_wp2_with fail
              refine HKEY.out.mono ?_
              rintro e w2 ⟨rfl, hb2⟩
              have y1 := HZ1.out _ hb2.out
              have y2 := HZ2.out _ hb2.out
              go_wp2_with fail
              go_ret2
              exact ⟨_, by rw [HG.out.1]; rfl, by rw [HG.out.2]; exact ownW_nil _ _, hb2⟩
            · clear hlq
              generalize lbW T s = lb at *
              generalize wkF T s = wk at *
              go_enter Tryd.func29, Tryd.ntmps29
              go_wp2_with fail
              refine HAT.out.mono ?_
              rintro e w1 ⟨rfl, rfl⟩
              go_wp2_with fail
              refine HKEY.out.mono ?_
              rintro e w2 ⟨rfl, hb2⟩
              have y1 := HZ1.out _ hb2.out
              have y2 := HZ2.out _ hb2.out
              go_wp2_with fail
              go_ret2
              exact ⟨_, by rw [HG.out.1]; rfl, by rw [HG.out.2]; exact ownW_nil _ _, hb2⟩
          · have HG := Lib.hid (go_of_key HP1.out hd hk' hlq)
            rw [← setW_is HP1.out] at HG
            obtain ⟨hq, hq2⟩ := leq_not hlq
            clear hlq hk'
            obtain ⟨wk, hwk⟩ : ∃ q, wkF T s = q := ⟨_, rfl⟩
            rw [hwk] at hq hq2 HZ2
            clear HA
            go_enter Tryd.func29, Tryd.ntmps29
            go_wp2_with fail
            refine HAT.out.mono ?_
            rintro e w1 ⟨rfl, rfl⟩
            go_wp2_with fail
            refine HKEY.out.mono ?_
            rintro e w2 ⟨rfl, hb2⟩
            have y1 := HZ1.out _ hb2.out
            have y2 := HZ2.out _ hb2.out
            have HA2 := Lib.hid (appWs w2 w2.heap.size (.slice none 0 0) [] (ownW_nil _ _) (Nat.le_refl _) (some ⟨g, 0, none⟩) T n c HN.out (HR.out.below hb2.out) (fun e => by cases e) (by simp <;> omega))
            obtain ⟨R3, W3, hrun3, ho3, hb3⟩ := HA2.out
            rw [List.nil_append] at ho3
            obtain ⟨A3, n3, c3, rfl, hn3, hnc3, hcm3, _, _⟩ := ownW_open ho3
            obtain ⟨g3, rfl, hg3n, hg3c, hg3B⟩ := ownW_some ho3 (by omega)
            obtain ⟨f1, o1, _, s1⟩ := ownW_put3 ho3 (lbW T s) hlt 1 (by omega) (.bool false) ⟨s, false, wkF T s⟩ (by rw [wel HP1.out hlt]; rfl)
            have s1b : OwnW w2.heap.size (W3.setCell ⟨g3, lbW T s * 3 + 1, none⟩ (.bool false)) (.slice (some ⟨g3, 0, none⟩) n3 c3) (setW T s false (wkF T s)) := s1
            obtain ⟨f2, o2, _, s2⟩ := ownW_put3 s1b (lbW T s) (by rw [setW_len]; exact hlt) 2 (by omega) (.string k) ⟨s, false, k⟩ (by rw [setW_at]; rfl)
            rw [setW_set] at s2
            have b2 : Below w2.heap.size w2 ((W3.setCell ⟨g3, lbW T s * 3 + 1, none⟩ (.bool false)).setCell ⟨g3, lbW T s * 3 + 2, none⟩ (.string k)) := (hb3.setCell (p := ⟨g3, lbW T s * 3 + 1, none⟩) hg3B _).setCell (p := ⟨g3, lbW T s * 3 + 2, none⟩) hg3B _
            have hw1 : T[lbW T s].row[1]? = some (.bool false) := by
              have h := wdF_at hlt
              rw [hd] at h
              simp only [Wk.row]
              rw [← h]
              rfl
            rw [hw1] at o1
            have hw2 : (setW T s false (wkF T s))[lbW T s]? = some ⟨s, false, wkF T s⟩ := by rw [List.getElem?_eq_getElem (by rw [setW_len]; exact hlt), setW_at]
            have o2v : (W3.setCell ⟨g3, lbW T s * 3 + 1, none⟩ (.bool false)).cell? ⟨g3, lbW T s * 3 + 2, none⟩ = some (.string wk) := by rw [o2, setW_at, ← hwk]; rfl
            clear o2 hw1 hw2
            have HFO := Lib.hid (ownW_down s2 hb2.out.size)
            have HFB := Lib.hid (hb2.out.trans (b2.mono hb2.out.size))
            have hl3 : ((lbW T s : Nat) : Int) < (n3 : Int) := by omega
            clear s1 s1b s2 b2 ho3 hb3 HA2 hts hwk hd
            generalize setW T s = SW at *
            generalize lbW T s = lb at *
            go_wp2_with (at_builtin; refine wpList_app rfl _ _ 22 22 rfl (.slice none 0 0) (.slice (some ⟨g, 0, none⟩) n c) rfl rfl ⟨_, _, hrun3, ?_⟩)
            go_ret2
            exact ⟨_, by rw [HG.out.1]; rfl, by rw [HG.out.2]; exact HFO.out, HFB⟩
      · have HG := Lib.hid (go_of_end (k := k) HP1.out hd)
        rw [← setW_is HP1.out] at HG
        obtain ⟨kb, hkb⟩ : ∃ q, isKeyB k = q := ⟨_, rfl⟩
        rw [hkb] at HKEY
        clear hkb
        obtain ⟨wk, hwk⟩ : ∃ q, wkF T s = q := ⟨_, rfl⟩
        rw [hwk] at HZ2
        clear HA
        go_enter Tryd.func29, Tryd.ntmps29
        go_wp2_with fail
        refine HAT.out.mono ?_
        rintro e w1 ⟨rfl, rfl⟩
        go_wp2_with fail
        refine HKEY.out.mono ?_
        rintro e w2 ⟨rfl, hb2⟩
        have y1 := HZ1.out _ hb2.out
        have y2 := HZ2.out _ hb2.out
        have HA2 := Lib.hid (appWs w2 w2.heap.size (.slice none 0 0) [] (ownW_nil _ _) (Nat.le_refl _) (some ⟨g, 0, none⟩) T n c HN.out (HR.out.below hb2.out) (fun e => by cases e) (by simp <;> omega))
        obtain ⟨R3, W3, hrun3, ho3, hb3⟩ := HA2.out
        rw [List.nil_append] at ho3
        obtain ⟨A3, n3, c3, rfl, hn3, hnc3, hcm3, _, _⟩ := ownW_open ho3
        obtain ⟨g3, rfl, hg3n, hg3c, hg3B⟩ := ownW_some ho3 (by omega)
        obtain ⟨f1, o1, _, s1⟩ := ownW_put3 ho3 (lbW T s) hlt 1 (by omega) (.bool true) ⟨s, true, wkF T s⟩ (by rw [wel HP1.out hlt]; rfl)
        have s1b : OwnW w2.heap.size (W3.setCell ⟨g3, lbW T s * 3 + 1, none⟩ (.bool true)) (.slice (some ⟨g3, 0, none⟩) n3 c3) (setW T s true (wkF T s)) := s1
        obtain ⟨f2, o2, _, s2⟩ := ownW_put3 s1b (lbW T s) (by rw [setW_len]; exact hlt) 2 (by omega) (.string k) ⟨s, true, k⟩ (by rw [setW_at]; rfl)
        rw [setW_set] at s2
        have b2 : Below w2.heap.size w2 ((W3.setCell ⟨g3, lbW T s * 3 + 1, none⟩ (.bool true)).setCell ⟨g3, lbW T s * 3 + 2, none⟩ (.string k)) := (hb3.setCell (p := ⟨g3, lbW T s * 3 + 1, none⟩) hg3B _).setCell (p := ⟨g3, lbW T s * 3 + 2, none⟩) hg3B _
        have hw1 : T[lbW T s].row[1]? = some (.bool false) := by
          have h := wdF_at hlt
          rw [hd] at h
          simp only [Wk.row]
          rw [← h]
          rfl
        rw [hw1] at o1
        have hw2 : (setW T s true (wkF T s))[lbW T s]? = some ⟨s, true, wkF T s⟩ := by rw [List.getElem?_eq_getElem (by rw [setW_len]; exact hlt), setW_at]
        have o2v : (W3.setCell ⟨g3, lbW T s * 3 + 1, none⟩ (.bool true)).cell? ⟨g3, lbW T s * 3 + 2, none⟩ = some (.string wk) := by rw [o2, setW_at, ← hwk]; rfl
        clear o2 hw1 hw2
        obtain ⟨f4, o4, _, s4⟩ := ownW_put3 s2 (lbW T s) (by rw [setW_len]; exact hlt) 2 (by omega) (.string ⟨#[]⟩) ⟨s, true, ⟨#[]⟩⟩ (by rw [setW_at]; rfl)
        rw [setW_set] at s4
        have o4v : ((W3.setCell ⟨g3, lbW T s * 3 + 1, none⟩ (.bool true)).setCell ⟨g3, lbW T s * 3 + 2, none⟩ (.string k)).cell? ⟨g3, lbW T s * 3 + 2, none⟩ = some (.string k) := by rw [o4, setW_at]; rfl
        have b4 := b2.setCell (p := ⟨g3, lbW T s * 3 + 2, none⟩) hg3B (.string ⟨#[]⟩)
        have HFO := Lib.hid (ownW_down s4 hb2.out.size)
        have HFB := Lib.hid (hb2.out.trans (b4.mono hb2.out.size))
        clear o4 s4 b4
        have hl3 : ((lbW T s : Nat) : Int) < (n3 : Int) := by omega
        clear s1 s1b s2 b2 ho3 hb3 HA2 hts hwk hd
        generalize setW T s = SW at *
        generalize lbW T s = lb at *
        go_wp2_with (at_builtin; refine wpList_app rfl _ _ 22 22 rfl (.slice none 0 0) (.slice (some ⟨g, 0, none⟩) n c) rfl rfl ⟨_, _, hrun3, ?_⟩)
        go_ret2
        exact ⟨_, by rw [HG.out.1]; rfl, by rw [HG.out.2]; exact HFO.out, HFB⟩
    · rw [hd] at HZ1
      have HG := Lib.hid (go_of_done (k := k) (dn := dn) HP1.out hd)
      obtain ⟨kb, hkb⟩ : ∃ q, isKeyB k = q := ⟨_, rfl⟩
      rw [hkb] at HKEY
      clear hkb
      generalize lbW T s = lb at *
      generalize wkF T s = wk at *
      go_enter Tryd.func29, Tryd.ntmps29
      go_wp2_with fail
      refine HAT.out.mono ?_
      rintro e w1 ⟨rfl, rfl⟩
      go_wp2_with fail
      refine HKEY.out.mono ?_
      rintro e w2 ⟨rfl, hb2⟩
      have y1 := HZ1.out _ hb2.out
      have y2 := HZ2.out _ hb2.out
      go_wp2_with fail
      go_ret2
      exact ⟨_, by rw [HG.out.1]; rfl, by rw [HG.out.2]; exact ownW_nil _ _, hb2⟩
set_option maxHeartbeats 4000000 in
theorem rcov_any {B : Nat} {v : Value} {T : List Wk} (s k : ByteArray) (w : World) (h : OwnW B w v T) (hl : T.length ≤ 800) (hS : SortW T) :
    Calls Tryd.prog 31 #[v, .string s, .string k] w fun e w' => e = .returned (.bool (covB T s k)) ∧ w' = w := by
  obtain ⟨A, n, c, rfl, HN, hc, hm, HR, HZ⟩ := ownW_open h
  have HO := Lib.hid h
  have HAT := Lib.hid (rat11_any s w h hl hS)
  have HWS : Hid (watS T s = if plW T s = true then (lbW T s : Int) else -1) := rfl
  have HC0 : Hid (covB T s k = (plW T s && (wdF T s || (!((wkF T s).size == 0) && !Op.bytesLess (wkF T s).toList k.toList)))) := rfl
  have HSZ := size_e (wkF T s)
  clear h hS HZ
  generalize watS T s = ws at *
  cases hp : plW T s
  · rw [hp] at HWS HC0
    obtain rfl : ws = -1 := HWS.out
    clear hp
    go_enter Tryd.func31, Tryd.ntmps31
    go_wp2_with fail
    refine HAT.out.mono ?_
    rintro e w1 ⟨rfl, rfl⟩
    go_wp2_with fail
    go_ret
    exact ⟨by rw [HC0.out]; rfl, rfl⟩
  · rw [hp] at HWS HC0
    obtain rfl : ws = (lbW T s : Int) := HWS.out
    have hlt : lbW T s < T.length := plW_lt hp
    obtain ⟨b, off, rfl, z1, z2⟩ := wcells HR.out hp
    have hltz : ((lbW T s : Nat) : Int) < (n : Int) := by have := HN.out; omega
    have hlt0 : (0 : Int) ≤ ((lbW T s : Nat) : Int) := by omega
    clear hp
    generalize lbW T s = lb at *
    generalize wdF T s = wd at *
    generalize wkF T s = wk at *
    go_enter Tryd.func31, Tryd.ntmps31
    go_wp2_with fail
    refine HAT.out.mono ?_
    rintro e w1 ⟨rfl, rfl⟩
    cases wd
    · cases hz0 : wk.size == 0
      · rw [hz0] at HSZ HC0
        go_wp2_with fail
        go_ret
        exact ⟨by rw [HC0.out]; simp, rfl⟩
      · rw [hz0] at HSZ HC0
        go_wp2_with fail
        go_ret
        exact ⟨by rw [HC0.out]; simp, rfl⟩
    · go_wp2_with fail
      go_ret
      exact ⟨by rw [HC0.out]; simp, rfl⟩
end Go.Proofs.YtjmfcbfjeoooeaaDoor
