/-
  The document's isKey, Go and Covers of works.
-/
import Derived.Test.YtjkmbggaoinkdaaDoorRVals
namespace Go.Proofs.YtjkmbggaoinkdaaDoor
open Go.RowKit Dg
set_option maxRecDepth 100000
set_option maxHeartbeats 4000000 in
theorem risKey_any (s : ByteArray) (w : World) (hs : s.size ≤ 64) :
    Calls Tryd.prog 77 #[.string s] w fun e w' => e = .returned (.bool (isKeyB s)) ∧ Hid (Below w.heap.size w w') := by
  have HC := Lib.hid (rvals_any s w (by omega))
  have HK : Hid (¬ s.size = 0 → (isKeyB s = true ↔ ∃ L, Good1 L ∧ keys L = sb s)) := isKeyB_iff s (by omega)
  have HE := Lib.hid (isKeyB_empty s)
  go_enter Tryd.func77, Tryd.ntmps77
  go_wp2_with fail
  refine HC.out.mono ?_
  rintro e w1 ⟨hR, hb⟩
  rcases hR with ⟨L, v, hG, hF, hLs, hk, rfl, hO⟩ | ⟨hno, rfl⟩
  · obtain ⟨A, c, rfl, hc1, hc2, hr, _⟩ := ownV_row hO
    obtain ⟨n, hn⟩ : ∃ n, L.length = n := ⟨_, rfl⟩
    rw [hn] at hc1 hLs ⊢
    by_cases h0 : s.size = 0
    · have h1 := HE.out h0
      obtain rfl : n = 0 := by omega
      clear hG hF hk hO hr
      go_wp2_with fail
      go_ret
      exact ⟨by rw [h1]; rfl, hb⟩
    · have h1 := (HK.out h0).2 ⟨L, hG, hk⟩
      have hn0 : 0 < n := by
        rcases Nat.eq_zero_or_pos n with h | h
        · have : L = [] := List.eq_nil_of_length_eq_zero (by omega)
          subst this
          have := congrArg List.length hk
          rw [sb_length] at this
          simp [keys] at this
          omega
        · exact h
      have hnz : (0 : Int) < (n : Int) := by omega
      have HKEY := Lib.hid (refKey_any A L n c w1 hn (by omega) hr (fun x hx => (hF x hx).1) (fun x hx => (hG x hx).1))
      rw [hk, bs_sb] at HKEY
      clear hG hF hk hO hr
      go_wp2_with fail
      refine HKEY.out.mono ?_
      rintro e w2 ⟨rfl, hb2⟩
      have HB2 : Hid (Below w.heap.size w w2) := hb.out.trans (hb2.out.mono hb.out.size)
      go_wp2_with fail
      go_ret
      exact ⟨by rw [h1]; simp, HB2⟩
  · have h1 : isKeyB s = false := by
      by_cases h0 : s.size = 0
      · exact HE.out h0
      · rw [← Bool.not_eq_true, HK.out h0]
        rintro ⟨L, hL, hk⟩
        exact hno L hL hk
    clear hno
    go_wp2_with fail
    go_ret
    exact ⟨by rw [h1]; rfl, hb⟩
theorem ownW_put3 {B : Nat} {w : World} {g n c : Nat} {L : List Wk} (h : OwnW B w (.slice (some ⟨g, 0, none⟩) n c) L) (i : Nat) (hi : i < L.length) (j : Nat) (hj : j < 3) (u : Value) (x : Wk) (hx : x.row = L[i].row.set j u) :
    w.frozen? ⟨g, i * 3 + j, none⟩ = false ∧ w.cell? ⟨g, i * 3 + j, none⟩ = L[i].row[j]? ∧ B ≤ g ∧ OwnW B (w.setCell ⟨g, i * 3 + j, none⟩ u) (.slice (some ⟨g, 0, none⟩) n c) (L.set i x) := by
  obtain ⟨g2, c2, hv, hB, _, hf, hc, ho⟩ := ownW_put h i hi j hj u x hx
  obtain ⟨e1, _, _⟩ := slice_inj hv
  injection e1 with e1
  injection e1 with e1
  subst e1
  exact ⟨hf, hc, hB, ho⟩
theorem ownW_some {B : Nat} {w : World} {A : Option Addr} {n c : Nat} {T : List Wk} (h : OwnW B w (.slice A n c) T) (h0 : 0 < T.length) : ∃ g, A = some ⟨g, 0, none⟩ ∧ T.length = n ∧ n ≤ c ∧ B ≤ g := by
  rcases h.2 with ⟨hv, hn⟩ | ⟨g, cap, cur, hv, hg, hh, hc, hcm, hsz, ht⟩
  · omega
  · obtain ⟨rfl, rfl, rfl⟩ := slice_inj hv
    exact ⟨g, rfl, rfl, hc, hg⟩
theorem wel {T : List Wk} {s : ByteArray} (hp : plW T s = true) (hl : lbW T s < T.length) : T[lbW T s] = ⟨s, wdF T s, wkF T s⟩ := by
  rw [wdF_at hl, wkF_at hl]
  have h := plW_eq hp hl
  generalize T[lbW T s] = x at h ⊢
  obtain ⟨a, b, c⟩ := x
  simp only at h
  rw [h]
/-- Works of which one is another. -/
def setW (T : List Wk) (s : ByteArray) (d : Bool) (k : ByteArray) : List Wk := T.set (lbW T s) ⟨s, d, k⟩
theorem setW_is {T : List Wk} {s : ByteArray} (hp : plW T s = true) (d : Bool) (k : ByteArray) : setW T s d k = T.take (lbW T s) ++ [⟨s, d, k⟩] ++ T.drop (lbW T s + 1) := by
  unfold setW
  rw [List.set_eq_take_append_cons_drop, if_pos (plW_lt hp)]
  simp
theorem setW_len (T : List Wk) (s : ByteArray) (d : Bool) (k : ByteArray) : (setW T s d k).length = T.length := by unfold setW; rw [List.length_set]
theorem setW_at {T : List Wk} {s : ByteArray} (d : Bool) (k : ByteArray) (h : lbW T s < (setW T s d k).length) : (setW T s d k)[lbW T s] = ⟨s, d, k⟩ := by
  unfold setW at *
  rw [List.getElem_set_self]
theorem setW_set (T : List Wk) (s : ByteArray) (d d' : Bool) (k k' : ByteArray) : (setW T s d k).set (lbW T s) ⟨s, d', k'⟩ = setW T s d' k' := by unfold setW; rw [List.set_set]
end Go.Proofs.YtjkmbggaoinkdaaDoor
