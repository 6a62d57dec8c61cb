import Derived.Test.YtbaafbcdhgfpdaaClaw
import Derived.Test.YtbaafbcdhgfpdaaCLongWalk
import Derived.Deep.DeepCutAuto
import Derived.StillTailTactics
import Derived.Deep.AppendLies
namespace Go.Proofs.Ytbaafbcdhgfpdaa.crcBursts
open Go.RowKit Cr
theorem takeF_put (l : List Nat) (h : ∀ x ∈ l, x < 256) : takeF (l ++ le4 (sum l)) = (l, 0) := by
  have hl : (l ++ le4 (sum l)).length = l.length + 4 := by rw [List.length_append, le4_len]
  have h1 : (l ++ le4 (sum l)).take ((l ++ le4 (sum l)).length - 4) = l := by rw [hl, show l.length + 4 - 4 = l.length by omega]; exact List.take_left
  have hb : ∀ x ∈ l ++ le4 (sum l), x < 256 := by
    intro x hx
    rcases List.mem_append.1 hx with hx | hx
    · exact h x hx
    · exact le4_byte _ (sum_lt l h) x hx
  have hs := (take_stands (l ++ le4 (sum l)) hb (by omega)).1 (by rw [h1])
  unfold takeF
  rw [if_neg (by omega), if_pos hs, h1]
/-- Bytes, of which those from place k on, i of them, are changed by those of a number. -/
def T (c : List Nat) (k v i : Nat) : List Nat := c.mapIdx (fun j x => if k ≤ j ∧ j < k + i then x ^^^ v / 2 ^ (8 * (j - k)) % 256 else x)
theorem T_len (c : List Nat) (k v i : Nat) : (T c k v i).length = c.length := by unfold T; rw [List.length_mapIdx]
theorem T_get (c : List Nat) (k v i j : Nat) (h : j < (T c k v i).length) (h' : j < c.length) : (T c k v i)[j] = if k ≤ j ∧ j < k + i then c[j] ^^^ v / 2 ^ (8 * (j - k)) % 256 else c[j] := by
  have e : (T c k v i)[j]? = c[j]?.map (fun x => if k ≤ j ∧ j < k + i then x ^^^ v / 2 ^ (8 * (j - k)) % 256 else x) := by unfold T; rw [List.getElem?_mapIdx]
  rw [List.getElem?_eq_getElem h, List.getElem?_eq_getElem h'] at e
  simpa using e
theorem T_zero (c : List Nat) (k v : Nat) : T c k v 0 = c := by
  apply List.ext_getElem (T_len _ _ _ _)
  intro j h1 h2
  rw [T_get c k v 0 j h1 h2, if_neg (by omega)]
theorem T_succ (c : List Nat) (k v i : Nat) (h : k + i < (T c k v i).length) : T c k v (i + 1) = (T c k v i).set (k + i) ((T c k v i)[k + i] ^^^ v / 2 ^ (8 * i) % 256) := by
  have hc : k + i < c.length := by rw [T_len] at h; exact h
  apply List.ext_getElem (by rw [List.length_set, T_len, T_len])
  intro j h1 h2
  have hj : j < c.length := by rw [T_len] at h1; exact h1
  rw [T_get c k v (i + 1) j h1 hj, List.getElem_set]
  by_cases e : k + i = j
  · subst e
    rw [if_pos rfl, if_pos (by omega), T_get c k v i (k + i) h hc, if_neg (by omega), show k + i - k = i by omega]
  · rw [if_neg e, T_get c k v i j (by rw [T_len]; exact hj) hj]
    by_cases h3 : k ≤ j ∧ j < k + i
    · rw [if_pos h3, if_pos (by omega)]
    · rw [if_neg h3, if_neg (by omega)]
theorem T_byte (c : List Nat) (k v i : Nat) (h : ∀ x ∈ c, x < 256) : ∀ x ∈ T c k v i, x < 256 := by
  intro x hx
  obtain ⟨j, hj, rfl⟩ := List.getElem_of_mem hx
  have hc : j < c.length := by rw [T_len] at hj; exact hj
  have hb := h _ (List.getElem_mem hc)
  rw [T_get c k v i j hj hc]
  split
  · exact Nat.xor_lt_two_pow (n := 8) hb (Nat.mod_lt _ (by omega))
  · exact hb
theorem le4_get (v i : Nat) (hi : i < (le4 v).length) (hv : v < 4294967296) : (le4 v)[i] = v / 2 ^ (8 * i) % 256 := by
  have h : i = 0 ∨ i = 1 ∨ i = 2 ∨ i = 3 := by rw [le4_len] at hi; omega
  rcases h with rfl | rfl | rfl | rfl <;> simp [le4]
  omega
theorem burst_get (n k v j : Nat) (hk : k ≤ n) (hv : v < 4294967296) (hj : j < n + 4) : (burst n k v)[j]? = some (if k ≤ j ∧ j < k + 4 then v / 2 ^ (8 * (j - k)) % 256 else 0) := by
  have l1 : (List.replicate k 0 ++ le4 v).length = k + 4 := by rw [List.length_append, List.length_replicate, le4_len]
  unfold burst
  by_cases h1 : j < k
  · rw [if_neg (by omega), List.getElem?_append_left (by omega), List.getElem?_append_left (by rw [List.length_replicate]; exact h1), List.getElem?_replicate, if_pos h1]
  · by_cases h2 : j < k + 4
    · rw [if_pos (by omega), List.getElem?_append_left (by omega), List.getElem?_append_right (by rw [List.length_replicate]; omega), List.length_replicate, List.getElem?_eq_getElem (by rw [le4_len]; omega)]
      rw [le4_get v (j - k) (by rw [le4_len]; omega) hv]
    · rw [if_neg (by omega), List.getElem?_append_right (by omega), l1, List.getElem?_replicate, if_pos (by omega)]
theorem T_end (c : List Nat) (n k v : Nat) (hc : c.length = n + 4) (hk : k ≤ n) (hv : v < 4294967296) : T c k v 4 = xl c (burst n k v) := by
  have hb := burst_len n k v hk
  apply List.ext_getElem?
  intro j
  by_cases hj : j < n + 4
  · have h1 : (xl c (burst n k v))[j]? = some (c[j] ^^^ (if k ≤ j ∧ j < k + 4 then v / 2 ^ (8 * (j - k)) % 256 else 0)) := by
      unfold xl
      rw [List.getElem?_zipWith, burst_get n k v j hk hv hj, List.getElem?_eq_getElem (by omega)]
    have ht : j < (T c k v 4).length := by rw [T_len]; omega
    rw [h1, List.getElem?_eq_getElem ht, T_get c k v 4 j ht (by omega)]
    split
    · rfl
    · rw [Nat.xor_zero]
  · rw [List.getElem?_eq_none (by rw [T_len]; omega), List.getElem?_eq_none (by unfold xl; rw [List.length_zipWith]; omega)]
theorem burst_zero (n k : Nat) : burst n k 0 = List.replicate (k + 4 + (n - k)) 0 := by
  unfold burst
  rw [show le4 0 = List.replicate 4 0 by rfl, List.replicate_append_replicate, List.replicate_append_replicate]
theorem xl_zero (c : List Nat) (m : Nat) (h : c.length ≤ m) : xl c (List.replicate m 0) = c := by
  apply List.ext_getElem (by unfold xl; rw [List.length_zipWith, List.length_replicate]; omega)
  intro j h1 h2
  simp [xl]
/-- What is taken of bytes with their check of which a burst is changed. -/
theorem take_burst (l : List Nat) (n k v : Nat) (hn : l.length = n) (hl : ∀ x ∈ l, x < 256) (hk : k ≤ n) (hv : v < 4294967296) (h0 : v ≠ 0) : takeF (T (l ++ le4 (sum l)) k v 4) = ([], 3) := by
  have hc : (l ++ le4 (sum l)).length = n + 4 := by rw [List.length_append, le4_len, hn]
  have hbc : ∀ x ∈ l ++ le4 (sum l), x < 256 := by
    intro x hx
    rcases List.mem_append.1 hx with hx | hx
    · exact hl x hx
    · exact le4_byte _ (sum_lt l hl) x hx
  have hb := T_byte (l ++ le4 (sum l)) k v 4 hbc
  have hlen : (T (l ++ le4 (sum l)) k v 4).length = n + 4 := by rw [T_len, hc]
  have he := T_end (l ++ le4 (sum l)) n k v hc hk hv
  generalize T (l ++ le4 (sum l)) k v 4 = t at *
  have hd : (t.drop n).length = 4 := by rw [List.length_drop]; omega
  obtain ⟨h1, h2⟩ := le4_un4 (t.drop n) hd (fun x hx => hb x (List.mem_of_mem_drop hx))
  have hs := burst_seen l k v hl (by omega) hv h0 (t.take n) (un4 (t.drop n)) (fun x hx => hb x (List.mem_of_mem_take hx)) h2 (by rw [h1, List.take_append_drop, he, hn])
  unfold takeF
  rw [if_neg (by omega), hlen, show n + 4 - 4 = n by omega, if_neg hs]
/-- A store into a row of the call's own. -/
theorem own_set {B : Nat} {w : World} {g n c : Nat} {l : List Nat} (h : Own B w (.slice (some ⟨g, 0, none⟩) n c) l) (i y : Nat) (_ : i < l.length) : Own B (w.setCell ⟨g, i, none⟩ (.int .u8 (y : Nat))) (.slice (some ⟨g, 0, none⟩) n c) (l.set i y) := by
  obtain ⟨h1, h2⟩ := h
  rcases h2 with ⟨h2, _⟩ | ⟨g', cap, cur, e, hg, hh, hc, hm, hs, ht⟩
  · cases h2
  · injection e with e1 e2 e3
    injection e1 with e1
    injection e1 with e1
    subst e1; subst e2; subst e3
    refine ⟨by rw [List.length_set, ← h1]; simp, .inr ⟨g, c, cur.setIfInBounds i (.int .u8 (y : Nat)), by rw [List.length_set], hg, heap_setCell_same w g i cur 5 _ hh, by rw [List.length_set]; exact hc, hm, by simpa using hs, ?_⟩⟩
    rw [List.length_set]
    have hb : bv y = Value.int .u8 (y : Nat) := rfl
    rw [List.map_set, ← ht, hb, Array.toList_setIfInBounds, List.take_set]
theorem own_cell {B : Nat} {w : World} {g n c : Nat} {l : List Nat} (h : Own B w (.slice (some ⟨g, 0, none⟩) n c) l) (i : Nat) (hi : i < l.length) : w.cell? ⟨g, i, none⟩ = some (.int .u8 (l[i] : Nat)) ∧ w.frozen? ⟨g, i, none⟩ = false := by
  obtain ⟨h1, h2⟩ := h
  rcases h2 with ⟨h2, _⟩ | ⟨g', cap, cur, e, hg, hh, hc, hm, hs, ht⟩
  · cases h2
  · injection e with e1 e2 e3
    injection e1 with e1
    injection e1 with e1
    subst e1
    refine ⟨?_, frozen_of_row w g i cur 5 hh⟩
    rw [cell_of_row w g i cur 5 _ hh]
    have h1 : (l.map bv)[i]? = some (bv l[i]) := by simp [hi]
    rw [← ht, List.getElem?_take, if_pos (by omega)] at h1
    simpa [bv] using h1
set_option maxHeartbeats 4000000 in
set_option maxRecDepth 100000 in
theorem walk (SUM : SumC) (PUT : PutC) (TAKE : TakeC) (a0 : Option Addr) (len0 cap0 : Nat) (z0 : List Int) (a1 a2 : Int) (w : World) (w0 : IsRow .u8 w a0 len0 cap0 z0) (w1 : (Lit.int .i64 a1).wf = true) (_ : (Lit.int .i64 a2).wf = true) :
    Calls Try.prog 6 #[.slice a0 len0 cap0, .int .i64 a1, .int .i64 a2] w fun e w' => e = .returned (.bool true) ∧ Below w.heap.size w w' := by
  obtain ⟨n, l, came, hm, hmc⟩ := w0.came
  obtain ⟨u0, u1⟩ := bounds_i64 w1
  clear w0 w1
  have HL := Lib.hid (lives_any SUM)
  have HP := Lib.hid PUT
  have HT := Lib.hid TAKE
  have HC := Lib.hid came
  clear SUM PUT TAKE came
  obtain ⟨p, ep⟩ : ∃ p : Nat, (if a1 < 0 then -(a1 + 1) else a1) = (p : Int) := ⟨(if a1 < 0 then -(a1 + 1) else a1).toNat, by omega⟩
  have hp : (p : Int) ≤ 9223372036854775807 := by omega
  have EP := Lib.hid ep
  clear ep
  obtain ⟨k, hk⟩ : ∃ k, k = p % (n + 1) := ⟨_, rfl⟩
  have hkm : k ≤ n := by have := Nat.mod_lt p (show 0 < n + 1 by omega); omega
  have HK : Hid ((p : Int) % ((n : Int) + 4 - 3) = (k : Int)) := by show _ = _; rw [hk, show (n : Int) + 4 - 3 = ((n + 1 : Nat) : Int) by omega]; rfl
  clear hk
  obtain ⟨v, hv⟩ : ∃ v : Nat, (v : Int) = a2 % 4294967296 := ⟨(a2 % 4294967296).toNat, by omega⟩
  have hv2 : v < 4294967296 := by omega
  have HV := Lib.hid hv
  clear hv
  go_enter Try.func6, Try.ntmps6
  go_wp2_with fail
  refine (HC.out.few _).mono ?_
  rintro e w1 ⟨rfl, rfl⟩
  go_wp2_with fail
  refine (HP.out none [] 0 0 a0 l n cap0 _ rfl (Nat.le_refl _) (by omega) HC.out.len_ hmc (by omega) HC.out.bytes (Rd.nil _ _) HC.out.rd (fun _ => rfl) HC.out.nil_ (Nat.zero_le _) HC.out.cap_).mono ?_
  rintro e w1 ⟨vv, rfl, ho, hb1⟩
  rw [List.nil_append] at ho
  obtain ⟨A1, c1, hv, hn1', hc1, hr1, hnil1⟩ := crcLong.own_slice ho
  have hlen : (l ++ le4 (sum l)).length = n + 4 := by rw [List.length_append, le4_len, HC.out.len_]
  rw [hlen] at hv hn1'
  subst hv
  have hbyte : ∀ x ∈ l ++ le4 (sum l), x < 256 := by
    intro x hx
    rcases List.mem_append.1 hx with hx | hx
    · exact HC.out.bytes x hx
    · exact le4_byte _ (sum_lt l HC.out.bytes) x hx
  have HA := Lib.hid (own_app w1 w.heap.size (.slice none 0 0) [] (World.ownsRow_nil _ _ _ _) hb1.size A1 (l ++ le4 (sum l)) (n + 4) c1 hlen hr1 (by simp; omega) hnil1)
  have HB1 := Lib.hid hb1
  have HLEN := Lib.hid hlen
  have HBB := Lib.hid hbyte
  unfold maxLen at hc1
  clear ho hb1 hr1 hlen hbyte hnil1
  go_upto_if 27 with (fail)
  go_cut [1, 8] (fun s1 s8 wx => s1 = .int .i64 p ∧ s8 = .int .u32 v ∧ w1 = wx)
  case first =>
    by_cases gn : a1 < 0
    · have E2 : Hid (-(a1 + 1) = (p : Int)) := by show _ = _; rw [← EP.out, if_pos gn]
      have hq : decide (a1 < 0) = true := decide_eq_true gn
      go_wp2_with fail
      go_meet
      exact ⟨by rw [← E2.out], by rw [HV.out], rfl⟩
    · have E2 : Hid (a1 = (p : Int)) := by show _ = _; rw [← EP.out, if_neg gn]
      have hq : decide (a1 < 0) = false := decide_eq_false gn
      go_wp2_with fail
      go_meet
      exact ⟨by rw [← E2.out], by rw [HV.out], rfl⟩
  case rest =>
    obtain ⟨rfl, rfl, rfl⟩ := hcut
    go_wp2_with (at_builtin; refine wpList_app rfl _ _ 22 22 rfl (.slice none 0 0) (.slice A1 (n + 4) c1) rfl rfl ?_; obtain ⟨R, W', hrun, hown, hbel⟩ := HA.out; refine ⟨R, W', hrun, ?_⟩; have HO2 := Lib.hid hown; have HB2 := Lib.hid (HB1.out.trans (hbel.mono (Nat.le_refl _))); clear hrun hown hbel HA)
    have hO2 := HO2.out
    rw [List.nil_append] at hO2
    obtain ⟨g, cap, hR, hg0, _⟩ := World.ownsRow.form (show World.ownsRow _ _ _ _ _ _ _ from hO2) (by rw [HLEN.out]; omega)
    rw [HLEN.out] at hR
    subst hR
    rw [← T_zero (l ++ le4 (sum l)) k v] at hO2
    have HO3 := Lib.hid hO2
    rw [HK.out]
    clear hO2 HO2 HK
    go_wp2_with fail
    go_loopw [11] (fun i wr => ∃ j : Nat, j ≤ 4 ∧ i = .int .i64 j ∧ Hid (Own w.heap.size wr (.slice (some ⟨g, 0, none⟩) (n + 4) cap) (T (l ++ le4 (sum l)) k v j)) ∧ Hid (Below w.heap.size w wr)) (fun i _ => 4 - (intOf i).toNat)
    case atStart => exact ⟨0, by omega, rfl, HO3, HB2⟩
    case round =>
      obtain ⟨j, hj, rfl, HO, HB⟩ := hrel
      clear HO3 HB2
      by_cases hlt : j < 4
      · have hkj : k + j < (T (l ++ le4 (sum l)) k v j).length := by rw [T_len, HLEN.out]; omega
        obtain ⟨hcell, hfr⟩ := own_cell HO.out (k + j) hkj
        have HS := Lib.hid (T_succ (l ++ le4 (sum l)) k v j hkj)
        have hx : (T (l ++ le4 (sum l)) k v j)[k + j] < 256 := T_byte _ _ _ _ HBB.out _ (List.getElem_mem hkj)
        have HW := Lib.hid fun y => own_set HO.out (k + j) y hkj
        have hbx : bits .xor .u8 ((T (l ++ le4 (sum l)) k v j)[k + j] : Nat) ((v : Int) / 2 ^ (8 * j) % 256) = (((T (l ++ le4 (sum l)) k v j)[k + j] ^^^ v / 2 ^ (8 * j) % 256 : Nat) : Int) := by
          have e : ((v : Int) / 2 ^ (8 * j) % 256) = ((v / 2 ^ (8 * j) % 256 : Nat) : Int) := by rw [Int.natCast_emod, Int.natCast_ediv, Int.natCast_pow]; rfl
          rw [e]
          exact u8_xor_nat _ _ hx (Nat.mod_lt _ (by omega))
        have HX := Lib.hid hbx
        clear hbx
        generalize (T (l ++ le4 (sum l)) k v j)[k + j] = x at *
        have s0 : IntKind.i64.wrap ((k : Int) + j) = (k : Int) + j := by rw [IntKind.wrap_i64]; omega
        have s1 : (0 : Int) ≤ (k : Int) + j := by omega
        have s2 : ((k : Int) + j).toNat = k + j := by omega
        have s3 : (k : Int) + j < (n : Int) + 4 := by omega
        have s4 : IntKind.i64.wrap (8 * (j : Int)) = 8 * (j : Int) := by rw [IntKind.wrap_i64]; omega
        have s5 : (0 : Int) ≤ 8 * (j : Int) := by omega
        have s6 : (8 * (j : Int)).toNat = 8 * j := by omega
        go_wp2_with fail
        go_still_tail 17, (by kernel_rfl)
        change wpList _ _ _ _ _ wr.drew
        go_wp2_with fail
        clear s0 s1 s2 s3 s4 s5 s6
        go_roundw
        case rel =>
          refine ⟨j + 1, by omega, by go_num, ?_, (HB.out.setCell hg0 _).drew⟩
          rw [HX.out, HS.out]
          exact HW.out _
        case measure => simp [intOf]; omega
      · obtain rfl : j = 4 := by omega
        have hbt := T_byte (l ++ le4 (sum l)) k v 4 HBB.out
        have hlt4 : (T (l ++ le4 (sum l)) k v 4).length = n + 4 := by rw [T_len, HLEN.out]
        obtain ⟨A3, c3, hv3, hc3, hm3, hr3, hn3⟩ := crcLong.own_slice HO.out
        rw [hlt4] at hv3 hc3
        injection hv3 with e1 e2 e3
        subst e1; subst e3
        have HT4 := Lib.hid (HT.out (some ⟨g, 0, none⟩) _ (n + 4) cap wr hlt4 hc3 hm3 (by omega) hbt hr3 hn3)
        clear hbt hlt4 hc3 hm3 hr3 hn3 e2
        by_cases hv0 : v = 0
        · have HTP : Hid (takeF (T (l ++ le4 (sum l)) k v 4) = (l, 0)) := by
            have e : T (l ++ le4 (sum l)) k v 4 = l ++ le4 (sum l) := by
              rw [T_end _ n k v HLEN.out hkm hv2, hv0, burst_zero]
              exact xl_zero _ _ (by rw [HLEN.out]; omega)
            show _ = _
            rw [e]
            exact takeF_put l HC.out.bytes
          have hv0' : ((v : Int) == 0) = true := beq_iff_eq.2 (by omega)
          have HV0 := Lib.hid hv0
          clear hv0
          go_wp2_with fail
          refine HT4.out.mono ?_
          rintro e w5 ⟨A5, n5, c5, rfl, N5, hn5, R5, B5⟩
          rw [HTP.out] at N5 R5 ⊢
          have HB5 := Lib.hid (HB.out.trans (B5.out.mono HB.out.size))
          clear B5
          go_wp2_with fail
          refine (HL.out _).mono ?_
          rintro e w6 ⟨rfl, B6⟩
          go_wp2_with fail
          go_ret
          exact ⟨rfl, HB5.out.trans (B6.out.mono HB5.out.size)⟩
        · have HTP := Lib.hid (take_burst l n k v HC.out.len_ HC.out.bytes hkm hv2 hv0)
          have hv0' : ((v : Int) == 0) = false := beq_eq_false_iff_ne.2 (by omega)
          have HV0 := Lib.hid hv0
          clear hv0
          go_wp2_with fail
          refine HT4.out.mono ?_
          rintro e w5 ⟨A5, n5, c5, rfl, N5, hn5, R5, B5⟩
          rw [HTP.out] at N5 R5 ⊢
          obtain rfl : n5 = 0 := N5.out.symm
          have HB5 := Lib.hid (HB.out.trans (B5.out.mono HB.out.size))
          clear B5
          go_wp2_with fail
          refine (HL.out _).mono ?_
          rintro e w6 ⟨rfl, B6⟩
          go_wp2_with fail
          go_ret
          exact ⟨rfl, HB5.out.trans (B6.out.mono HB5.out.size)⟩
end Go.Proofs.Ytbaafbcdhgfpdaa.crcBursts
