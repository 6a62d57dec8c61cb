/-
  What the program's functions of layer 2 come to: More, Sum, tail, Put, Take, and what they call of the library.
-/
import Derived.Test.YtbaafbcdhgfpdaaClaw
import Derived.Test.YtbaafbcdhgfpdaaTab
import Derived.Lib.AppendZerosOnto
namespace Go.Proofs.Ytbaafbcdhgfpdaa
open Go.RowKit Cr
theorem upd_by (c b : Nat) (hb : b < 256) : upd c b = c / 256 ^^^ stn 8 (c % 256 ^^^ b) := by
  unfold upd
  rw [stn8]
  have h1 : (c ^^^ b) % 256 = c % 256 ^^^ b := by
    have := Nat.xor_mod_two_pow (a := c) (b := b) (n := 8)
    rw [show (2 : Nat) ^ 8 = 256 by rfl] at this
    rw [this, Nat.mod_eq_of_lt hb]
  have h2 : (c ^^^ b) / 256 = c / 256 := by
    have := Nat.xor_div_two_pow (a := c) (b := b) (n := 8)
    rw [show (2 : Nat) ^ 8 = 256 by rfl] at this
    rw [this, Nat.div_eq_of_lt hb, Nat.xor_zero]
  rw [h1, h2, Nat.xor_comm]
set_option maxHeartbeats 1000000 in
set_option maxRecDepth 100000 in
theorem more_any (s : Int) (A : Option Addr) (l : List Nat) (n c : Nat) (w : World) (hn : l.length = n) (hb : n ≤ 1000000) (hl : ∀ x ∈ l, x < 256) (hA : Rd w A l) :
    Calls Try.prog 13 #[.int .i64 s, .slice A n c] w fun e w' => e = .returned (.int .i64 (moreF s l)) ∧ Hid (Below w.heap.size w w') := by
  have z39 := zero39
  obtain ⟨a, ha⟩ : ∃ a : Nat, (a : Int) = s % 4294967296 := ⟨(s % 4294967296).toNat, by omega⟩
  have hal : a < 4294967296 := by omega
  have HX : Hid (bits .xor .u32 IntKind.u32.max (s % 4294967296) = ((a ^^^ ones : Nat) : Int)) := by
    show _ = _; rw [← ha, Nat.xor_comm]; exact u32_xor_nat ones a ones_lt hal
  have HM : Hid (moreF s l = reg (a ^^^ ones) l ^^^ ones) := by show _ = _; unfold moreF; rw [show (s % 4294967296).toNat = a by omega]
  clear ha
  have HN := Lib.hid hn
  have HL := Lib.hid hl
  have HA := Lib.hid hA
  clear hn hl hA
  go_enter Try.func13, Try.ntmps13
  go_wp2_with fail
  refine (table_any _).mono ?_
  rintro e w1 ⟨rfl, hb1⟩
  go_wp2_with (refine wpList_store_row rfl 39 _ _ rfl w1.heap.size (tabA (stn 8)) rfl rfl 39 (tabA (fun _ => 0)) (heap_alloc_new w1 _) (by rw [tabA_size]; kernel_rfl) (by rw [tabA_size, tabA_size]) (tabA_one _) ?_)
  obtain ⟨W, hW⟩ : ∃ W, W = (w1.alloc (.cells (tabA fun _ => 0) 39)).setRow w1.heap.size (tabA (stn 8)) := ⟨_, rfl⟩
  have HT : Hid (Has W w1.heap.size 39 (tabA (stn 8))) := by rw [hW]; exact setRow_heap _ _ _ _ _ (0, 0) (heap_alloc_new w1 _)
  have HB : Hid (Below w.heap.size w W) := by rw [hW]; exact below_setRow (hb1.out.alloc hb1.out.size _) hb1.out.size _
  rw [← hW]
  clear hW z39 hb1
  go_wp2_with fail
  rw [HX.out]
  have hc0 : a ^^^ ones < 4294967296 := xor_lt hal ones_lt
  generalize a ^^^ ones = C at *
  clear HX
  go_loop [6, 15] (fun v i => ∃ k x : Nat, k ≤ n ∧ i = .int .i64 k ∧ v = .int .u32 x ∧ x < 4294967296 ∧ Hid (reg x (l.drop k) = reg C l)) (fun _ i => n - (intOf i).toNat)
  case atStart => exact ⟨0, C, by omega, rfl, rfl, hc0, rfl⟩
  case round =>
    obtain ⟨k, x, hk, rfl, rfl, hx, HE⟩ := hrel
    by_cases hlt : k < n
    · have hkl : k < l.length := by rw [HN.out]; exact hlt
      have hne : l ≠ [] := by rintro rfl; simp at hkl
      obtain ⟨b, off, rfl, hc⟩ := HA.out hne
      have hcell : W.cell? ⟨b, off + k, none⟩ = some (bv l[k]) := (Rd.below HA.out HB.out |> fun h => by
        obtain ⟨b', off', e, hc'⟩ := h hne
        injection e with e
        injection e with e1 e2
        subst e1; subst e2
        exact hc' k hkl)
      have hy := byte_lt HL.out hkl
      have HD : Hid (reg (upd x l[k]) (l.drop (k + 1)) = reg C l) := by
        show _ = _; rw [← HE.out, List.drop_eq_getElem_cons hkl]; rfl
      clear hc HE
      generalize l[k] = y at *
      unfold bv at hcell
      have hz : x % 256 ^^^ y < 256 := Nat.xor_lt_two_pow (n := 8) (by omega) hy
      have HY : Hid (bits .xor .u8 ((x : Int) % 256) (y : Int) = ((x % 256 ^^^ y : Nat) : Int)) := u8_xor_nat (x % 256) y (by omega) hy
      have HU : Hid (upd x y = x / 256 ^^^ stn 8 (x % 256 ^^^ y)) := upd_by x y hy
      have hux := upd_lt hx hy
      generalize x % 256 ^^^ y = z at *
      have hs8 : stn 8 z < 4294967296 := stn_lt 8 (by omega)
      have hct : W.cell? ⟨w1.heap.size, z, none⟩ = some (.int .u32 (stn 8 z : Nat)) := by rw [HT.out.cell, tabA_get _ z hz]
      have HZ : Hid (bits .xor .u32 ((x : Int) / 256) (stn 8 z : Nat) = ((upd x y : Nat) : Int)) := by
        show _ = _; rw [HU.out]; exact u32_xor_nat (x / 256) (stn 8 z) (by omega) hs8
      generalize stn 8 z = S at *
      clear HU
      have HY' := HY.out
      have HZ' := HZ.out
      go_wp2_with fail
      clear HY' HZ'
      go_round
      case rel => exact ⟨k + 1, upd x y, by omega, by go_num, rfl, hux, HD.out⟩
      case measure => simp [intOf]; omega
    · obtain rfl : k = n := by omega
      have HR : Hid (x = reg C l) := by show _ = _; rw [← HE.out, List.drop_eq_nil_of_le (by rw [HN.out]; omega)]; rfl
      have HO : Hid (bits .xor .u32 IntKind.u32.max (x : Int) = ((x ^^^ ones : Nat) : Int)) := by show _ = _; rw [Nat.xor_comm]; exact u32_xor_nat ones x ones_lt hx
      have hlt2 := xor_lt hx ones_lt
      have HM2 : Hid (moreF s l = x ^^^ ones) := by show _ = _; rw [HM.out, HR.out]
      clear HE HR HM
      go_wp2_with fail
      have e : wrap64 ((x ^^^ ones : Nat) : Int) = ((x ^^^ ones : Nat) : Int) := by unfold wrap64; omega
      rw [HO.out, e]
      go_ret
      exact ⟨by rw [HM2.out]; rfl, HB.out⟩
set_option maxHeartbeats 400000 in
theorem sum_any (A : Option Addr) (l : List Nat) (n c : Nat) (w : World) (hn : l.length = n) (hb : n ≤ 1000000) (hl : ∀ x ∈ l, x < 256) (hA : Rd w A l) :
    Calls Try.prog 12 #[.slice A n c] w fun e w' => e = .returned (.int .i64 (sum l)) ∧ Hid (Below w.heap.size w w') := by
  have HC := Lib.hid (more_any 0 A l n c w hn hb hl hA)
  go_enter Try.func12, Try.ntmps12
  go_wp2_with fail
  refine HC.out.mono ?_
  rintro e w1 ⟨rfl, hb1⟩
  rw [moreF_zero]
  go_wp2_with fail
  go_ret
  exact ⟨rfl, hb1⟩
/-- The four bytes of a check, as an array's cells. -/
def leA (S : Nat) : Array Value := ((le4 S).map bv).toArray
/-- They, as they are written: the first k of them. -/
def leK (S k : Nat) : Array Value := ((List.range 4).map (fun j => if j < k then Value.int .u8 ((S / 2 ^ (8 * j) % 256 : Nat) : Int) else .int .u8 0)).toArray
theorem leK_size (S k : Nat) : (leK S k).size = 4 := by simp [leK]
theorem leK_get (S k j : Nat) (h : j < 4) : (leK S k)[j]? = some (if j < k then Value.int .u8 ((S / 2 ^ (8 * j) % 256 : Nat) : Int) else .int .u8 0) := by simp [leK, h]
theorem leK_put (S k : Nat) : (leK S k).setIfInBounds k (.int .u8 ((S / 2 ^ (8 * k) % 256 : Nat) : Int)) = leK S (k + 1) := by
  apply Array.ext_getElem?
  intro j
  rw [Array.getElem?_setIfInBounds, leK_size]
  by_cases hj : j < 4
  · rw [leK_get S k j hj, leK_get S (k + 1) j hj]
    by_cases e : k = j
    · subst e; rw [if_pos rfl, if_pos hj, if_pos (by omega)]
    · rw [if_neg e]
      by_cases hjk : j < k
      · rw [if_pos hjk, if_pos (by omega)]
      · rw [if_neg hjk, if_neg (by omega)]
  · have e1 : (leK S k)[j]? = none := by rw [Array.getElem?_eq_none]; rw [leK_size]; omega
    have e2 : (leK S (k + 1))[j]? = none := by rw [Array.getElem?_eq_none]; rw [leK_size]; omega
    rw [e1, e2]
    split
    · rw [if_neg (by omega)]
    · rfl
theorem leK_end (S : Nat) (h : S < 4294967296) : leK S 4 = leA S := by
  have e : S / 16777216 % 256 = S / 16777216 := by omega
  have r : List.range 4 = [0, 1, 2, 3] := by decide
  simp [leK, leA, le4, bv, r]
  omega
theorem leA_one (S : Nat) : (leA S).all (·.oneCell') = true := by simp [leA, le4, bv, Value.oneCell']
theorem leA_size (S : Nat) : (leA S).size = 4 := rfl
set_option maxHeartbeats 1000000 in
set_option maxRecDepth 100000 in
theorem tail_any (A : Option Addr) (l : List Nat) (n c : Nat) (w : World) (hn : l.length = n) (hb : n ≤ 1000000) (hl : ∀ x ∈ l, x < 256) (hA : Rd w A l) :
    Calls Try.prog 21 #[.slice A n c] w fun e w' => e = .returned (.agg (leA (sum l))) ∧ Hid (Below w.heap.size w w') := by
  have hsl := sum_lt l hl
  have HC := fun W (hW : Below w.heap.size w W) => sum_any A l n c W hn hb hl (hA.below hW)
  have HS := Lib.hid HC
  clear HC hn hl hA
  generalize sum l = S at *
  go_enter Try.func21, Try.ntmps21
  go_wp2_with fail
  have hz : #[Value.int IntKind.u8 0, Value.int IntKind.u8 0, Value.int IntKind.u8 0, Value.int IntKind.u8 0] = leK S 0 := by
    have r : List.range 4 = [0, 1, 2, 3] := by decide
    simp [leK, r]
  rw [hz]
  clear hz
  have hT0 : Has ((w.alloc (.cells (leK S 0) 42)).alloc (.cells (leK S 0) 42)) (w.heap.size + 1) 42 (leK S 0) := by
    have h := Has.new (w.alloc (.cells (leK S 0) 42)) 42 (leK S 0)
    simpa using h
  have hR0 : Has ((w.alloc (.cells (leK S 0) 42)).alloc (.cells (leK S 0) 42)) w.heap.size 42 (leK S 0) := (Has.new w 42 (leK S 0)).alloc _
  have hB0 : Below w.heap.size w ((w.alloc (.cells (leK S 0) 42)).alloc (.cells (leK S 0) 42)) := ((Below.refl _ _).alloc (Nat.le_refl _) _).alloc (by simp) _
  have HT0 := Lib.hid hT0
  have HR0 := Lib.hid hR0
  have HB0 := Lib.hid hB0
  clear hT0 hR0 hB0
  refine (HS.out _ HB0.out).mono ?_
  rintro e w1 ⟨rfl, hb1⟩
  have HT := Lib.hid (HT0.out.below hb1.out HT0.out.lt)
  have HR := Lib.hid (HR0.out.below hb1.out HR0.out.lt)
  have HB := Lib.hid (HB0.out.trans (hb1.out.mono HB0.out.size))
  clear HT0 HR0 HB0 hb1 HS
  go_wp2_with fail
  go_loopw [8] (fun i wr => ∃ k : Nat, k ≤ 4 ∧ i = .int .i64 k ∧ Has wr (w.heap.size + 1) 42 (leK S k) ∧ Has wr w.heap.size 42 (leK S 0) ∧ Below w.heap.size w wr) (fun i _ => 4 - (intOf i).toNat)
  case atStart => exact ⟨0, by omega, rfl, HT.out, HR.out, HB.out⟩
  case round =>
    obtain ⟨k, hk, rfl, hT, hR, hb2⟩ := hrel
    have HT2 := Lib.hid hT
    have HR2 := Lib.hid hR
    have HB2 := Lib.hid hb2
    clear hT hR hb2
    by_cases hlt : k < 4
    · have hc : wr.cell? ⟨w.heap.size + 1, k, none⟩ = some (if k < k then Value.int .u8 ((S / 2 ^ (8 * k) % 256 : Nat) : Int) else .int .u8 0) := by rw [HT2.out.cell, leK_get S k k hlt]
      have hf := HT2.out.free k
      go_wp2_with fail
      go_roundw
      case rel =>
        refine ⟨k + 1, by omega, by go_num, ?_, HR2.out.far (by simp) _, HB2.out.setCell (by simp) _⟩
        have e : ((S : Int) / 2 ^ (8 * k) % 256) = ((S / 2 ^ (8 * k) % 256 : Nat) : Int) := by rw [Int.natCast_emod, Int.natCast_ediv, Int.natCast_pow]; rfl
        rw [e, ← leK_put]
        exact HT2.out.put k _
      case measure => simp [intOf]; omega
    · obtain rfl : k = 4 := by omega
      have hT := HT2.out
      rw [leK_end S hsl] at hT
      have HT4 := Lib.hid hT
      clear hT HT2
      go_wp2_with (first
        | (refine wpList_load_row rfl 42 _ rfl (w.heap.size + 1) rfl 42 (leA S) (0, 0) _ HT4.out Try.underlying42 rfl (by rw [leA_size]; kernel_rfl) ?_)
        | (refine wpList_store_row rfl 42 _ _ rfl w.heap.size (leA S) rfl rfl 42 (leK S 0) HR2.out (by rw [leA_size]; kernel_rfl) (by rw [leA_size, leK_size]) (leA_one _) ?_))
      exact bodyPost_ret (v := .agg (leA S)) (results_cell_row Try.results21 _ _ w.heap.size 42 (leA S) (0, 0) _ rfl (setRow_heap _ w.heap.size _ _ 42 (0, 0) HR2.out) Try.underlying42 rfl (by rw [leA_size]; kernel_rfl)) rfl ⟨rfl, below_setRow HB2.out (Nat.le_refl _) _⟩
theorem own_zeros (w : World) (n G : Nat) (hG : n ≤ G) (hm : G ≤ maxLen) :
    Own w.heap.size (w.drew.alloc (.cells (([] : List Value).toArray ++ Builtin.zeroCells (Value.int .u8 0).cells n ++ Builtin.zeroCells (Value.int .u8 0).cells (G - n)) 5)) (.slice (some ⟨w.heap.size, 0, none⟩) 0 G) [] :=
  World.ownsRow_made (base := w.heap.size) w.drew _ G (Nat.le_refl _) hm (by simp [size_zeroCells, Value.cells]; omega)
set_option maxHeartbeats 1000000 in
theorem grow_any (n : Nat) (w : World) (h2 : n ≤ 1000000) :
    Calls Try.prog 25 #[.slice none 0 0, .int .i64 n] w fun e w' => ∃ v, e = .returned v ∧ Hid (Own w.heap.size w' v []) ∧ Hid (Below w.heap.size w w') := by
  by_cases h1 : n = 0
  · subst h1
    go_enter Try.func25, Try.ntmps25
    go_wp2_with fail
    go_ret
    exact ⟨_, rfl, World.ownsRow_nil _ _ _ _, Below.refl _ _⟩
  · obtain ⟨i0, hi, hz0, hz1, hz2⟩ := info_parts info5
    have h0 : 1 ≤ n := by omega
    have hr := fun ty => Lib.run_append_grow_zeros (P := Try.prog) w 22 3 ty 5 i0 (.int .u8 0) .i64 .i64 Try.underlying22 Try.underlying3 hi hz0 none 0 0 [] (run_firstCells_none w.drew i0.size 0 0 0) n (by omega) (by rw [hz1]; omega) (by omega) (by omega) (by rw [hz2]; omega) (by rw [hz2]; exact growslice_fits (by omega) (by omega))
    simp only [Nat.zero_add] at hr
    have hG := grownCap_ge w n 0 5
    have hM := grownCap_le_maxLen w n 0 5 (by unfold maxLen; omega)
    have HO := Lib.hid (own_zeros w n _ hG hM)
    have HB := Lib.hid (((Below.refl w.heap.size w).drew).alloc (Nat.le_refl _) (.cells (([] : List Value).toArray ++ Builtin.zeroCells (Value.int .u8 0).cells n ++ Builtin.zeroCells (Value.int .u8 0).cells (grownCap w n 0 5 - n)) 5))
    have HR := Lib.hid hr
    unfold maxLen at hM
    clear hr h1
    generalize grownCap w n 0 5 = G at *
    obtain ⟨W, hW⟩ : ∃ W, W = w.drew.alloc (.cells (([] : List Value).toArray ++ Builtin.zeroCells (Value.int .u8 0).cells n ++ Builtin.zeroCells (Value.int .u8 0).cells (G - n)) 5) := ⟨_, rfl⟩
    rw [← hW] at HR HO HB
    clear hW
    go_enter Try.func25, Try.ntmps25
    go_wp2_with (at_builtin; refine Lib.wpList_append_run _ rfl _ _ _ _ rfl _ _ rfl rfl _ _ (HR.out _) ?_)
    go_ret
    exact ⟨_, rfl, HO, HB⟩
/-- A row of slices of bytes, as it is handed to a function that takes any number of them. -/
def Parts (w : World) (g : Nat) (L : List (Option Addr × List Nat × Nat)) : Prop := ∀ i (h : i < L.length), w.cell? ⟨g, i, none⟩ = some (.slice L[i].1 L[i].2.1.length L[i].2.2) ∧ Rd w L[i].1 L[i].2.1 ∧ (L[i].1 = none → L[i].2.2 = 0)
def cat (L : List (Option Addr × List Nat × Nat)) (k : Nat) : List Nat := (L.take k).flatMap (fun x => x.2.1)
theorem cat_zero (L : List (Option Addr × List Nat × Nat)) : cat L 0 = [] := rfl
theorem cat_succ (L : List (Option Addr × List Nat × Nat)) (k : Nat) (h : k < L.length) : cat L (k + 1) = cat L k ++ L[k].2.1 := by
  unfold cat
  rw [List.take_succ_eq_append_getElem h, List.flatMap_append]
  simp
theorem cat_le (L : List (Option Addr × List Nat × Nat)) (k : Nat) : (cat L k).length ≤ (cat L L.length).length := by
  have h : cat L L.length = cat L k ++ (L.drop k).flatMap (fun x => x.2.1) := by
    unfold cat
    rw [← List.flatMap_append, List.take_append_drop, List.take_length]
  rw [h, List.length_append]
  omega
theorem cat_len_succ (L : List (Option Addr × List Nat × Nat)) (k : Nat) (h : k < L.length) : (cat L (k + 1)).length = (cat L k).length + L[k].2.1.length := by
  rw [cat_succ L k h, List.length_append]
set_option maxHeartbeats 2000000 in
set_option maxRecDepth 100000 in
theorem concat_any (g : Nat) (L : List (Option Addr × List Nat × Nat)) (n c : Nat) (w : World) (hL : L.length = n) (hn : n ≤ 1000) (hP : Parts w g L) (hb : (cat L n).length ≤ 1000000) :
    Calls Try.prog 22 #[.slice (some ⟨g, 0, none⟩) n c] w (OutO w (cat L n)) := by
  have HL := Lib.hid hL
  have HP := Lib.hid hP
  clear hL hP
  go_enter Try.func22, Try.ntmps22
  go_wp2_with fail
  go_loop [3, 11] (fun v i => ∃ k : Nat, k ≤ n ∧ i = .int .i64 k ∧ v = .int .i64 (cat L k).length) (fun _ i => n - (intOf i).toNat)
  case atStart => exact ⟨0, by omega, rfl, rfl⟩
  case round =>
    obtain ⟨k, hk, rfl, rfl⟩ := hrel
    by_cases hlt : k < n
    · have hkl : k < L.length := by rw [HL.out]; exact hlt
      obtain ⟨hc, _, _⟩ := HP.out k hkl
      have h1 := cat_len_succ L k hkl
      have h2 := cat_le L (k + 1)
      rw [HL.out] at h2
      have H1 := Lib.hid h1
      have hs : (cat L k).length + L[k].2.1.length ≤ 1000000 := by omega
      clear h1 h2
      generalize L[k].2.1.length = m at *
      generalize L[k].1 = B at *
      generalize L[k].2.2 = d at *
      generalize (cat L k).length = T at *
      go_wp2_with fail
      go_round
      case rel => exact ⟨k + 1, by omega, by go_num, by rw [H1.out]; go_num⟩
      case measure => simp [intOf]; omega
    · obtain rfl : k = n := by omega
      go_wp2_with fail
      refine (grow_any _ _ hb).mono ?_
      rintro e w1 ⟨v, rfl, HO, HB⟩
      go_wp2_with fail
      go_loopw [6, 27] (fun v i wr => ∃ j : Nat, j ≤ k ∧ i = .int .i64 j ∧ Hid (Own w.heap.size wr v (cat L j)) ∧ Hid (Below w.heap.size w wr)) (fun _ i _ => k - (intOf i).toNat)
      case atStart => exact ⟨0, by omega, rfl, HO, HB⟩
      case round =>
        obtain ⟨j, hj, rfl, HO2, HB2⟩ := hrel
        clear HO HB
        by_cases hlt2 : j < k
        · have hjl : j < L.length := by rw [HL.out]; exact hlt2
          obtain ⟨hc0, hr0, hn0⟩ := HP.out j hjl
          have hc : wr.cell? ⟨g, j, none⟩ = some (.slice L[j].1 L[j].2.1.length L[j].2.2) := (HB2.out.cell (World.block_lt_of_cell? w _ hc0)).trans hc0
          have h1 := cat_len_succ L j hjl
          have h2 := cat_le L (j + 1)
          rw [HL.out] at h2
          have HA := Lib.hid (own_app wr w.heap.size _ (cat L j) HO2.out HB2.out.size L[j].1 L[j].2.1 L[j].2.1.length L[j].2.2 rfl (hr0.below HB2.out) (by omega) hn0)
          rw [← cat_succ L j hjl] at HA
          clear hc0 hr0 hn0 h1 h2
          generalize L[j].2.1.length = m at *
          generalize L[j].1 = B at *
          generalize L[j].2.2 = d at *
          go_wp2_with (at_builtin; refine wpList_app rfl _ _ 22 22 rfl u6 (.slice B m d) rfl rfl ?_; obtain ⟨R, W', hrun, hmade⟩ := HA.out; refine ⟨R, W', hrun, ?_⟩; have HM := Lib.hid hmade; clear hrun hmade HA)
          go_roundw
          case rel => exact ⟨j + 1, by omega, by go_num, HM.out.1, HB2.out.trans (HM.out.2.mono (Nat.le_refl _))⟩
          case measure => simp [intOf]; omega
        · obtain rfl : j = k := by omega
          go_wp2_with fail
          go_ret
          exact ⟨_, rfl, HO2.out, HB2.out⟩
theorem own_down {B B' : Nat} {w : World} {v : Value} {l : List Nat} (h : Own B w v l) (hb : B' ≤ B) : Own B' w v l := by
  obtain ⟨h1, h2⟩ := h
  refine ⟨h1, ?_⟩
  rcases h2 with h2 | ⟨g, cap, cur, e, hg, r⟩
  · exact .inl h2
  · exact .inr ⟨g, cap, cur, e, Nat.le_trans hb hg, r⟩
theorem Rd.leA {w : World} {g S : Nat} {t : TypeId} (h : Has w g t (leA S)) : Rd w (some ⟨g, 0, none⟩) (le4 S) := Rd.of_has h fun i hi => by
  have ht : ∀ (l : List Value) (i : Nat), l.toArray[i]? = l[i]? := fun l i => by simp
  unfold Ytbaafbcdhgfpdaa.leA
  rw [ht, List.getElem?_map, List.getElem?_eq_getElem hi]
  rfl
theorem parts3 (W : World) (A A' A2 : Option Addr) (l m q : List Nat) (n c k d r e : Nat) (hn : l.length = n) (hk : m.length = k) (hr : q.length = r) (h1 : Rd W A l) (h2 : Rd W A' m) (h3 : Rd W A2 q) (z1 : A = none → c = 0) (z2 : A' = none → d = 0) (z3 : A2 = none → e = 0) :
    Parts (W.alloc (.cells #[.slice A n c, .slice A' k d, .slice A2 r e] 22)) W.heap.size [(A, l, c), (A', m, d), (A2, q, e)] := by
  subst hn hk hr
  have hb : Below W.heap.size W (W.alloc (.cells #[.slice A l.length c, .slice A' m.length d, .slice A2 q.length e] 22)) := (Below.refl _ _).alloc (Nat.le_refl _) _
  have hc := Has.new W 22 #[.slice A l.length c, .slice A' m.length d, .slice A2 q.length e]
  intro i hi
  have hi' : i = 0 ∨ i = 1 ∨ i = 2 := by simp at hi; omega
  rcases hi' with rfl | rfl | rfl
  · exact ⟨by rw [hc.cell]; rfl, h1.below hb, z1⟩
  · exact ⟨by rw [hc.cell]; rfl, h2.below hb, z2⟩
  · exact ⟨by rw [hc.cell]; rfl, h3.below hb, z3⟩
theorem cat3 (A A' A2 : Option Addr) (l m q : List Nat) (c d e : Nat) : cat [(A, l, c), (A', m, d), (A2, q, e)] 3 = l ++ m ++ q := by
  simp [cat]
set_option maxHeartbeats 1000000 in
set_option maxRecDepth 100000 in
theorem put_any (A : Option Addr) (l : List Nat) (n c : Nat) (A' : Option Addr) (m : List Nat) (k d : Nat) (w : World) (hn : l.length = n) (hk : m.length = k) (hb : n + k ≤ 10000) (hm : ∀ x ∈ m, x < 256) (hA : Rd w A l) (hA' : Rd w A' m) (h0 : A = none → c = 0) (h0' : A' = none → d = 0) :
    Calls Try.prog 16 #[.slice A n c, .slice A' k d] w (OutO w (l ++ m ++ le4 (sum m))) := by
  have HC := Lib.hid (tail_any A' m k d w hk (by omega) hm hA')
  have hsl := sum_lt m hm
  generalize sum m = S at *
  have HN := Lib.hid hn
  have HK := Lib.hid hk
  have HA := Lib.hid hA
  have HA' := Lib.hid hA'
  have H0 := Lib.hid h0
  have H0' := Lib.hid h0'
  clear hn hk hm hA hA' h0 h0'
  go_enter Try.func16, Try.ntmps16
  go_wp2_with fail
  refine HC.out.mono ?_
  rintro e w1 ⟨rfl, hb1⟩
  go_wp2_with (refine wpList_store_row rfl 42 _ _ rfl w1.heap.size (leA S) rfl rfl 42 _ (heap_alloc_new w1 _) (by rw [leA_size]; kernel_rfl) (by rw [leA_size]; rfl) (leA_one _) ?_)
  obtain ⟨W, hW⟩ : ∃ W, W = (w1.alloc (.cells #[.int .u8 0, .int .u8 0, .int .u8 0, .int .u8 0] 42)).setRow w1.heap.size (leA S) := ⟨_, rfl⟩
  have HT : Hid (Has W w1.heap.size 42 (leA S)) := by rw [hW]; exact setRow_heap _ _ _ _ _ (0, 0) (heap_alloc_new w1 _)
  have HB : Hid (Below w.heap.size w W) := by rw [hW]; exact below_setRow (hb1.out.alloc hb1.out.size _) hb1.out.size _
  have HZ : Hid (W.heap.size = w1.heap.size + 1) := by rw [hW]; show _ = _; rw [setRow_size]; simp
  rw [← hW]
  clear hW hb1
  go_wp2_with fail
  have hP := parts3 W A A' (some ⟨w1.heap.size, 0, none⟩) l m (le4 S) n c k d 4 4 HN.out HK.out (le4_len S) (HA.out.below HB.out) (HA'.out.below HB.out) (Rd.leA HT.out) H0.out H0'.out (fun e => by cases e)
  have hB2 : Below w.heap.size w (W.alloc (.cells #[.slice A n c, .slice A' k d, .slice (some ⟨w1.heap.size, 0, none⟩) 4 4] 22)) := HB.out.alloc HB.out.size _
  have hC := concat_any W.heap.size _ 3 3 _ rfl (by omega) hP (by rw [cat3, List.length_append, List.length_append, HN.out, HK.out, le4_len]; omega)
  rw [cat3, HZ.out] at hC
  have HCC := Lib.hid hC
  have HB2 := Lib.hid hB2
  clear hP hB2 hC
  refine HCC.out.mono ?_
  intro e w2 ho
  obtain ⟨v, rfl, hv, hb3⟩ := ho
  have HV : Hid (Own w.heap.size w2 v (l ++ m ++ le4 S)) := own_down hv HB2.out.size
  have HB3 := Lib.hid (HB2.out.trans (hb3.mono HB2.out.size))
  clear hv hb3
  go_wp2_with fail
  go_ret
  exact ⟨_, rfl, HV.out, HB3.out⟩
end Go.Proofs.Ytbaafbcdhgfpdaa
