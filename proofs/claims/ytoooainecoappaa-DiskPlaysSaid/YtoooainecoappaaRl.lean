/-
  The document's disk: where a file stands, deeds that are left, room, a file's bytes.
-/
import Derived.Test.YtoooainecoappaaRk
import Derived.Test.YtoooainecoappaaDkPd
import Derived.Deep.QuietTactic
import Derived.BigQuiet
namespace Go.Proofs.Ytoooainecoappaa
open Go.RowKit Go.Maps Go.WideShapes
section
variable {r : Nat} {w : World} {S : Ds} {v : Value} {ra : Int}
set_option maxHeartbeats 2000000 in
set_option maxRecDepth 100000 in
theorem at_no (h : RIn r w S v ra) (s : ByteArray) (hh : hasP (nmO s) S.fs = false) (hl : S.fs.length ≤ 100000) :
    Calls Try.prog 61 #[.pointer (some ⟨r, 0, none⟩), .string s] w fun e w' => e = .returned (.int .i64 (-1)) ∧ w' = w := by
  obtain ⟨A, c, rfl, _, _, _, _, hrow⟩ := h.row
  have HR := Lib.hid hrow
  have t1 := h.top.cell 1
  have HN := Lib.hid (List.any_eq_false.1 hh)
  clear h hrow hh
  obtain ⟨n, hn⟩ : ∃ n, S.fs.length = n := ⟨_, rfl⟩
  have HL := Lib.hid hn
  rw [hn] at t1 hl
  clear hn
  go_enter Try.func61, Try.ntmps61
  go_wp2_with fail
  go_loopw [5] (fun i wr => ∃ k : Nat, k ≤ n ∧ i = .int .i64 k ∧ wr = w) (fun i _ => n - (intOf i).toNat)
  case atStart => exact ⟨0, by omega, rfl, rfl⟩
  case round =>
    obtain ⟨k, hk, rfl, rfl⟩ := hrel
    by_cases hlt : k < n
    · have hkl : k < S.fs.length := by rw [HL.out]; exact hlt
      obtain ⟨g, rfl, c0, _⟩ := HR.out k _ (List.getElem?_eq_getElem hkl)
      have hne := HN.out _ (List.getElem_mem hkl)
      generalize S.fs[k] = f at *
      have hq : ((tx f.nm).toList == s.toList) = false := by
        rw [tx_list, nm_list]
        simpa using hne
      clear hne
      go_wp2_with fail
      go_roundw
      case rel => exact ⟨k + 1, by omega, by go_num, by trivial⟩
      case measure => simp [intOf]; omega
    · obtain rfl : k = n := by omega
      go_wp2_with fail
      go_ret
      exact ⟨rfl, by trivial⟩
set_option maxHeartbeats 2000000 in
set_option maxRecDepth 100000 in
theorem at_yes (h : RIn r w S v ra) (hg : Good S) (s : ByteArray) (j : Nat) (x : Pf) (hj : S.fs[j]? = some x) (hx : x.nm = nmO s) (hl : S.fs.length ≤ 100000) :
    Calls Try.prog 61 #[.pointer (some ⟨r, 0, none⟩), .string s] w fun e w' => e = .returned (.int .i64 j) ∧ w' = w := by
  obtain ⟨A, c, rfl, _, _, _, _, hrow⟩ := h.row
  have HR := Lib.hid hrow
  have t1 := h.top.cell 1
  have HG := Lib.hid (fun k f (hk : S.fs[k]? = some f) (e : f.nm = x.nm) => hg.one hk hj e)
  have hjl := (List.getElem?_eq_some_iff.1 hj).1
  clear h hrow
  obtain ⟨n, hn⟩ : ∃ n, S.fs.length = n := ⟨_, rfl⟩
  have HL := Lib.hid hn
  have HX := Lib.hid hx
  have HJ := Lib.hid hj
  rw [hn] at t1 hl hjl
  clear hn hx hj
  go_enter Try.func61, Try.ntmps61
  go_wp2_with fail
  go_loopw [5] (fun i wr => ∃ k : Nat, k ≤ j ∧ i = .int .i64 k ∧ wr = w) (fun i _ => n - (intOf i).toNat)
  case atStart => exact ⟨0, by omega, rfl, rfl⟩
  case round =>
    obtain ⟨k, hk, rfl, rfl⟩ := hrel
    have hlt : k < n := by omega
    have hkl : k < S.fs.length := by rw [HL.out]; exact hlt
    obtain ⟨g, rfl, c0, _⟩ := HR.out k _ (List.getElem?_eq_getElem hkl)
    by_cases hkj : k < j
    · have hne : S.fs[k].nm ≠ x.nm := fun e => by have := HG.out k _ (List.getElem?_eq_getElem hkl) e; omega
      generalize S.fs[k] = f at *
      have hq : ((tx f.nm).toList == s.toList) = false := by
        rw [tx_list, nm_list, ← HX.out]
        simpa using hne
      clear hne
      go_wp2_with fail
      go_roundw
      case rel => exact ⟨k + 1, by omega, by go_num, by trivial⟩
      case measure => simp [intOf]; omega
    · obtain rfl : k = j := by omega
      have hfx : S.fs[k] = x := by
        have := HJ.out
        rw [List.getElem?_eq_getElem hkl] at this
        simpa using this
      rw [hfx] at c0
      have hq : ((tx x.nm).toList == s.toList) = true := by
        rw [tx_list, nm_list, ← HX.out]
        simp
      clear hfx
      go_wp2_with fail
      go_ret
      exact ⟨rfl, by trivial⟩
theorem RIn.tops {w' : World} (h : RIn r w S v ra) (a rb : Int) (q : Bool) (ht : Has w' r 67 #[.int .i64 S.room, v, .int .i64 rb, .bool q]) (hb : ∀ b, b ≠ r → w'.heap[b]? = w.heap[b]?)
    (ha : q = true ∨ rb = a ∨ (a < 0 ∧ rb = -1)) (hr : -1 ≤ rb ∧ rb ≤ 9223372036854775807) : RIn r w' { S with armed := a, down := q } v rb :=
  ⟨ht, row_keep h.own fun g hg => hb g (h.ne g hg), ha, hr, h.ne⟩
/-- What a deed that may be the last one comes to. -/
def GoesR (r : Nat) (S : Ds) (v : Value) (e : Ending) (w' : World) : Prop :=
  (S.armed = 0 ∧ e = .returned (.bool true) ∧ RIn r w' { S with down := true } v (-1)) ∨ (S.armed ≠ 0 ∧ e = .returned (.bool false) ∧ ∃ rb, RIn r w' { S with armed := dec S.armed } v rb)
set_option maxHeartbeats 2000000 in
set_option maxRecDepth 100000 in
theorem goes_any (h : RIn r w S v ra) (hd : S.down = false) :
    Calls Try.prog 62 #[.pointer (some ⟨r, 0, none⟩)] w fun e w' => GoesR r S v e w' ∧ Hid (Tur [r] w w') ∧ w'.heap.size = w.heap.size := by
  have t2 := h.top.cell 2
  have t3 := h.top.cell 3
  have f2 := h.top.free 2
  have f3 := h.top.free 3
  have hr := h.rng
  have ha : ra = S.armed ∨ (S.armed < 0 ∧ ra = -1) := by
    rcases h.arm with h1 | h1
    · rw [hd] at h1; cases h1
    · exact h1
  have H := Lib.hid h
  clear h
  by_cases h0 : ra = 0
  · have hs : S.armed = 0 := by omega
    subst h0
    have HT : Hid (Tur [r] w ((w.setCell ⟨r, 3, none⟩ (.bool true)).setCell ⟨r, 2, none⟩ (.int .i64 (-1)))) := (Tur.setCell w (p := ⟨r, 3, none⟩) (by simp) _).trans (Tur.setCell _ (p := ⟨r, 2, none⟩) (by simp) _) (Fre.refl _ _)
    have HI : Hid (RIn r ((w.setCell ⟨r, 3, none⟩ (.bool true)).setCell ⟨r, 2, none⟩ (.int .i64 (-1))) { S with down := true } v (-1)) :=
      H.out.tops S.armed (-1) true ((H.out.top.put 3 (.bool true)).put 2 (.int .i64 (-1))) (fun b hb => (Below.heap_setCell _ ⟨r, 2, none⟩ _ _ hb).trans (Below.heap_setCell _ ⟨r, 3, none⟩ _ _ hb)) (.inl rfl) (by omega)
    go_enter Try.func62, Try.ntmps62
    go_wp2_with fail
    go_ret
    exact ⟨.inl ⟨hs, rfl, HI.out⟩, HT, by simp [World.setCell]⟩
  · have hz : (ra == 0) = false := by simpa using h0
    have hs : S.armed ≠ 0 := by omega
    by_cases hp : 0 < ra
    · have hra : ra = S.armed := by omega
      have hdc : dec S.armed = ra - 1 := by unfold dec; rw [if_pos (by omega)]; omega
      have HT : Hid (Tur [r] w (w.setCell ⟨r, 2, none⟩ (.int .i64 (ra - 1)))) := Tur.setCell w (p := ⟨r, 2, none⟩) (by simp) _
      have HI : Hid (RIn r (w.setCell ⟨r, 2, none⟩ (.int .i64 (ra - 1))) { S with armed := dec S.armed } v (ra - 1)) :=
        H.out.tops (dec S.armed) (ra - 1) S.down (H.out.top.put 2 (.int .i64 (ra - 1))) (fun b hb => Below.heap_setCell _ ⟨r, 2, none⟩ _ _ hb) (.inr (.inl hdc.symm)) (by omega)
      have b1 : -9223372036854775808 ≤ ra - 1 := by omega
      have b2 : ra - 1 ≤ 9223372036854775807 := by omega
      clear hra hdc
      go_enter Try.func62, Try.ntmps62
      go_wp2_with fail
      go_ret
      exact ⟨.inr ⟨hs, rfl, _, HI.out⟩, HT, by simp [World.setCell]⟩
    · have hdc : dec S.armed = S.armed := by unfold dec; rw [if_neg (by omega)]
      have HI : Hid (RIn r w { S with armed := dec S.armed } v ra) := by
        show RIn _ _ _ _ _
        rw [hdc]
        exact H.out
      have hp' : ra < 0 := by omega
      clear hdc
      go_enter Try.func62, Try.ntmps62
      go_wp2_with fail
      go_ret
      exact ⟨.inr ⟨hs, rfl, _, HI.out⟩, Tur.refl _ _, rfl⟩
theorem tot_take (l : List Pf) (k : Nat) (f : Pf) (h : l[k]? = some f) : tot (l.take (k + 1)) = tot (l.take k) + f.l.length := by
  obtain ⟨hk, e⟩ := List.getElem?_eq_some_iff.1 h
  rw [List.take_succ_eq_append_getElem hk, e]
  simp only [tot, List.map_append, List.map_cons, List.map_nil, List.sum_append, List.sum_cons, List.sum_nil]
  omega
theorem tot_take_le (l : List Pf) (k : Nat) : tot (l.take k) ≤ tot l := by
  conv => rhs; rw [← List.take_append_drop k l]
  simp only [tot, List.map_append, List.sum_append]
  omega
set_option maxHeartbeats 2000000 in
set_option maxRecDepth 100000 in
theorem rfree_any (h : RIn r w S v ra) (hg : Good S) (hl : S.fs.length ≤ 100000) :
    Calls Try.prog 44 #[.pointer (some ⟨r, 0, none⟩)] w fun e w' => e = .returned (.int .i64 (freeD S)) ∧ Hid (Below w.heap.size w w') := by
  obtain ⟨A, c, rfl, _, _, _, _, hrow⟩ := h.row
  have HR := Lib.hid hrow
  have t0 := h.top.cell 0
  have HT := Lib.hid h.top
  have hfull := hg.full
  have hroom := hg.room
  have HK := Lib.hid hg.kept
  clear h hrow hg
  obtain ⟨n, hn⟩ : ∃ n, S.fs.length = n := ⟨_, rfl⟩
  have HL := Lib.hid hn
  rw [hn] at HT t0 hl
  clear hn
  go_enter Try.func44, Try.ntmps44
  go_wp2_with fail
  go_loopw [3, 4] (fun x i wr => ∃ (k q : Nat), k ≤ n ∧ i = .int .i64 k ∧ x = .int .i64 q ∧ Hid (q + tot (S.fs.take k) = S.room) ∧ Hid (Below w.heap.size w wr)) (fun _ i _ => n - (intOf i).toNat)
  case atStart => exact ⟨0, S.room, by omega, rfl, rfl, by show _ = _; simp [tot], Below.refl _ _⟩
  case round =>
    obtain ⟨k, q, hk, rfl, rfl, HQ, HB⟩ := hrel
    have t1 := (HT.out.below HB.out HT.out.lt).cell 1
    by_cases hlt : k < n
    · have hkl : k < S.fs.length := by rw [HL.out]; exact hlt
      obtain ⟨g, rfl, d0, d1, d2, _⟩ := HR.out k _ (List.getElem?_eq_getElem hkl)
      have HQ2 := Lib.hid (tot_take S.fs k _ (List.getElem?_eq_getElem hkl))
      have HQ3 := Lib.hid (tot_take_le S.fs (k + 1))
      have hkp := (HK.out _ (List.getElem_mem hkl)).1
      have c1 : wr.cell? ⟨g, k * 3 + 1, none⟩ = some (.string (bs (S.fs[k].l.take S.fs[k].k))) := (HB.out.cell (World.block_lt_of_cell? w _ d1)).trans d1
      have c2 : wr.cell? ⟨g, k * 3 + 2, none⟩ = some (.string (bs (S.fs[k].l.drop S.fs[k].k))) := (HB.out.cell (World.block_lt_of_cell? w _ d2)).trans d2
      have s1 : (bs (S.fs[k].l.take S.fs[k].k)).size + (bs (S.fs[k].l.drop S.fs[k].k)).size = S.fs[k].l.length := by rw [bs_size, bs_size, List.length_take, List.length_drop]; omega
      generalize bs (S.fs[k].l.take S.fs[k].k) = sa at *
      generalize bs (S.fs[k].l.drop S.fs[k].k) = sb2 at *
      have hle : S.fs[k].l.length ≤ q := by have h1 := HQ.out; have h2 := HQ2.out; have h3 := HQ3.out; omega
      have hq2 : q ≤ 1000 := by have h1 := HQ.out; omega
      generalize hz1 : sa.size = za at *
      generalize hz2 : sb2.size = zb at *
      have HX : Hid (q - (za + zb) + tot (S.fs.take (k + 1)) = S.room) := by
        show _ = _
        rw [HQ2.out, ← s1]
        have := HQ.out
        omega
      have i1 : (0 : Int) ≤ (q : Int) - (za : Int) := by omega
      have i2 : (q : Int) - (za : Int) ≤ 1000 := by omega
      have i3 : (0 : Int) ≤ (q : Int) - (za : Int) - (zb : Int) := by omega
      have i4 : (q : Int) - (za : Int) - (zb : Int) ≤ 1000 := by omega
      have HBD := Lib.hid (fun m => below_drewN HB.out m)
      clear d0 d1 d2 HQ2 HQ3 hkp
      go_wp2_with fail
      go_quiet (fail)
      go_wp2_with fail
      go_roundw
      case rel => exact ⟨k + 1, q - (za + zb), by omega, by go_num, by go_num, HX, HBD.out _⟩
      case measure => simp [intOf]; omega
    · obtain rfl : k = n := by omega
      have hq : q = freeD S := by
        have h1 := HQ.out
        rw [List.take_of_length_le (by rw [HL.out]; exact Nat.le_refl _)] at h1
        unfold freeD; omega
      subst hq
      go_wp2_with fail
      go_ret
      exact ⟨rfl, HB⟩
end
end Go.Proofs.Ytoooainecoappaa
