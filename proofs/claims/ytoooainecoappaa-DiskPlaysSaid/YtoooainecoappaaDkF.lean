/-
  The program's find: which file a name is, or what is told against it.
-/
import Derived.Test.YtoooainecoappaaDkS
import Derived.Test.YtoooainecoappaaDkN
import Derived.Deep.QuietTactic
import Derived.BigQuiet
namespace Go.Proofs.Ytoooainecoappaa
open Go.RowKit Go.Maps Go.WideShapes Go.WideMaps

/-- What is told against names, of which the first one is looked for. -/
def errs (S : Ds) (s : ByteArray) (L : List ByteArray) : Nat := if S.down then 12 else if !((s :: L).all fileF) then 6 else if hasP (nmO s) S.fs then 0 else 7
theorem look_run {B d : Nat} {w : World} {S : Ds} {m : Nat} {gs : List Fl} (h : DIn B d w S m gs) (s : ByteArray) (hs : s.size ≤ 140737488355328) :
    (hasP (nmO s) S.fs = false ∧ (Instr.lookup 62 (.map (some m)) (.string s) true).run Try.prog w = .ok (.tuple #[.pointer none, .bool false]) w) ∨
    ∃ f ∈ gs, f.nm = nmO s ∧ hasP (nmO s) S.fs = true ∧ (Instr.lookup 62 (.map (some m)) (.string s) true).run Try.prog w = .ok (.tuple #[.pointer (some ⟨f.blk, 0, none⟩), .bool true]) w := by
  have hz : (zeroValue 94).run Try.prog w = .ok (.pointer none) w := by kernel_rfl
  have hkey : keyOf Try.prog 9 (.string s) = some (.string (nmO s)) := keyOf_string_mk Try.underlying9 (by unfold maxLen; omega)
  obtain ⟨v, ps, hrun, hv⟩ := h.map.look_ok strK Try.underlying62 hz (zd := .lit (.int .i64 (-1))) rfl hkey
  rw [has_ent, ← h.has_iff] at hrun
  cases hh : hasP (nmO s) S.fs with
  | false =>
    rw [hh] at hrun
    have hno := h.no hh
    have hf : gs.find? (fun f => f.nm == nmO s) = none := List.find?_eq_none.2 fun f hf => by simpa using hno f hf
    rw [at_ent, hf] at hv
    obtain rfl := ptrR_nil hv
    exact .inl ⟨rfl, hrun⟩
  | true =>
    rw [hh] at hrun
    obtain ⟨f, hf, hn, _, hfi⟩ := h.get hh
    rw [at_ent, hfi] at hv
    obtain rfl := ptrR_at hv
    exact .inr ⟨f, hf, hn, rfl, hrun⟩
set_option maxHeartbeats 2000000 in
set_option maxRecDepth 100000 in
theorem find_any (B d : Nat) (w : World) (S : Ds) (m : Nat) (gs : List Fl) (h : DIn B d w S m gs) (g : Nat) (s : ByteArray) (L : List ByteArray) (n : Nat) (hL : L.length + 1 = n) (hn : n ≤ 10)
    (hs : ∀ x ∈ s :: L, x.size ≤ 140737488355328) (hc : ∀ i (hi : i < (s :: L).length), w.cell? ⟨g, i, none⟩ = some (.string (s :: L)[i])) :
    Calls Try.prog 57 #[.pointer (some ⟨d, 0, none⟩), .slice (some ⟨g, 0, none⟩) n n] w fun e w' =>
      ∃ p, e = .returned (.tuple #[.pointer p, .int .i64 (errs S s L)]) ∧ Hid (Below w.heap.size w w') ∧ ((errs S s L = 0 ∧ ∃ f ∈ gs, f.nm = nmO s ∧ p = some ⟨f.blk, 0, none⟩) ∨ (errs S s L ≠ 0 ∧ p = none)) := by
  have d1 := h.top.cell 1
  have d3 := h.top.cell 3
  by_cases hd : S.down = true
  · have HE : errs S s L = 12 := by unfold errs; rw [if_pos hd]
    rw [hd] at d3
    rw [HE]
    clear HE
    have HB := Lib.hid (Below.refl w.heap.size w)
    go_enter Try.func57, Try.ntmps57
    go_wp2_with fail
    go_ret2
    exact ⟨_, rfl, HB.out, .inr ⟨by decide, rfl⟩⟩
  · have hd' : S.down = false := by simpa using hd
    rw [hd'] at d3
    go_enter Try.func57, Try.ntmps57
    have HSZ := Lib.hid hs
    have HC := Lib.hid hc
    have HH := Lib.hid h
    have HL := Lib.hid hL
    clear hs hc h
    go_wp2_with fail
    go_loopw [16] (fun i wr => ∃ k : Nat, k ≤ n ∧ i = .int .i64 k ∧ Hid (((s :: L).take k).all fileF = true) ∧ Hid (Below w.heap.size w wr)) (fun i _ => n - (intOf i).toNat)
    case atStart => exact ⟨0, by omega, rfl, by show _ = _; simp, Below.refl _ _⟩
    case round =>
      obtain ⟨k, hk, rfl, HT, HB⟩ := hrel
      by_cases hlt : k < n
      · have hkl : k < (s :: L).length := by rw [List.length_cons]; omega
        have HK := Lib.hid (HSZ.out (s :: L)[k] (List.getElem_mem hkl))
        have c0 : wr.cell? ⟨g, k, none⟩ = some (.string (s :: L)[k]) := (HB.out.cell (p := ⟨g, k, none⟩) (World.block_lt_of_cell? w ⟨g, k, none⟩ (HC.out k hkl))).trans (HC.out k hkl)
        have HT2 : Hid (((s :: L).take (k + 1)).all fileF = fileF (s :: L)[k]) := by
          show _ = _
          rw [List.take_succ_eq_append_getElem hkl, List.all_append, HT.out]; simp
        have HNO : Hid (fileF (s :: L)[k] = false → (s :: L).all fileF = false) := fun e => List.all_eq_false.2 ⟨_, List.getElem_mem hkl, by simp [e]⟩
        generalize (s :: L)[k] = x at *
        have hb1 := HB.out.size
        go_wp2_with fail
        refine (isName_any x wr HK.out).mono ?_
        rintro e w1 ⟨rfl, hb⟩
        have HB1 := Lib.hid (HB.out.trans (hb.out.mono hb1))
        clear hb
        cases hf : fileF x with
        | true =>
          rw [hf] at HT2
          go_wp2_with fail
          go_roundw
          case rel => exact ⟨k + 1, by omega, by go_num, HT2, HB1⟩
          case measure => simp [intOf]; omega
        | false =>
          have HE : Hid (errs S s L = 6) := by
            show _ = _
            unfold errs; rw [hd', HNO.out hf]; rfl
          go_wp2_with fail
          go_ret2
          rw [HE.out]
          exact ⟨_, rfl, HB1.out, .inr ⟨by decide, rfl⟩⟩
      · obtain rfl : k = n := by omega
        have HA : Hid ((s :: L).all fileF = true) := by
          show _ = _
          have := HT.out
          rwa [List.take_of_length_le (by rw [List.length_cons]; omega)] at this
        have HDN : Hid (∀ q, DIn B d (wr.drewN q) S m gs) := fun q => (HH.out.keep fun b hb => HB.out.block b (HH.out.lt b hb))
        have c0 : wr.cell? ⟨g, 0, none⟩ = some (.string s) := (HB.out.cell (p := ⟨g, 0, none⟩) (World.block_lt_of_cell? w ⟨g, 0, none⟩ (HC.out 0 (by simp)))).trans (HC.out 0 (by simp))
        have d1' : wr.cell? ⟨d, 1, none⟩ = some (.map (some m)) := (HB.out.cell (p := ⟨d, 1, none⟩) HH.out.top.lt).trans d1
        have hss := HSZ.out s (by simp)
        have i0 : (0 : Int) < (k : Int) := by omega
        have HB1 := Lib.hid (fun q => below_drewN HB.out q)
        cases hh : hasP (nmO s) S.fs with
        | false =>
          have hr : ∀ q, (Instr.lookup 62 (.map (some m)) (.string s) true).run Try.prog (wr.drewN q) = .ok (.tuple #[.pointer none, .bool false]) (wr.drewN q) := fun q => by
            rcases look_run (HDN.out q) s hss with ⟨_, h2⟩ | ⟨_, _, _, h2, _⟩
            · exact h2
            · rw [hh] at h2; cases h2
          have HE : Hid (errs S s L = 7) := by
            show _ = _
            unfold errs; rw [hd', HA.out, hh]; rfl
          go_wp2_with fail
          go_quiet (fail)
          go_wp2_with fail
          go_ret2
          rw [HE.out]
          exact ⟨_, rfl, HB1.out _, .inr ⟨by decide, rfl⟩⟩
        | true =>
          obtain ⟨f, hf, hn', _, _⟩ := HH.out.get hh
          have hr : ∀ q, (Instr.lookup 62 (.map (some m)) (.string s) true).run Try.prog (wr.drewN q) = .ok (.tuple #[.pointer (some ⟨f.blk, 0, none⟩), .bool true]) (wr.drewN q) := fun q => by
            rcases look_run (HDN.out q) s hss with ⟨h2, _⟩ | ⟨f', hf', hn2, _, h2⟩
            · rw [hh] at h2; cases h2
            · rw [h2, rise_name HH.out.rise f' hf' f hf (by rw [hn', hn2])]
          have HE : Hid (errs S s L = 0) := by
            show _ = _
            unfold errs; rw [hd', HA.out, hh]; rfl
          go_wp2_with fail
          go_quiet (fail)
          go_wp2_with fail
          go_ret2
          rw [HE.out]
          exact ⟨_, rfl, HB1.out _, .inl ⟨rfl, f, hf, hn', rfl⟩⟩
end Go.Proofs.Ytoooainecoappaa
