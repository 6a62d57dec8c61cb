/-
  The program's Up, whole.
-/
import Derived.Test.YtoooainecoappaaDkU
namespace Go.Proofs.Ytoooainecoappaa
open Go.RowKit Go.Maps Go.WideShapes Go.WideMaps
/-- The cells at A read as the numbers l. -/
def Ints (w : World) (A : Option Addr) (l : List Int) : Prop := l ≠ [] → ∃ b off, A = some ⟨b, off, none⟩ ∧ ∀ i (h : i < l.length), w.cell? ⟨b, off + i, none⟩ = some (.int .i64 l[i])
set_option maxHeartbeats 4000000 in
set_option maxRecDepth 100000 in
theorem up_any (B d : Nat) (w : World) (S : Ds) (X : List Nat) (h : DAt B d w S X) (hB : B ≤ w.heap.size) (hlen : S.fs.length ≤ 100000) (A : Option Addr) (keep : List Int) (nk c : Nat) (hnk : keep.length = nk) (hnk2 : nk ≤ 140737488355328) (hI : Ints w A keep) (hX : keep ≠ [] → ∀ a, A = some a → a.block ∉ X)
    (hr : ∀ x ∈ keep, -9223372036854775808 ≤ x ∧ x ≤ 9223372036854775807) :
    Calls Try.prog 37 #[.pointer (some ⟨d, 0, none⟩), .slice A nk c] w fun e w' => e = .returned (.tuple #[]) ∧ Hid (Out B d X w (upD S keep) w') := by
  obtain ⟨m, gs, rfl, h0⟩ := h
  have H := Lib.hid h0
  have HI := Lib.hid hI
  have HX := Lib.hid hX
  have HR := Lib.hid hr
  have d3 := h0.top.cell 3
  have f3 := h0.top.free 3
  have f2 := h0.top.free 2
  have d2 := h0.top.cell 2
  clear h0 hI hX hr
  by_cases hd : S.down = true
  · rw [hd] at d3
    have HU : Hid (upD S keep = { S with down := false, armed := -1, fs := upTo keep S.fs S.fs.length }) := by show _ = _; unfold upD; rw [if_pos hd]
    have hD1 := (H.out.downs false).arms (-1) (by decide)
    have hT1 : Tur (foot d m gs) w ((w.setCell ⟨d, 3, none⟩ (.bool false)).setCell ⟨d, 2, none⟩ (.int .i64 (-1))) := (Tur.setCell w (p := ⟨d, 3, none⟩) (by simp [foot]) _).trans (Tur.setCell _ (p := ⟨d, 2, none⟩) (by simp [foot]) _) (Fre.refl _ _)
    have e2 : (w.setCell ⟨d, 3, none⟩ (.bool false)).cell? ⟨d, 2, none⟩ = some (.int .i64 S.armed) := by
      have := (H.out.top.put 3 (.bool false)).cell 2
      exact this
    have HL := fun w1 (hD : DIn B d w1 { S with down := false, armed := -1 } m gs) => Lib.hid (list_any B d w1 { S with down := false, armed := -1 } (foot d m gs) ⟨m, gs, rfl, hD⟩ hlen)
    go_enter Try.func37, Try.ntmps37
    go_wp2_with fail
    obtain ⟨w1, hW1⟩ : ∃ w1, w1 = (w.setCell ⟨d, 3, none⟩ (.bool false)).setCell ⟨d, 2, none⟩ (.int .i64 (-1)) := ⟨_, rfl⟩
    rw [← hW1] at hD1 hT1 ⊢
    clear hW1 e2 d3 f3 f2 d2
    refine (HL w1 hD1).out.mono ?_
    rintro e w2 ⟨LA, n, lc, rfl, hn, hrow, hb⟩
    have hnm : (listD { S with down := false, armed := -1 }) = gs.map Fl.nm := by
      unfold listD
      rw [if_neg (by simp), ← H.out.fs, List.map_map]; rfl
    rw [hnm] at hn hrow
    have hng : n = gs.length := by rw [hn.out, List.length_map]
    have hfl : S.fs.length = gs.length := H.out.len.symm
    have HD2 := Lib.hid (hD1.below hb.out)
    have HT2 := Lib.hid (hT1.trans (Tur.of_below hb.out) (Fre.refl _ _))
    have hws := hT1.size
    have hws2 := HT2.out.size
    have HBel := Lib.hid hb.out
    have hn2 : n ≤ 100000 := by omega
    have HN : Hid (∀ k (hk : k < n), ∃ g, LA = some ⟨g, 0, none⟩ ∧ g ∉ foot d m gs ∧ ∃ f, gs[k]? = some f ∧ w2.cell? ⟨g, k, none⟩ = some (.string ⟨f.nm.toArray⟩)) := by
      intro k hk
      rcases hrow.out.2 with ⟨h1, h2⟩ | ⟨g, cap, cur, h1, h2, h3, _⟩
      · omega
      · have hkg : k < gs.length := by omega
        injection h1 with h1
        refine ⟨g, h1, fun hh => ?_, gs[k], List.getElem?_eq_getElem hkg, ?_⟩
        · have := hD1.lt g hh
          omega
        · have := hrow.out.cells (g := g) (by rw [h1]; rfl) k (encStr gs[k].nm) (by simp [hkg])
          rw [Addr.add_lit, Nat.zero_add] at this
          exact this
    clear hrow hn hb hD1 hT1 HL
    go_wp2_with fail
    go_loopw [21] (fun i wr => ∃ (k : Nat) (gs' : List Fl), k ≤ n ∧ i = .int .i64 k ∧ Hid (DIn B d wr { S with down := false, armed := -1, fs := upTo keep S.fs k } m gs') ∧ Hid (foot d m gs' = foot d m gs) ∧ Hid (Tur (foot d m gs) w2 wr))
      (fun i _ => n - (intOf i).toNat)
    case atStart => exact ⟨0, gs, by omega, rfl, by rw [upTo_zero]; exact HD2, rfl, Tur.refl _ _⟩
    case round =>
      obtain ⟨k, gs', hk, rfl, HD, HFt, HT⟩ := hrel
      by_cases hlt : k < n
      · obtain ⟨g, rfl, hgx, f0, hf0, hcell⟩ := HN.out k hlt
        have c0 : wr.cell? ⟨g, k, none⟩ = some (.string ⟨f0.nm.toArray⟩) := (World.cell?_of_block (w := w2) (a := ⟨g, k, none⟩) (HT.out.block g (World.block_lt_of_cell? w2 ⟨g, k, none⟩ hcell) hgx)).trans hcell
        have hk1 : S.fs[k]? = some f0.pf := by rw [← H.out.fs, List.getElem?_map, hf0]; rfl
        obtain ⟨f, hf, hfp⟩ : ∃ f, gs'[k]? = some f ∧ f.pf = f0.pf := by
          have h1 := HD.out.fs
          have h2 : (upTo keep S.fs k)[k]? = some f0.pf := by rw [upTo_get, hk1]; simp
          rw [show (upTo keep S.fs k)[k]? = (gs'.map Fl.pf)[k]? by rw [h1]] at h2
          rw [List.getElem?_map] at h2
          cases hg : gs'[k]? with
          | none => rw [hg] at h2; cases h2
          | some f => rw [hg] at h2; exact ⟨f, rfl, by simpa using h2⟩
        have hfn : f.nm = f0.nm := congrArg Pf.nm hfp
        have hlook := look1_run HD.out (List.mem_of_getElem? hf)
        rw [hfn] at hlook
        have HFP := Lib.hid hfp
        clear hfn hfp
        have d1 := HD.out.top.cell 1
        have HS := Lib.hid (upTo_succ keep S.fs k f0.pf hk1)
        have hBr : B ≤ wr.heap.size := by have := HT.out.size; omega
        have hsz := HT.out.size
        clear hcell hf0 hk1
        by_cases hkk : k < nk
        · obtain ⟨ab, ao, rfl, hIc⟩ := HI.out (by intro e; rw [e] at hnk; simp at hnk; omega)
          have hIk := hIc k (by omega)
          have a0 : wr.cell? ⟨ab, ao + k, none⟩ = some (.int .i64 keep[k]) := by
            have hlw := World.block_lt_of_cell? w ⟨ab, ao + k, none⟩ hIk
            have hnx := HX.out (by intro e; rw [e] at hnk; simp at hnk; omega) _ rfl
            have h1 := HT2.out.block ab hlw hnx
            have h2 := HT.out.block ab (by show ab < _; have := hlw; simp at this; omega) hnx
            exact (World.cell?_of_block (w := w) (a := ⟨ab, ao + k, none⟩) (h2.trans h1)).trans hIk
          have hkd : keep.getD k 0 = keep[k] := by rw [List.getD_eq_getElem?_getD, List.getElem?_eq_getElem (by omega)]; rfl
          have HTE := Lib.hid (tear_any HD.out hBr hf keep[k] (HR.out _ (List.getElem_mem _)))
          rw [hkd] at HS
          clear hIk hIc hkd
          generalize keep[k] = x at *
          go_wp2_with fail
          refine HTE.out.mono ?_
          rintro e w3 ⟨rfl, gs2, hD3, hF3, hT3⟩
          have HD3 : Hid (DIn B d w3 { S with down := false, armed := -1, fs := upTo keep S.fs (k + 1) } m gs2) := by
            rw [HS.out, ← HFP.out]; exact hD3
          have HF3 : Hid (foot d m gs2 = foot d m gs) := hF3.out.trans HFt.out
          have HT3 : Hid (Tur (foot d m gs) w2 w3) := HT.out.trans hT3.out (by rw [HFt.out]; exact Fre.refl _ _)
          clear hD3 hF3 hT3
          go_wp2_with fail
          go_roundw
          case rel => exact ⟨k + 1, gs2, by omega, by go_num, HD3, HF3, HT3⟩
          case measure => simp [intOf]; omega
        · have hkd : keep.getD k 0 = 0 := by rw [List.getD_eq_getElem?_getD, List.getElem?_eq_none (by omega)]; rfl
          have HTE := Lib.hid (tear_any HD.out hBr hf 0 (by decide))
          rw [hkd] at HS
          clear hkd
          go_wp2_with fail
          refine HTE.out.mono ?_
          rintro e w3 ⟨rfl, gs2, hD3, hF3, hT3⟩
          have HD3 : Hid (DIn B d w3 { S with down := false, armed := -1, fs := upTo keep S.fs (k + 1) } m gs2) := by
            rw [HS.out, ← HFP.out]; exact hD3
          have HF3 : Hid (foot d m gs2 = foot d m gs) := hF3.out.trans HFt.out
          have HT3 : Hid (Tur (foot d m gs) w2 w3) := HT.out.trans hT3.out (by rw [HFt.out]; exact Fre.refl _ _)
          clear hD3 hF3 hT3
          go_wp2_with fail
          go_roundw
          case rel => exact ⟨k + 1, gs2, by omega, by go_num, HD3, HF3, HT3⟩
          case measure => simp [intOf]; omega
      · obtain rfl : k = n := by omega
        go_wp2_with fail
        go_end0
        rw [HU.out]
        refine ⟨rfl, foot d m gs', ⟨m, gs', rfl, ?_⟩, HT2.out.trans HT.out (Fre.refl _ _), by rw [HFt.out]; exact Fre.refl _ _⟩
        rw [hfl, ← hng]; exact HD.out
  · have hd' : S.down = false := by simpa using hd
    have HU : Hid (upD S keep = S) := by show _ = _; unfold upD; rw [if_neg hd]
    rw [hd'] at d3
    go_enter Try.func37, Try.ntmps37
    go_wp2_with fail
    refine bodyPost_ret (results_none rfl _ _ _) rfl ?_
    rw [HU.out]
    exact ⟨rfl, _, ⟨m, gs, rfl, H.out⟩, Tur.refl _ _, Fre.refl _ _⟩
end Go.Proofs.Ytoooainecoappaa
