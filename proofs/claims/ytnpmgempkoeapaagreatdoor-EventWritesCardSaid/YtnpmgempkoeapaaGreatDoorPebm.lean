/-
  Put together, as far as it is used: ImgR1, ImgR2, ImgR3.
-/
import Derived.Test.YtnpmgempkoeapaaGreatDoorPeao
import Derived.Test.YtnpmgempkoeapaaGreatDoorPeal
import Derived.Laws.ResultCell
import Derived.MapKept
import Derived.Test.YtnpmgempkoeapaaGreatDoorPeam
set_option linter.unusedVariables false
set_option linter.unusedSimpArgs false
set_option linter.defProp false
namespace Go.Proofs.YtnpmgempkoeapaaGreatDoor
open Go.RowKit Dg
set_option maxRecDepth 100000
theorem grown_set2 {w x : World} {g : Nat} (h : w.grownBy x (some g)) {p : Addr} (hp : w.heap.size ≤ p.block) (u : Value) : w.grownBy (x.setCell p u) (some g) :=
 ⟨h.os, h.tape, h.output, by rw [size_set]; exact h.size, fun k hk hne => (Below.heap_setCell x p u k (fun e => by subst e; omega)).trans (h.block k hk hne)⟩
theorem grown_below {w x y : World} {g : Nat} (h : w.grownBy x (some g)) (hb : Below x.heap.size x y) : w.grownBy y (some g) :=
 ⟨hb.os.trans h.os, hb.tape.trans h.tape, hb.output.trans h.output, Nat.le_trans h.size hb.size, fun k hk hne => (hb.block k (Nat.lt_of_lt_of_le hk h.size)).trans (h.block k hk hne)⟩
theorem Has.grown {w w' : World} {g g' : Nat} {t : TypeId} {cs : Array Value} (h : Has w g' t cs) (hg : w.grownBy w' (some g)) (hne : g' ≠ g) : Has w' g' t cs :=
 (hg.block g' h.lt (fun e => hne (Option.some.inj e))).trans h
theorem u8_not {w : World} {g : Nat} {l : List Nat} {e : Nat} (h : Rdr w g l e) {b o : Nat} {x : Int} (hc : w.cell? ⟨b, o, none⟩ = some (.int .u8 x)) : b ≠ g := by
 rintro rfl
 obtain ⟨A, c, hh, _, _⟩ := h
 rw [hh.cell] at hc
 rcases o with _ | _ | o
 ·simp at hc
 ·simp at hc
 ·simp at hc
theorem cell_grown {w w' : World} {g : Nat} (hg : w.grownBy w' (some g)) {b o : Nat} {v : Value} (hc : w.cell? ⟨b, o, none⟩ = some v) (hne : b ≠ g) : w'.cell? ⟨b, o, none⟩ = some v := by
 rw [← hc]
 exact World.cell?_of_block (w := w) (hg.block b (World.block_lt_of_cell? w _ hc) (fun e => hne (Option.some.inj e)))
theorem tabs_grown {w w' : World} {g : Nat} {l : List Nat} {e : Nat} (h : Tabs w) (hr : Rdr w g l e) (hg : w.grownBy w' (some g)) : Tabs w' :=
 ⟨fun c hc => cell_grown hg (h.1 c hc) (u8_not hr (h.1 c hc)), fun i hi => ⟨cell_grown hg (h.2 i hi).1 (u8_not hr (h.2 i hi).1), cell_grown hg (h.2 i hi).2 (u8_not hr (h.2 i hi).2)⟩⟩
theorem flagEnd (w' : World) (g : Nat) (c0 c1 c2 : Value) (tmps : Array Value) (hp : tmps.getD 2 undef = .pointer (some ⟨g, 0, none⟩)) (hh : Has w' g 87 #[c0, c1, c2]) :
 (results Tryz.f123 tmps).run Tryz.prog w' = .ok (.agg #[c0, c1, c2]) w' :=
 results_cell_row rfl _ _ g 87 #[c0, c1, c2] (0, 0) _ hp hh Tryz.underlying87 rfl (by kernel_rfl)
set_option maxHeartbeats 4000000 in
theorem flag_any {D : Nat} (g : Nat) (l : List Nat) (e : Nat) (w : World) (h : RdrD D w g l e) (hgD : g < D) (hD : D ≤ w.heap.size) (hl : ∀ x ∈ l, x < 256) (hb : l.length ≤ 1000000) :
 Calls Tryz.prog 123 #[.agg #[.pointer (some ⟨g, 0, none⟩)]] w fun x w' => x = .returned (.agg #[.int .i64 1, .int .i64 (byteF l e).1, .string ⟨#[]⟩]) ∧ Hid (RdrD D w' g (byteF l e).2.1 (byteF l e).2.2) ∧ Hid (w.grownBy w' (some g)) := by
 have hgl : g < w.heap.size := Nat.lt_of_lt_of_le hgD hD
 have hB : Below w.heap.size w ((w.alloc (.cells #[.pointer (some ⟨g, 0, none⟩)] 148)).alloc (.cells #[.int .i64 0, .int .i64 0, .string ⟨#[]⟩] 87)) := ((Below.refl w.heap.size w).alloc (Nat.le_refl _) _).alloc (by simp) _
 have HR0 := Lib.hid (h.keep hgD (hB.mono hD))
 have HG0 := Lib.hid (grown_below (grown_refl w g) hB)
 have hz := Has.new (w.alloc (.cells #[.pointer (some ⟨g, 0, none⟩)] 148)) 87 #[.int .i64 0, .int .i64 0, .string ⟨#[]⟩]
 rw [show (w.alloc (.cells #[.pointer (some ⟨g, 0, none⟩)] 148)).heap.size = w.heap.size + 1 by simp] at hz
 have HZ := Lib.hid hz
 have HC := fun (W : World) (hW : RdrD D W g l e) => ByteD_get g l e W hW hl hb
 obtain ⟨l2, hl2⟩ : ∃ x, (byteF l e).2.1 = x := ⟨_, rfl⟩
 obtain ⟨e2', he2⟩ : ∃ x, (byteF l e).2.2 = x := ⟨_, rfl⟩
 obtain ⟨val, hval⟩ : ∃ x, (byteF l e).1 = x := ⟨_, rfl⟩
 rw [hl2, he2, hval] at HC
 rw [hl2, he2, hval]
 clear h hB hz hl2 he2 hval
 go_enter Tryz.func123, Tryz.ntmps123
 go_wp2_with fail
 refine (HC _ HR0.out).mono ?_
 rintro x w1 ⟨rfl, hd, hg⟩
 have HR1 := Lib.hid hd
 have HG1 := Lib.hid (grown_trans HG0.out hg)
 have HZ1 := Lib.hid (HZ.out.grown hg (by omega))
 clear hd hg HR0 HG0 HZ HC
 have z0 : w1.cell? ⟨w.heap.size + 1, 0, none⟩ = some (.int .i64 0) := HZ1.out.cell 0
 have z1 : w1.cell? ⟨w.heap.size + 1, 1, none⟩ = some (.int .i64 0) := HZ1.out.cell 1
 have z2 : w1.cell? ⟨w.heap.size + 1, 2, none⟩ = some (.string ⟨#[]⟩) := HZ1.out.cell 2
 have e0 : w1.frozen? ⟨w.heap.size + 1, 0, none⟩ = false := HZ1.out.free 0
 have e1 : w1.frozen? ⟨w.heap.size + 1, 1, none⟩ = false := HZ1.out.free 1
 have e2 : w1.frozen? ⟨w.heap.size + 1, 2, none⟩ = false := HZ1.out.free 2
 have HP := Lib.hid (((HZ1.out.put 0 (.int .i64 1)).put 1 (.int .i64 val)).put 2 (.string ⟨#[]⟩))
 go_wp2_with fail
 exact bodyPost_ret (flagEnd _ (w.heap.size + 1) _ _ _ _ rfl HP.out) rfl ⟨rfl, Lib.hid (HR1.out.keep hgD ((((Below.refl D w1).setCell (p := ⟨w.heap.size + 1, 0, none⟩) (by show D ≤ w.heap.size + 1; omega) _).setCell (p := ⟨w.heap.size + 1, 1, none⟩) (by show D ≤ w.heap.size + 1; omega) _).setCell (p := ⟨w.heap.size + 1, 2, none⟩) (by show D ≤ w.heap.size + 1; omega) _)), Lib.hid (grown_set2 (grown_set2 (grown_set2 HG1.out (by simp) _) (by simp) _) (by simp) _)⟩
theorem wholeEnd (w' : World) (g : Nat) (c0 c1 c2 : Value) (tmps : Array Value) (hp : tmps.getD 2 undef = .pointer (some ⟨g, 0, none⟩)) (hh : Has w' g 87 #[c0, c1, c2]) :
 (results Tryz.f124 tmps).run Tryz.prog w' = .ok (.agg #[c0, c1, c2]) w' :=
 results_cell_row rfl _ _ g 87 #[c0, c1, c2] (0, 0) _ hp hh Tryz.underlying87 rfl (by kernel_rfl)
set_option maxHeartbeats 4000000 in
theorem whole_any {D : Nat} (g : Nat) (l : List Nat) (e : Nat) (w : World) (h : RdrD D w g l e) (hgD : g < D) (hD : D ≤ w.heap.size) (hl : ∀ x ∈ l, x < 256) (hb : l.length ≤ 1000000) :
 Calls Tryz.prog 124 #[.agg #[.pointer (some ⟨g, 0, none⟩)]] w fun x w' => x = .returned (.agg #[.int .i64 2, .int .i64 (zag (numF 18446744073709551615 l e).1), .string ⟨#[]⟩]) ∧ Hid (RdrD D w' g (numF 18446744073709551615 l e).2.1 (numF 18446744073709551615 l e).2.2) ∧ Hid (w.grownBy w' (some g)) := by
 have hgl : g < w.heap.size := Nat.lt_of_lt_of_le hgD hD
 have hB : Below w.heap.size w ((w.alloc (.cells #[.pointer (some ⟨g, 0, none⟩)] 148)).alloc (.cells #[.int .i64 0, .int .i64 0, .string ⟨#[]⟩] 87)) := ((Below.refl w.heap.size w).alloc (Nat.le_refl _) _).alloc (by simp) _
 have HR0 := Lib.hid (h.keep hgD (hB.mono hD))
 have HG0 := Lib.hid (grown_below (grown_refl w g) hB)
 have hz := Has.new (w.alloc (.cells #[.pointer (some ⟨g, 0, none⟩)] 148)) 87 #[.int .i64 0, .int .i64 0, .string ⟨#[]⟩]
 rw [show (w.alloc (.cells #[.pointer (some ⟨g, 0, none⟩)] 148)).heap.size = w.heap.size + 1 by simp] at hz
 have HZ := Lib.hid hz
 have HC := fun (W : World) (hW : RdrD D W g l e) => SignedD_get g l e W hW hl hb
 obtain ⟨l2, hl2⟩ : ∃ x, (numF 18446744073709551615 l e).2.1 = x := ⟨_, rfl⟩
 obtain ⟨e2', he2⟩ : ∃ x, (numF 18446744073709551615 l e).2.2 = x := ⟨_, rfl⟩
 obtain ⟨val, hval⟩ : ∃ x, (zag (numF 18446744073709551615 l e).1) = x := ⟨_, rfl⟩
 rw [hl2, he2, hval] at HC
 rw [hl2, he2, hval]
 clear h hB hz hl2 he2 hval
 go_enter Tryz.func124, Tryz.ntmps124
 go_wp2_with fail
 refine (HC _ HR0.out).mono ?_
 rintro x w1 ⟨rfl, hd, hg⟩
 have HR1 := Lib.hid hd
 have HG1 := Lib.hid (grown_trans HG0.out hg)
 have HZ1 := Lib.hid (HZ.out.grown hg (by omega))
 clear hd hg HR0 HG0 HZ HC
 have z0 : w1.cell? ⟨w.heap.size + 1, 0, none⟩ = some (.int .i64 0) := HZ1.out.cell 0
 have z1 : w1.cell? ⟨w.heap.size + 1, 1, none⟩ = some (.int .i64 0) := HZ1.out.cell 1
 have z2 : w1.cell? ⟨w.heap.size + 1, 2, none⟩ = some (.string ⟨#[]⟩) := HZ1.out.cell 2
 have e0 : w1.frozen? ⟨w.heap.size + 1, 0, none⟩ = false := HZ1.out.free 0
 have e1 : w1.frozen? ⟨w.heap.size + 1, 1, none⟩ = false := HZ1.out.free 1
 have e2 : w1.frozen? ⟨w.heap.size + 1, 2, none⟩ = false := HZ1.out.free 2
 have HP := Lib.hid (((HZ1.out.put 0 (.int .i64 2)).put 1 (.int .i64 val)).put 2 (.string ⟨#[]⟩))
 go_wp2_with fail
 exact bodyPost_ret (wholeEnd _ (w.heap.size + 1) _ _ _ _ rfl HP.out) rfl ⟨rfl, Lib.hid (HR1.out.keep hgD ((((Below.refl D w1).setCell (p := ⟨w.heap.size + 1, 0, none⟩) (by show D ≤ w.heap.size + 1; omega) _).setCell (p := ⟨w.heap.size + 1, 1, none⟩) (by show D ≤ w.heap.size + 1; omega) _).setCell (p := ⟨w.heap.size + 1, 2, none⟩) (by show D ≤ w.heap.size + 1; omega) _)), Lib.hid (grown_set2 (grown_set2 (grown_set2 HG1.out (by simp) _) (by simp) _) (by simp) _)⟩
theorem textEnd (w' : World) (g : Nat) (c0 c1 c2 : Value) (tmps : Array Value) (hp : tmps.getD 2 undef = .pointer (some ⟨g, 0, none⟩)) (hh : Has w' g 87 #[c0, c1, c2]) :
 (results Tryz.f125 tmps).run Tryz.prog w' = .ok (.agg #[c0, c1, c2]) w' :=
 results_cell_row rfl _ _ g 87 #[c0, c1, c2] (0, 0) _ hp hh Tryz.underlying87 rfl (by kernel_rfl)
set_option maxHeartbeats 4000000 in
theorem itext_any {D : Nat} (g : Nat) (l : List Nat) (e : Nat) (w : World) (h : RdrD D w g l e) (hgD : g < D) (hD : D ≤ w.heap.size) (hl : ∀ x ∈ l, x < 256) (hb : l.length ≤ 1000000) :
 Calls Tryz.prog 125 #[.agg #[.pointer (some ⟨g, 0, none⟩)]] w fun x w' => x = .returned (.agg #[.int .i64 3, .int .i64 0, .string (bs (textF 4096 l e).1)]) ∧ Hid (RdrD D w' g (textF 4096 l e).2.1 (textF 4096 l e).2.2) ∧ Hid (w.grownBy w' (some g)) := by
 have hgl : g < w.heap.size := Nat.lt_of_lt_of_le hgD hD
 have hB : Below w.heap.size w ((w.alloc (.cells #[.pointer (some ⟨g, 0, none⟩)] 148)).alloc (.cells #[.int .i64 0, .int .i64 0, .string ⟨#[]⟩] 87)) := ((Below.refl w.heap.size w).alloc (Nat.le_refl _) _).alloc (by simp) _
 have HR0 := Lib.hid (h.keep hgD (hB.mono hD))
 have HG0 := Lib.hid (grown_below (grown_refl w g) hB)
 have hz := Has.new (w.alloc (.cells #[.pointer (some ⟨g, 0, none⟩)] 148)) 87 #[.int .i64 0, .int .i64 0, .string ⟨#[]⟩]
 rw [show (w.alloc (.cells #[.pointer (some ⟨g, 0, none⟩)] 148)).heap.size = w.heap.size + 1 by simp] at hz
 have HZ := Lib.hid hz
 have HC := fun (W : World) (hW : RdrD D W g l e) => TextD_get g l e W 4096 hW hl hb
 obtain ⟨l2, hl2⟩ : ∃ x, (textF 4096 l e).2.1 = x := ⟨_, rfl⟩
 obtain ⟨e2', he2⟩ : ∃ x, (textF 4096 l e).2.2 = x := ⟨_, rfl⟩
 obtain ⟨val, hval⟩ : ∃ x, (bs (textF 4096 l e).1) = x := ⟨_, rfl⟩
 rw [hl2, he2, hval] at HC
 rw [hl2, he2, hval]
 clear h hB hz hl2 he2 hval
 go_enter Tryz.func125, Tryz.ntmps125
 go_wp2_with fail
 refine (HC _ HR0.out).mono ?_
 rintro x w1 ⟨rfl, hd, hg⟩
 have HR1 := Lib.hid hd
 have HG1 := Lib.hid (grown_trans HG0.out hg)
 have HZ1 := Lib.hid (HZ.out.grown hg (by omega))
 clear hd hg HR0 HG0 HZ HC
 have z0 : w1.cell? ⟨w.heap.size + 1, 0, none⟩ = some (.int .i64 0) := HZ1.out.cell 0
 have z1 : w1.cell? ⟨w.heap.size + 1, 1, none⟩ = some (.int .i64 0) := HZ1.out.cell 1
 have z2 : w1.cell? ⟨w.heap.size + 1, 2, none⟩ = some (.string ⟨#[]⟩) := HZ1.out.cell 2
 have e0 : w1.frozen? ⟨w.heap.size + 1, 0, none⟩ = false := HZ1.out.free 0
 have e1 : w1.frozen? ⟨w.heap.size + 1, 1, none⟩ = false := HZ1.out.free 1
 have e2 : w1.frozen? ⟨w.heap.size + 1, 2, none⟩ = false := HZ1.out.free 2
 have HP := Lib.hid (((HZ1.out.put 0 (.int .i64 3)).put 1 (.int .i64 0)).put 2 (.string val))
 go_wp2_with fail
 exact bodyPost_ret (textEnd _ (w.heap.size + 1) _ _ _ _ rfl HP.out) rfl ⟨rfl, Lib.hid (HR1.out.keep hgD ((((Below.refl D w1).setCell (p := ⟨w.heap.size + 1, 0, none⟩) (by show D ≤ w.heap.size + 1; omega) _).setCell (p := ⟨w.heap.size + 1, 1, none⟩) (by show D ≤ w.heap.size + 1; omega) _).setCell (p := ⟨w.heap.size + 1, 2, none⟩) (by show D ≤ w.heap.size + 1; omega) _)), Lib.hid (grown_set2 (grown_set2 (grown_set2 HG1.out (by simp) _) (by simp) _) (by simp) _)⟩
theorem blobEnd (w' : World) (g : Nat) (c0 c1 c2 : Value) (tmps : Array Value) (hp : tmps.getD 2 undef = .pointer (some ⟨g, 0, none⟩)) (hh : Has w' g 87 #[c0, c1, c2]) :
 (results Tryz.f126 tmps).run Tryz.prog w' = .ok (.agg #[c0, c1, c2]) w' :=
 results_cell_row rfl _ _ g 87 #[c0, c1, c2] (0, 0) _ hp hh Tryz.underlying87 rfl (by kernel_rfl)
set_option maxHeartbeats 4000000 in
theorem blob_any {D : Nat} (g : Nat) (l : List Nat) (e : Nat) (w : World) (h : RdrD D w g l e) (hgD : g < D) (hD : D ≤ w.heap.size) (hl : ∀ x ∈ l, x < 256) (hb : l.length ≤ 1000000) :
 Calls Tryz.prog 126 #[.agg #[.pointer (some ⟨g, 0, none⟩)]] w fun x w' => x = .returned (.agg #[.int .i64 4, .int .i64 0, .string (bs (textF 4096 l e).1)]) ∧ Hid (RdrD D w' g (textF 4096 l e).2.1 (textF 4096 l e).2.2) ∧ Hid (w.grownBy w' (some g)) := by
 have hgl : g < w.heap.size := Nat.lt_of_lt_of_le hgD hD
 have hB : Below w.heap.size w ((w.alloc (.cells #[.pointer (some ⟨g, 0, none⟩)] 148)).alloc (.cells #[.int .i64 0, .int .i64 0, .string ⟨#[]⟩] 87)) := ((Below.refl w.heap.size w).alloc (Nat.le_refl _) _).alloc (by simp) _
 have HR0 := Lib.hid (h.keep hgD (hB.mono hD))
 have HG0 := Lib.hid (grown_below (grown_refl w g) hB)
 have hz := Has.new (w.alloc (.cells #[.pointer (some ⟨g, 0, none⟩)] 148)) 87 #[.int .i64 0, .int .i64 0, .string ⟨#[]⟩]
 rw [show (w.alloc (.cells #[.pointer (some ⟨g, 0, none⟩)] 148)).heap.size = w.heap.size + 1 by simp] at hz
 have HZ := Lib.hid hz
 have HC := fun (W : World) (hW : RdrD D W g l e) => TextD_get g l e W 4096 hW hl hb
 obtain ⟨l2, hl2⟩ : ∃ x, (textF 4096 l e).2.1 = x := ⟨_, rfl⟩
 obtain ⟨e2', he2⟩ : ∃ x, (textF 4096 l e).2.2 = x := ⟨_, rfl⟩
 obtain ⟨val, hval⟩ : ∃ x, (bs (textF 4096 l e).1) = x := ⟨_, rfl⟩
 rw [hl2, he2, hval] at HC
 rw [hl2, he2, hval]
 clear h hB hz hl2 he2 hval
 go_enter Tryz.func126, Tryz.ntmps126
 go_wp2_with fail
 refine (HC _ HR0.out).mono ?_
 rintro x w1 ⟨rfl, hd, hg⟩
 have HR1 := Lib.hid hd
 have HG1 := Lib.hid (grown_trans HG0.out hg)
 have HZ1 := Lib.hid (HZ.out.grown hg (by omega))
 clear hd hg HR0 HG0 HZ HC
 have z0 : w1.cell? ⟨w.heap.size + 1, 0, none⟩ = some (.int .i64 0) := HZ1.out.cell 0
 have z1 : w1.cell? ⟨w.heap.size + 1, 1, none⟩ = some (.int .i64 0) := HZ1.out.cell 1
 have z2 : w1.cell? ⟨w.heap.size + 1, 2, none⟩ = some (.string ⟨#[]⟩) := HZ1.out.cell 2
 have e0 : w1.frozen? ⟨w.heap.size + 1, 0, none⟩ = false := HZ1.out.free 0
 have e1 : w1.frozen? ⟨w.heap.size + 1, 1, none⟩ = false := HZ1.out.free 1
 have e2 : w1.frozen? ⟨w.heap.size + 1, 2, none⟩ = false := HZ1.out.free 2
 have HP := Lib.hid (((HZ1.out.put 0 (.int .i64 4)).put 1 (.int .i64 0)).put 2 (.string val))
 go_wp2_with fail
 exact bodyPost_ret (blobEnd _ (w.heap.size + 1) _ _ _ _ rfl HP.out) rfl ⟨rfl, Lib.hid (HR1.out.keep hgD ((((Below.refl D w1).setCell (p := ⟨w.heap.size + 1, 0, none⟩) (by show D ≤ w.heap.size + 1; omega) _).setCell (p := ⟨w.heap.size + 1, 1, none⟩) (by show D ≤ w.heap.size + 1; omega) _).setCell (p := ⟨w.heap.size + 1, 2, none⟩) (by show D ≤ w.heap.size + 1; omega) _)), Lib.hid (grown_set2 (grown_set2 (grown_set2 HG1.out (by simp) _) (by simp) _) (by simp) _)⟩
def kindsG (g : Nat) : Array MapEntry := #[⟨.int .i64 1, .func (.func 123) #[.agg #[.pointer (some ⟨g, 0, none⟩)]] #[], 0⟩, ⟨.int .i64 2, .func (.func 124) #[.agg #[.pointer (some ⟨g, 0, none⟩)]] #[], 1⟩, ⟨.int .i64 3, .func (.func 125) #[.agg #[.pointer (some ⟨g, 0, none⟩)]] #[], 2⟩, ⟨.int .i64 4, .func (.func 126) #[.agg #[.pointer (some ⟨g, 0, none⟩)]] #[], 3⟩]
theorem updM (W : World) (es : Array MapEntry) (clock : Nat) (k : Int) (v : Value) (hn : Instr.findNow (.int .i64) (.int .i64 k) es.toList 0 = some none) :
 (Instr.mapUpdate 146 (.map (some W.heap.size)) (.int .i64 k) v).run Tryz.prog (W.alloc (.map es clock)) = .ok () (W.alloc (.map (es.push ⟨.int .i64 k, v, clock⟩) (clock + 1))) := by
 have hb : (W.alloc (.map es clock)).heap[W.heap.size]? = some (.map es clock) := heap_alloc_new W _
 have hk : MapKept.IsKey (.int .i64) (.int .i64 k) := rfl
 have hc : (Instr.checkKey false 10000 3 (.int .i64 k)).run Tryz.prog (W.alloc (.map es clock)) = .ok () (W.alloc (.map es clock)) := MapKept.run_checkKey Tryz.underlying3 hk false 9999
 simp [Instr.mapUpdate, run_underlying Tryz.underlying146, MapKept.run_getObj_map hb, hc, MapKept.run_findKey Tryz.underlying3 hn, MapKept.run_setObj_map _ hb, Result.andThen]
 simp only [World.alloc]
 congr 1
 apply Array.ext'
 simp [Array.setIfInBounds, Array.toList_push]
theorem lookM (W : World) (gm : Nat) (es : Array MapEntry) (clock : Nat) (hb : W.heap[gm]? = some (.map es clock)) (k : Int) (i : Nat) (v : Value) (hn : Instr.findNow (.int .i64) (.int .i64 k) es.toList 0 = some (some (i, v))) :
 (Instr.lookup 146 (.map (some gm)) (.int .i64 k) true).run Tryz.prog W = .ok (.tuple #[v, .bool true]) W := by
 have hk : MapKept.IsKey (.int .i64) (.int .i64 k) := rfl
 have hc : (Instr.checkKey es.isEmpty 10000 3 (.int .i64 k)).run Tryz.prog W = .ok () W := MapKept.run_checkKey Tryz.underlying3 hk _ 9999
 simp [Instr.lookup, run_underlying Tryz.underlying146, MapKept.run_getObj_map hb, hc, MapKept.run_findKey Tryz.underlying3 hn, Result.andThen]
set_option maxHeartbeats 4000000 in
theorem kinds_any (g : Nat) (w : World) :
 Calls Tryz.prog 116 #[.agg #[.pointer (some ⟨g, 0, none⟩)]] w fun x w' => x = .returned (.map (some (w.heap.size + 1))) ∧ Hid (w'.heap[w.heap.size + 1]? = some (.map (kindsG g) 4)) ∧ Hid (Below w.heap.size w w') := by
 have hmk : ∀ W : World, (Instr.makeMap 146 none).run Tryz.prog W = .ok (.map (some W.heap.size)) (W.alloc (.map #[] 0)) := fun W => by simp [Instr.makeMap]
 obtain ⟨W, hW⟩ : ∃ W, W = w.alloc (.cells #[.pointer (some ⟨g, 0, none⟩)] 148) := ⟨_, rfl⟩
 have hs : W.heap.size = w.heap.size + 1 := by rw [hW]; simp
 have u1 := updM W #[] 0 1 (.func (.func 123) #[.agg #[.pointer (some ⟨g, 0, none⟩)]] #[]) rfl
 have u2 := updM W #[⟨.int .i64 1, .func (.func 123) #[.agg #[.pointer (some ⟨g, 0, none⟩)]] #[], 0⟩] 1 2 (.func (.func 124) #[.agg #[.pointer (some ⟨g, 0, none⟩)]] #[]) rfl
 have u3 := updM W #[⟨.int .i64 1, .func (.func 123) #[.agg #[.pointer (some ⟨g, 0, none⟩)]] #[], 0⟩, ⟨.int .i64 2, .func (.func 124) #[.agg #[.pointer (some ⟨g, 0, none⟩)]] #[], 1⟩] 2 3 (.func (.func 125) #[.agg #[.pointer (some ⟨g, 0, none⟩)]] #[]) rfl
 have u4 := updM W #[⟨.int .i64 1, .func (.func 123) #[.agg #[.pointer (some ⟨g, 0, none⟩)]] #[], 0⟩, ⟨.int .i64 2, .func (.func 124) #[.agg #[.pointer (some ⟨g, 0, none⟩)]] #[], 1⟩, ⟨.int .i64 3, .func (.func 125) #[.agg #[.pointer (some ⟨g, 0, none⟩)]] #[], 2⟩] 3 4 (.func (.func 126) #[.agg #[.pointer (some ⟨g, 0, none⟩)]] #[]) rfl
 simp only [List.push_toArray, List.cons_append, List.nil_append] at u1 u2 u3 u4
 have HB : Hid (Below w.heap.size w (W.alloc (.map (kindsG g) 4))) := by
  show Below _ _ _
  rw [hW]
  exact ((Below.refl w.heap.size w).alloc (Nat.le_refl _) _).alloc (by simp) _
 have HM : Hid ((W.alloc (.map (kindsG g) 4)).heap[w.heap.size + 1]? = some (.map (kindsG g) 4)) := by
  show _ = _
  rw [← hs]; exact heap_alloc_new W _
 rw [hs] at u1 u2 u3 u4
 unfold kindsG at *
 subst hW
 go_enter Tryz.func116, Tryz.ntmps116
 go_wp2_with fail
 go_ret
 exact ⟨rfl, HM, HB⟩
def BRow (w : World) (A : Option Addr) (l : List Bool) : Prop := l ≠ [] → ∃ b off, A = some ⟨b, off, none⟩ ∧ ∀ i (h : i < l.length), w.cell? ⟨b, off + i, none⟩ = some (.bool l[i])
theorem BRow.below {w w' : World} {A : Option Addr} {l : List Bool} (h : BRow w A l) (hb : Below w.heap.size w w') : BRow w' A l := fun hl => by
 obtain ⟨b, off, e, hc⟩ := h hl
 refine ⟨b, off, e, fun i hi => ?_⟩
 have := hc i hi
 exact (hb.cell (World.block_lt_of_cell? _ _ this)).trans this
set_option maxHeartbeats 2000000 in
theorem index_bool (A : Option Addr) (l : List Bool) (n c : Nat) (w : World) (hn : l.length = n) (hl : n ≤ 100) (h : BRow w A l) :
 Calls Tryz.prog 129 #[.slice A n c, .bool true] w fun e w' => ∃ z : Int, e = .returned (.int .i64 z) ∧ Hid (decide (0 ≤ z) = l.any id) ∧ Hid (Below w.heap.size w w') := by
 have HN := Lib.hid hn
 have HA := Lib.hid h
 clear h hn
 go_enter Tryz.func129, Tryz.ntmps129
 go_wp2_with fail
 go_loopw [8] (fun i wr => ∃ k : Nat, k ≤ n ∧ i = .int .i64 k ∧ Hid ((l.take k).any id = false) ∧ Hid (Below w.heap.size w wr)) (fun i _ => n - (intOf i).toNat)
 case atStart => exact ⟨0, by omega, rfl, rfl, Below.refl _ _⟩
 case round =>
  obtain ⟨k, hk, rfl, HT, HB⟩ := hrel
  by_cases hlt : k < n
  ·have hkl : k < l.length := by rw [HN.out]; exact hlt
   obtain ⟨b, off, rfl, hc⟩ := (HA.out.below HB.out) (by intro e; rw [e] at hkl; simp at hkl)
   have c0 := hc k hkl
   clear hc
   have HS : Hid ((l.take (k + 1)).any id = l[k]) := by show _ = _; rw [List.take_succ_eq_append_getElem hkl, List.any_append, HT.out]; simp
   have HL : Hid (l[k] = true → l.any id = true) := fun h => List.any_eq_true.2 ⟨l[k], List.getElem_mem hkl, h⟩
   generalize l[k] = x at *
   have hkz : (k : Int) < (n : Int) := by omega
   have hk0 : (0 : Int) ≤ (k : Int) := by omega
   cases x
   ·go_wp2_with fail
    go_roundw
    case rel => exact ⟨k + 1, by omega, by go_num, HS, HB⟩
    case measure => simp [intOf]; omega
   ·have HL2 : Hid (l.any id = true) := HL.out rfl
    clear HL
    go_wp2_with fail
    go_ret
    exact ⟨_, rfl, by show _ = _; rw [HL2.out]; simp, HB⟩
  ·obtain rfl : k = n := by omega
   go_wp2_with fail
   go_ret
   exact ⟨_, rfl, by show _ = _; have h := HT.out; rw [← HN.out, List.take_length] at h; rw [h]; simp, HB⟩
set_option maxHeartbeats 2000000 in
theorem contains_bool (A : Option Addr) (l : List Bool) (n c : Nat) (w : World) (hn : l.length = n) (hl : n ≤ 100) (h : BRow w A l) :
 Calls Tryz.prog 122 #[.slice A n c, .bool true] w fun e w' => e = .returned (.bool (l.any id)) ∧ Hid (Below w.heap.size w w') := by
 have HC := Lib.hid (index_bool A l n c w hn hl h)
 clear h hn
 go_enter Tryz.func122, Tryz.ntmps122
 go_wp2_with fail
 refine HC.out.mono ?_
 rintro e w1 ⟨z, rfl, hz, hb⟩
 have HZ := Lib.hid hz.out
 clear hz HC
 go_wp2_with fail
 go_ret
 exact ⟨by rw [← HZ.out]; rfl, hb⟩
theorem infoB : (Tryz.prog.info? 4).map (fun i => (i.zero, i.size, i.bytes)) = some (some (.bool false), 1, 1) := by kernel_rfl
def OwnB (B : Nat) (w : World) (v : Value) (l : List Bool) : Prop := w.ownsRow B 4 1 v l.length (l.map Value.bool)
theorem ownB_nil (B : Nat) (w : World) : OwnB B w (.slice none 0 0) [] := World.ownsRow_nil _ _ _ _
theorem OwnB.below {B : Nat} {w w' : World} {v : Value} {L : List Bool} (h : OwnB B w v L) (hb : Below w.heap.size w w') : OwnB B w' v L := by
 rcases h.2 with ⟨hv, hn⟩ | ⟨g, cap, cur, hv, hg, hh, hc, hcm, hsz, ht⟩
 ·exact ⟨h.1, .inl ⟨hv, hn⟩⟩
 ·exact ⟨h.1, .inr ⟨g, cap, cur, hv, hg, Has.below (t := 4) (cs := cur) hh hb (Has.lt (t := 4) (cs := cur) hh), hc, hcm, hsz, ht⟩⟩
theorem ownB_open {B : Nat} {w : World} {v : Value} {l : List Bool} (h : OwnB B w v l) : ∃ A n c, v = .slice A n c ∧ Hid (l.length = n) ∧ n ≤ c ∧ Hid (BRow w A l) := by
 rcases h.2 with ⟨hv, hn⟩ | ⟨g, cap, cur, hv, _, hh, hc, hm, _, ht⟩
 ·obtain rfl := List.eq_nil_of_length_eq_zero hn
  exact ⟨none, 0, 0, hv, rfl, Nat.le_refl _, fun h => absurd rfl h⟩
 ·subst hv
  refine ⟨_, _, _, rfl, rfl, hc, fun _ => ⟨g, 0, rfl, fun i hi => ?_⟩⟩
  have h1 : (l.map Value.bool)[i]? = some (.bool l[i]) := by simp [hi]
  rw [← ht, List.getElem?_take, if_pos (by omega)] at h1
  rw [Nat.zero_add, Has.cell (t := 4) (cs := cur) hh i]
  simpa using h1
theorem appB (w : World) (B : Nat) (v : Value) (l : List Bool) (d : Bool) (h : OwnB B w v l) (hB : B ≤ w.heap.size) (hl : l.length ≤ 10000) :
 ∃ R W', (Builtin.append_ #[143, 143] 143 #[v, .slice (some ⟨w.heap.size, 0, none⟩) 1 1]).run Tryz.prog (w.alloc (.cells #[.bool d] 4)) = .ok R W' ∧ OwnB B W' R (l ++ [d]) ∧ Below B w W' := by
 obtain ⟨i0, hi, hz0, hz1, hz2⟩ := info_parts infoB
 obtain ⟨R, W', hrun, hown, hg, _⟩ := run_append_own (P := Tryz.prog) (w.alloc (.cells #[.bool d] 4)) B 143 143 4 i0 (.bool false) 1 1 Tryz.underlying143 hi hz0 hz1 hz2 rfl (by decide) v l.length (l.map Value.bool) (h.below ((Below.refl _ w).alloc (Nat.le_refl _) _))
  ⟨w.heap.size, 0, none⟩ 1 1 [.bool d] rfl (fun j u hj => by
    rcases j with _ | j
    ·have := (Has.new w 4 #[.bool d]).cell 0
     simpa [Addr.add] using this.trans hj
    ·simp at hj) (fun u hu => by simp at hu; subst hu; rfl) (by unfold maxLen; omega) (by omega) (by simp; omega)
 refine ⟨R, W', hrun, ?_, ?_⟩
 ·unfold OwnB; rw [List.map_append, List.length_append]; exact hown
 ·exact ((Below.refl B w).alloc hB _).grown hg (by simp; omega) fun k hk => (World.ownsRow.lt h k hk).1
theorem grown_at {w x y : World} {g : Nat} (h : w.grownBy x (some g)) (hb : Below w.heap.size x y) : w.grownBy y (some g) :=
 ⟨hb.os.trans h.os, hb.tape.trans h.tape, hb.output.trans h.output, Nat.le_trans h.size hb.size, fun k hk hne => (hb.block k hk).trans (h.block k hk hne)⟩
def bitsTo (b k : Nat) : List Bool := (List.range k).map fun i => decide ((b / 2 ^ i) % 2 = 1)
theorem bitsTo_succ (b k : Nat) : bitsTo b (k + 1) = bitsTo b k ++ [decide ((b / 2 ^ k) % 2 = 1)] := by unfold bitsTo; rw [List.range_succ, List.map_append]; rfl
theorem bitsTo_len (b k : Nat) : (bitsTo b k).length = k := by simp [bitsTo]
theorem BRow.take {w : World} {A : Option Addr} {l : List Bool} (h : BRow w A l) (k : Nat) : BRow w A (l.take k) := fun hne => by
 obtain ⟨b, off, e, hc⟩ := h (by rintro rfl; simp at hne)
 exact ⟨b, off, e, fun i hi => by rw [List.getElem_take]; exact hc i (by rw [List.length_take] at hi; omega)⟩
theorem BRow.drop {w : World} {b off : Nat} {l : List Bool} (h : BRow w (some ⟨b, off, none⟩) l) (k : Nat) : BRow w (some ⟨b, off + k, none⟩) (l.drop k) := fun hne => by
 obtain ⟨b', off', e, hc⟩ := h (by rintro rfl; simp at hne)
 injection e with e
 injection e with e1 e2
 subst e1 e2
 refine ⟨b, off + k, rfl, fun i hi => ?_⟩
 rw [List.length_drop] at hi
 rw [List.getElem_drop, Nat.add_assoc]
 exact hc (k + i) (by omega)
theorem bit_eq (b k : Nat) : (((b : Int) / 2 ^ k).tmod 2 == 1) = decide ((b / 2 ^ k) % 2 = 1) := by
 have e : ((b : Int) / 2 ^ k) = ((b / 2 ^ k : Nat) : Int) := by simp
 rw [e]
 generalize b / 2 ^ k = q
 have h : ((q : Int).tmod 2) = ((q % 2 : Nat) : Int) := by rw [Int.tmod_eq_emod_of_nonneg (by omega)]; omega
 rw [h]
 rcases Nat.mod_two_eq_zero_or_one q with h0 | h0 <;> rw [h0] <;> rfl
set_option maxHeartbeats 4000000 in
theorem nulls_any {D : Nat} (g : Nat) (l : List Nat) (e n : Nat) (w : World) (h : RdrD D w g l e) (hgD : g < D) (hD : D ≤ w.heap.size) (hl : ∀ x ∈ l, x < 256) (hb : l.length ≤ 1000000) (h1 : 1 ≤ n) (h8 : n ≤ 8) :
 Calls Tryz.prog 115 #[.pointer (some ⟨g, 0, none⟩), .int .i64 n] w fun x w' => (∃ A c, x = .returned (.tuple #[.slice A n c, .bool (!((bitsTo (byteF l e).1 8).drop n).any id)]) ∧ Hid (BRow w' A ((bitsTo (byteF l e).1 8).take n))) ∧ Hid (RdrD D w' g (byteF l e).2.1 (byteF l e).2.2) ∧ Hid (w.grownBy w' (some g)) := by
 have HR := Lib.hid h
 have HBY := Lib.hid (fun (W : World) (hW : RdrD D W g l e) => ByteD_get g l e W hW hl hb)
 have hby : (byteF l e).1 < 256 := by
  unfold byteF
  split
  ·simp
  ·cases l with
   | nil => simp
   | cons x t => exact hl x (by simp)
 obtain ⟨by0, hby0⟩ : ∃ x, (byteF l e).1 = x := ⟨_, rfl⟩
 obtain ⟨l2, hl2⟩ : ∃ x, (byteF l e).2.1 = x := ⟨_, rfl⟩
 obtain ⟨e2, he2⟩ : ∃ x, (byteF l e).2.2 = x := ⟨_, rfl⟩
 replace HBY := HBY.out
 rw [hby0, hl2, he2] at HBY
 rw [hby0] at hby
 rw [hby0, hl2, he2]
 have HBY := Lib.hid HBY
 clear h hby0 hl2 he2
 go_enter Tryz.func115, Tryz.ntmps115
 go_wp2_with fail
 refine (eighths_any n _ h1 h8).mono ?_
 rintro e w1 ⟨rfl, rfl⟩
 have HG0 := Lib.hid (grown_refl w1 g)
 go_wp2_with fail
 go_loopw [6, 11] (fun v i wr => (i = .int .i64 0 ∧ v = .slice none 0 0 ∧ wr = w1) ∨ (i = .int .i64 1 ∧ Hid (OwnB w1.heap.size wr v (bitsTo by0 8)) ∧ Hid (RdrD D wr g l2 e2) ∧ Hid (w1.grownBy wr (some g)))) (fun _ i _ => 1 - (intOf i).toNat)
 case atStart => exact .inl ⟨rfl, rfl, rfl⟩
 case round =>
  rcases hrel with ⟨rfl, rfl, rfl⟩ | ⟨rfl, HO, HR1, HG1⟩
  ·go_wp2_with fail
   refine (HBY.out _ HR.out).mono ?_
   rintro e w2 ⟨rfl, hd, hg⟩
   have HR2 := Lib.hid hd
   have HG2 := Lib.hid hg
   clear hd hg HBY
   obtain ⟨wo, rfl⟩ : ∃ wo : World, wo = wr := ⟨_, rfl⟩
   go_wp2_with fail
   go_loopw [6, 15] (fun v i wr => ∃ k : Nat, k ≤ 8 ∧ i = .int .i64 k ∧ Hid (OwnB wo.heap.size wr v (bitsTo by0 k)) ∧ Hid (RdrD D wr g l2 e2) ∧ Hid (wo.grownBy wr (some g))) (fun _ i _ => 8 - (intOf i).toNat)
   case atStart => exact ⟨0, by omega, rfl, ownB_nil _ _, HR2, HG2⟩
   case round =>
    obtain ⟨k, hk, rfl, HO, HR3, HG3⟩ := hrel
    clear HR2 HG2
    obtain ⟨Ao, no, co, rfl, HNO, hnoc, HVO⟩ := ownB_open HO.out
    by_cases hlt : k < 8
    ·have HBS := Lib.hid (bitsTo_succ by0 k)
     have hkz : (k : Int) < 8 := by omega
     have HAP := Lib.hid (appB wr wo.heap.size (.slice Ao no co) (bitsTo by0 k) (((by0 : Int) / 2 ^ k).tmod 2 == 1) HO.out HG3.out.size (by rw [bitsTo_len]; omega))
     rw [bit_eq, ← HBS.out, ← bit_eq] at HAP
     go_wp2_with (at_builtin; refine wpList_app rfl _ _ 143 143 rfl (.slice Ao no co) (.slice (some ⟨wr.heap.size, 0, none⟩) 1 1) rfl rfl ?_; obtain ⟨R, W', hrun, hmade⟩ := HAP.out; refine ⟨R, W', hrun, ?_⟩; have HO5 := Lib.hid hmade.1; have HB5 := Lib.hid hmade.2; clear hrun hmade HAP)
     go_roundw
     case rel => exact ⟨k + 1, by omega, by go_num, HO5, HR3.out.keep hgD (HB5.out.mono hD), grown_at HG3.out HB5.out⟩
     case measure => simp [intOf]; omega
    ·obtain rfl : k = 8 := by omega
     go_wp2_with fail
     go_roundw
     case rel => exact .inr ⟨by go_num, HO, HR3, HG3⟩
     case measure => simp [intOf]
  ·obtain ⟨Ao, no, co, rfl, HNO, hnoc, HVO⟩ := ownB_open HO.out
   have hno : 8 = no := by have h := HNO.out; rw [bitsTo_len] at h; exact h
   subst hno
   obtain ⟨b, off, rfl, hc⟩ := HVO.out (by intro e; have := bitsTo_len by0 8; rw [e] at this; cases this)
   clear hc HBY HO
   have hn1 : (n : Int) ≤ 8 := by omega
   have hn0 : (0 : Int) ≤ (n : Int) := by omega
   have hn2 : (n : Int) ≤ (co : Int) := by omega
   have hd0 : Hid (Below wr.heap.size wr wr.drew) := (Below.refl _ wr).drew
   obtain ⟨q, hq⟩ : ∃ q, ((bitsTo by0 8).drop n).any id = q := ⟨_, rfl⟩
   have HBD : Hid (BRow wr (if co = n then some ⟨b, off, none⟩ else some ⟨b, off + n, none⟩) ((bitsTo by0 8).drop n)) := by
    by_cases hcn : co = n
    ·exact fun hne => absurd (List.drop_eq_nil_of_le (by rw [bitsTo_len]; omega)) hne
    ·rw [if_neg hcn]; exact HVO.out.drop n
   have HCN := Lib.hid (fun (cc : Nat) (X : World) (hb : Hid (Below wr.heap.size wr X)) => (contains_bool (if co = n then some ⟨b, off, none⟩ else some ⟨b, off + n, none⟩) ((bitsTo by0 8).drop n) (8 - n) cc X (by rw [List.length_drop, bitsTo_len]) (by omega) (HBD.out.below hb.out)).mono (R' := fun e w' => e = .returned (.bool q) ∧ Hid (Below wr.heap.size wr w')) fun e w' h => ⟨by rw [h.1, hq], hb.out.trans (h.2.out.mono hb.out.size)⟩)
   have HQ := Lib.hid hq
   clear hq
   have hcv : co = n ∨ co ≠ n := Decidable.em _
   cases q
   all_goals
    rcases hcv with hcn | hcn
   all_goals
    first | rw [if_pos hcn] at HCN | rw [if_neg hcn] at HCN
    go_wp2_with fail
    go_region_held3 (fun X => Hid (Below wr.heap.size wr X)) (assumption) (first
     | (go_at_call 122; (with_reducible refine (HCN.out _ _ (by assumption)).mono ?_); rintro e x ⟨rfl, hd⟩)
     | fail)
    go_wp2_with fail
    go_ret2
    exact ⟨⟨_, _, by rw [HQ.out]; rfl, (HVO.out.take n).below hd.out⟩, HR1.out.keep hgD (hd.out.mono (Nat.le_trans hD HG1.out.size)), grown_below HG1.out hd.out⟩
end Go.Proofs.YtnpmgempkoeapaaGreatDoor
