/-
  The law's own example of layer 5.
-/
import Derived.Test.YtbbdmajlbofcmaaDoorImgW
namespace Go.Proofs.YtbbdmajlbofcmaaDoor
open Go.RowKit Dg
def ex5R : List Vl := [⟨2, 1, ⟨#[]⟩⟩, vlNil]
theorem ex5_img : imgF (ex5R.take 2) = [2, 2] := by
  have h : digs (zig 1) = [2] := digs_lt (n := 2) (by omega)
  simp [imgF, ex5R, nbits, plB, vlNil, h]
theorem ex5_may : ∀ x ∈ ex5R, x.may = true := fun x hx => by
  simp [ex5R] at hx
  rcases hx with rfl | rfl
  · show (mayF 2 1 (bs [])) = true
    simp only [mayF]
    rw [bs_toList]
    rfl
  · exact nil_may
theorem ex5_fits : ∀ x ∈ ex5R, x.fits := fun x hx => by
  simp [ex5R] at hx
  rcases hx with rfl | rfl
  · exact ⟨⟨by decide, by decide, by simp [ByteArray.size]⟩, by decide, by decide⟩
  · exact nil_fits
theorem ex5_size : ∀ x ∈ ex5R, x.s.size ≤ 1000 := fun x hx => by
  simp [ex5R] at hx
  rcases hx with rfl | rfl <;> simp [vlNil, ByteArray.size]
theorem ex5_row (W : World) (g : Nat) (h : Has W g 88 #[.int .i64 2, .int .i64 1, .string ⟨#[]⟩, .int .i64 0, .int .i64 0, .string ⟨#[]⟩]) : VRow W (some ⟨g, 0, none⟩) ex5R := fun _ =>
  ⟨g, 0, rfl, fun i hi => by
    have : i = 0 ∨ i = 1 := by simp [ex5R] at hi; omega
    rcases this with rfl | rfl
    · exact ⟨h.cell 0, h.cell 1, h.cell 2⟩
    · exact ⟨h.cell 3, h.cell 4, h.cell 5⟩⟩
set_option maxHeartbeats 4000000 in
set_option maxRecDepth 100000 in
theorem lives5_any (w : World) : Calls Tryd.prog 19 #[] w fun e w' => e = .returned (.bool true) ∧ Hid (Below w.heap.size w w') := by
  have hw := fun (W : World) (g : Nat) (A : Option Addr) (h : Has W g 88 #[.int .i64 2, .int .i64 1, .string ⟨#[]⟩, .int .i64 0, .int .i64 0, .string ⟨#[]⟩]) => write_any none [] 0 0 A 2 2 1 (some ⟨g, 0, none⟩) ex5R 2 2 2 W rfl (by omega) (Rd.nil _ _) (fun _ => rfl) (by rfl) (by omega) (by omega) (by omega) rfl (by omega) (by omega) (ex5_row W g h) ex5_may ex5_fits ex5_size
  have HWR := Lib.hid hw
  clear hw
  go_enter Tryd.func19, Tryd.ntmps19
  have HB := Lib.hid ((((Below.refl w.heap.size w).alloc (Nat.le_refl _) (.cells #[.string ⟨#[105, 100]⟩, .int .i64 2, .bool false, .string ⟨#[110, 97, 109, 101]⟩, .int .i64 3, .bool true] 58)).alloc (by simp) (.cells #[.slice (some ⟨w.heap.size, 0, none⟩) 2 2, .int .i64 1] 24)).alloc (by simp; omega) (.cells #[.int .i64 2, .int .i64 1, .string ⟨#[]⟩, .int .i64 0, .int .i64 0, .string ⟨#[]⟩] 88))
  have hv := Has.new ((w.alloc (.cells #[.string ⟨#[105, 100]⟩, .int .i64 2, .bool false, .string ⟨#[110, 97, 109, 101]⟩, .int .i64 3, .bool true] 58)).alloc (.cells #[.slice (some ⟨w.heap.size, 0, none⟩) 2 2, .int .i64 1] 24)) 88 #[.int .i64 2, .int .i64 1, .string ⟨#[]⟩, .int .i64 0, .int .i64 0, .string ⟨#[]⟩]
  rw [show ((w.alloc (.cells #[.string ⟨#[105, 100]⟩, .int .i64 2, .bool false, .string ⟨#[110, 97, 109, 101]⟩, .int .i64 3, .bool true] 58)).alloc (.cells #[.slice (some ⟨w.heap.size, 0, none⟩) 2 2, .int .i64 1] 24)).heap.size = w.heap.size + 1 + 1 by simp] at hv
  have HV := Lib.hid hv
  clear hv
  go_wp2_with fail
  refine (HWR.out _ _ _ HV.out).mono ?_
  rintro e w5 ⟨v, rfl, ho, hb⟩
  rw [ex5_img] at ho
  obtain ⟨A5, n5, c5, rfl, HN5, hnc5, HR5, _⟩ := own_openZ ho.out
  obtain rfl : n5 = 2 := HN5.out.symm
  obtain ⟨b, off, rfl, hc⟩ := HR5.out (by simp)
  have c0 : w5.cell? ⟨b, off, none⟩ = some (.int .u8 2) := hc 0 (by simp)
  have c1 : w5.cell? ⟨b, off + 1, none⟩ = some (.int .u8 2) := hc 1 (by simp)
  have HB5 := Lib.hid (HB.out.trans (hb.out.mono HB.out.size))
  clear hc hb ho HN5 HR5
  go_wp2_with fail
  go_ret
  exact ⟨rfl, HB5⟩
end Go.Proofs.YtbbdmajlbofcmaaDoor
