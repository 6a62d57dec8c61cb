/-
  The document's example of schemas stands.
-/
import Derived.Test.YticfhjimbochlaaDoorApply
import Derived.Test.YticfhjimbochlaaDoorSmay
namespace Go.Proofs.YticfhjimbochlaaDoor
open Go.RowKit Dg
def exId : ByteArray := ⟨#[105, 100]⟩
def exName : ByteArray := ⟨#[110, 97, 109, 101]⟩
def exL : List Cl := [⟨⟨#[105, 100]⟩, 2, false⟩, ⟨⟨#[110, 97, 109, 101]⟩, 3, false⟩]
theorem ex_find0 : findI exL ⟨#[105, 100]⟩ = 0 := by decide +kernel
theorem ex_find1 : findI exL ⟨#[110, 97, 109, 101]⟩ = 1 := by decide +kernel
theorem ex_may : smayF exL 1 = true := by decide +kernel
theorem ex_does0 : doesF exL 1 4 ⟨#[105, 100]⟩ 0 false = ⟨0, 0, 0, 10⟩ := by
  unfold doesF cutF; rw [ex_find0]; rfl
theorem ex_does1 : doesF exL 1 4 ⟨#[110, 97, 109, 101]⟩ 0 false = ⟨1, 2, 0, 0⟩ := by
  unfold doesF cutF; rw [ex_find1]; rfl
set_option maxHeartbeats 4000000 in
set_option maxRecDepth 100000 in
theorem lives4_any (w : World) : Calls Tryd.prog 12 #[] w fun e w' => e = .returned (.bool true) ∧ Hid (Below w.heap.size w w') := by
  have HB0 := Lib.hid (((Below.refl w.heap.size w).alloc (Nat.le_refl _) (.cells #[.string ⟨#[105, 100]⟩, .int .i64 2, .bool false, .string ⟨#[110, 97, 109, 101]⟩, .int .i64 3, .bool false] 57)).alloc (by simp) (.cells #[.slice (some ⟨w.heap.size, 0, none⟩) 2 2, .int .i64 1] 24))
  have HL0 := Lib.hid ((Has.new w 57 #[.string ⟨#[105, 100]⟩, .int .i64 2, .bool false, .string ⟨#[110, 97, 109, 101]⟩, .int .i64 3, .bool false]).alloc (.cells #[.slice (some ⟨w.heap.size, 0, none⟩) 2 2, .int .i64 1] 24))
  have hs := Has.new (w.alloc (.cells #[.string ⟨#[105, 100]⟩, .int .i64 2, .bool false, .string ⟨#[110, 97, 109, 101]⟩, .int .i64 3, .bool false] 57)) 24 #[.slice (some ⟨w.heap.size, 0, none⟩) 2 2, .int .i64 1]
  rw [show (w.alloc (.cells #[.string ⟨#[105, 100]⟩, .int .i64 2, .bool false, .string ⟨#[110, 97, 109, 101]⟩, .int .i64 3, .bool false] 57)).heap.size = w.heap.size + 1 by simp] at hs
  have HS0 := Lib.hid hs
  clear hs
  have HR : Hid (∀ W : World, Has W w.heap.size 57 #[.string ⟨#[105, 100]⟩, .int .i64 2, .bool false, .string ⟨#[110, 97, 109, 101]⟩, .int .i64 3, .bool false] → CRow W (some ⟨w.heap.size, 0, none⟩) exL) := fun W h _ => ⟨w.heap.size, 0, rfl, fun i hi => by
    have : i = 0 ∨ i = 1 := by simp [exL] at hi; omega
    rcases this with rfl | rfl
    · exact ⟨h.cell 0, h.cell 1, h.cell 2⟩
    · exact ⟨h.cell 3, h.cell 4, h.cell 5⟩⟩
  go_enter Tryd.func12, Tryd.ntmps12
  go_wp2_with fail
  refine (apply_any (some ⟨w.heap.size, 0, none⟩) exL 2 2 1 4 ⟨#[]⟩ none 0 0 0 ⟨#[105, 100]⟩ 0 false _ rfl (by omega) (by omega) (by omega) (by unfold maxLen; omega) (by simp [ByteArray.size]) (HR.out _ HL0.out)).mono ?_
  rintro e w1 ⟨v1, rfl, ho1, hb1⟩
  obtain ⟨A1, n1, c1, rfl, _, _, _, _, _⟩ := ownC_open ho1.out
  have HB1 := Lib.hid (HB0.out.trans (hb1.out.mono HB0.out.size))
  have HL1 := Lib.hid (HL0.out.below hb1.out HL0.out.lt)
  have HS1 := Lib.hid (HS0.out.below hb1.out HS0.out.lt)
  clear hb1 ho1 HB0 HL0 HS0
  rw [ex_does0]
  have hk0 : applyK 1 ⟨0, 0, 0, 10⟩ = 0 := rfl
  rw [hk0]
  clear hk0
  have HB2 := Lib.hid (HB1.out.alloc HB1.out.size (.cells #[.slice A1 n1 c1, .int .i64 0] 24))
  have HL2 := Lib.hid (HL1.out.alloc (.cells #[.slice A1 n1 c1, .int .i64 0] 24))
  have HS2 := Lib.hid (HS1.out.alloc (.cells #[.slice A1 n1 c1, .int .i64 0] 24))
  have s0 : (w1.alloc (.cells #[.slice A1 n1 c1, .int .i64 0] 24)).cell? ⟨w.heap.size + 1, 0, none⟩ = some (.slice (some ⟨w.heap.size, 0, none⟩) 2 2) := HS2.out.cell 0
  have s1 : (w1.alloc (.cells #[.slice A1 n1 c1, .int .i64 0] 24)).cell? ⟨w.heap.size + 1, 1, none⟩ = some (.int .i64 1) := HS2.out.cell 1
  go_wp2_with fail
  refine (apply_any (some ⟨w.heap.size, 0, none⟩) exL 2 2 1 4 ⟨#[]⟩ none 0 0 0 ⟨#[110, 97, 109, 101]⟩ 0 false _ rfl (by omega) (by omega) (by omega) (by unfold maxLen; omega) (by simp [ByteArray.size]) (HR.out _ HL2.out)).mono ?_
  rintro e w2 ⟨v2, rfl, ho2, hb2⟩
  rw [ex_does1] at ho2 ⊢
  have hk1 : applyK 1 ⟨1, 2, 0, 0⟩ = 1 := rfl
  have hl1 : applyL exL ⟨1, 2, 0, 0⟩ ⟨#[110, 97, 109, 101]⟩ 0 = [⟨⟨#[105, 100]⟩, 2, false⟩] := rfl
  rw [hk1]
  rw [hl1] at ho2
  obtain ⟨A2, n2, c2, rfl, HN2, _, _, HV2, _⟩ := ownC_open ho2.out
  have hn2 : n2 = 1 := HN2.out.symm
  subst hn2
  obtain ⟨b2, off2, rfl, hc2⟩ := HV2.out (by simp)
  obtain ⟨q0, _, _⟩ := hc2 0 (by simp)
  simp at q0
  have HB3 := Lib.hid (HB2.out.trans (hb2.out.mono HB2.out.size))
  have HL3 := Lib.hid (HL2.out.below hb2.out HL2.out.lt)
  have HS3 := Lib.hid (HS2.out.below hb2.out HS2.out.lt)
  clear hb2 ho2 HB1 HL1 HS1 HB2 HL2 HS2 s0 s1 hk1 hl1 hc2 HV2 HN2
  have HB4 := Lib.hid (HB3.out.alloc HB3.out.size (.cells #[.slice (some ⟨b2, off2, none⟩) 1 c2, .int .i64 1] 24))
  have HL4 := Lib.hid (HL3.out.alloc (.cells #[.slice (some ⟨b2, off2, none⟩) 1 c2, .int .i64 1] 24))
  have HS4 := Lib.hid (HS3.out.alloc (.cells #[.slice (some ⟨b2, off2, none⟩) 1 c2, .int .i64 1] 24))
  have HX4 := Lib.hid (Has.new w2 24 #[.slice (some ⟨b2, off2, none⟩) 1 c2, .int .i64 1])
  have q4 := Lib.hid (keepC ((Below.refl _ w2).alloc (Nat.le_refl _) (.cells #[.slice (some ⟨b2, off2, none⟩) 1 c2, .int .i64 1] 24)) q0)
  have s0 : (w2.alloc (.cells #[.slice (some ⟨b2, off2, none⟩) 1 c2, .int .i64 1] 24)).cell? ⟨w.heap.size + 1, 0, none⟩ = some (.slice (some ⟨w.heap.size, 0, none⟩) 2 2) := HS4.out.cell 0
  have s1 : (w2.alloc (.cells #[.slice (some ⟨b2, off2, none⟩) 1 c2, .int .i64 1] 24)).cell? ⟨w.heap.size + 1, 1, none⟩ = some (.int .i64 1) := HS4.out.cell 1
  clear q0
  go_wp2_with fail
  refine (smay_any (some ⟨w.heap.size, 0, none⟩) exL 2 2 1 _ rfl (by omega) (HR.out _ HL4.out) (fun x hx => by
    simp [exL] at hx
    rcases hx with rfl | rfl
    · exact ⟨by simp [ByteArray.size], by simp, by simp⟩
    · exact ⟨by simp [ByteArray.size], by simp, by simp⟩)).mono ?_
  rintro e w3 ⟨rfl, hb3⟩
  rw [ex_may]
  have HX5 := HX4.out.below hb3.out HX4.out.lt
  have x0 : w3.cell? ⟨w2.heap.size, 0, none⟩ = some (.slice (some ⟨b2, off2, none⟩) 1 c2) := HX5.cell 0
  have q5 : w3.cell? ⟨b2, off2, none⟩ = some (.string ⟨#[105, 100]⟩) := keepC hb3.out q4.out
  have HB5 := Lib.hid (HB4.out.trans (hb3.out.mono HB4.out.size))
  clear hb3 HX5 s0 s1
  go_wp2_with fail
  go_ret
  exact ⟨rfl, HB5⟩
end Go.Proofs.YticfhjimbochlaaDoor
