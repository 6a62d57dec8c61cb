import Derived.Test.YtbaafbcdhgfpdaaClaw
namespace Go.Proofs.Ytbaafbcdhgfpdaa.crcTakes
open Go.RowKit Cr
theorem takeF_byte (l : List Nat) (h : ∀ x ∈ l, x < 256) : ∀ x ∈ (takeF l).1, x < 256 := by
  unfold takeF
  split
  · intro x hx; cases hx
  · split
    · exact fun x hx => h x (List.mem_of_mem_take hx)
    · intro x hx; cases hx
set_option maxHeartbeats 1000000 in
theorem walk (SUM : SumC) (TAKE : TakeC) (a0 : Option Addr) (len0 cap0 : Nat) (z0 : List Int) (w : World) (w0 : IsRow .u8 w a0 len0 cap0 z0) :
    Calls Try.prog 5 #[.slice a0 len0 cap0] w fun e w' => e = .returned (.bool true) ∧ Below w.heap.size w w' := by
  obtain ⟨m, l, came, hm, hmc⟩ := w0.came
  clear w0
  have HL := Lib.hid (lives_any SUM)
  have HT := Lib.hid TAKE
  have HC := Lib.hid came
  clear SUM TAKE came
  go_enter Try.func5, Try.ntmps5
  go_wp2_with fail
  refine (HC.out.few _).mono ?_
  rintro e w1 ⟨rfl, rfl⟩
  go_wp2_with fail
  refine (HT.out a0 l m cap0 _ HC.out.len_ hmc HC.out.cap_ (by omega) HC.out.bytes HC.out.rd HC.out.nil_).mono ?_
  rintro e w1 ⟨A1, n1, c1, rfl, N1, hn1, R1, B1⟩
  go_wp2_with fail
  refine (refTake_any a0 l m cap0 _ HC.out.len_ hmc (by omega) HC.out.bytes (HC.out.rd.below B1.out) HC.out.nil_).mono ?_
  rintro e w2 ⟨⟨A2, n2, c2, rfl, N2, hn2, R2⟩, B2⟩
  have HN2 := Lib.hid N2
  have HR2 := Lib.hid R2
  have HR1 := Lib.hid (R1.out.below B2)
  have HB := Lib.hid (B1.out.trans (B2.mono B1.out.size))
  clear N2 R2 B2 R1 B1
  have hq : ((bs (takeF l).1).toList == (bs (takeF l).1).toList) = true := by simp
  generalize (takeF l).2 = E
  generalize (takeF l).1 = T at *
  go_wp2_with fail
  rw [conv_len w2 A1 T n1 c1 N1.out HR1.out]
  go_wp2_with fail
  rw [conv_len w2 A2 T n2 c2 HN2.out HR2.out]
  go_wp2_with fail
  refine (HL.out _).mono ?_
  rintro e w3 ⟨rfl, B3⟩
  go_wp2_with fail
  go_ret
  exact ⟨rfl, HB.out.trans (B3.out.mono HB.out.size)⟩
end Go.Proofs.Ytbaafbcdhgfpdaa.crcTakes
