/-
  A row behind a change: the program's Turn.
-/
import Derived.Test.YticfhjimbochlaaDoes
import Derived.Test.YticfhjimbochlaaPutV
namespace Go.Proofs.Yticfhjimbochlaa
open Go.RowKit Dg
/-- The row behind a change. -/
def turnL (L : List Vl) (d : Dn) : List Vl := L.take d.f ++ List.replicate d.m ⟨0, 0, ⟨#[]⟩⟩ ++ L.drop d.t
set_option maxHeartbeats 4000000 in
set_option maxRecDepth 100000 in
theorem turn_any (A : Option Addr) (L : List Cl) (n c : Nat) (K : Int) (ck : Int) (tn : ByteArray) (A' : Option Addr) (n' c' : Nat) (K' : Int) (cn : ByteArray) (kd : Int) (no : Bool) (Ar : Option Addr) (R : List Vl) (cr : Nat) (w : World) (hn : L.length = n) (hr : R.length = n) (hp : 0 < n) (hl : n ≤ 900) (hnc : n ≤ cr) (hcm : cr ≤ maxLen) (hcn : cn.size ≤ 140737488355328) (hA : CRow w A L) (hR : VRow w Ar R) (d : Dn) (hd : doesF L K ck cn kd no = d) (hd0 : d.e = 0) (hdo : d.f ≤ d.t ∧ d.t ≤ n ∧ d.m ≤ 1) :
    Calls Try.prog 25 #[.agg #[.slice A n c, .int .i64 K], .agg #[.int .i64 ck, .string tn, .slice A' n' c', .int .i64 K', .string cn, .int .i64 kd, .bool no], .slice Ar n cr] w fun e w' => ∃ v, e = .returned v ∧ Hid (OwnV w.heap.size w' v (turnL R d)) ∧ Hid (Below w.heap.size w w') := by
  have HN := Lib.hid hn
  have HNR := Lib.hid hr
  have HA := Lib.hid hA
  have HR := Lib.hid hR
  have HE := Lib.hid hd
  have HB0 := Lib.hid (((Below.refl w.heap.size w).alloc (Nat.le_refl _) (.cells #[.slice A n c, .int .i64 K] 24)).alloc (by simp) (.cells #[.int .i64 ck, .string tn, .slice A' n' c', .int .i64 K', .string cn, .int .i64 kd, .bool no] 35))
  have HS0 := Lib.hid ((Has.new w 24 #[.slice A n c, .int .i64 K]).alloc (.cells #[.int .i64 ck, .string tn, .slice A' n' c', .int .i64 K', .string cn, .int .i64 kd, .bool no] 35))
  clear hn hr hA hR hd
  obtain ⟨df, dt, dm, de⟩ := d
  simp only at hd0 hdo
  subst hd0
  obtain ⟨h1, h2, h3⟩ := hdo
  go_enter Try.func25, Try.ntmps25
  go_wp2_with fail
  refine (does_any A L n c K ck tn A' n' c' K' cn kd no _ HN.out hl hcn (HA.out.below HB0.out)).mono ?_
  rintro e w1 ⟨rfl, hb1⟩
  have HB1 := Lib.hid (HB0.out.trans (hb1.out.mono HB0.out.size))
  have HS1 := Lib.hid (HS0.out.below hb1.out HS0.out.lt)
  have HS2 := Lib.hid (HS1.out.alloc (.cells #[.int .i64 df, .int .i64 dt, .int .i64 dm] 67))
  have HB2 := Lib.hid (HB1.out.alloc HB1.out.size (.cells #[.int .i64 df, .int .i64 dt, .int .i64 dm] 67))
  have HC := Lib.hid (putV_any Ar R n cr df dt dm ⟨0, 0, ⟨#[]⟩⟩ _ HNR.out hp hnc hcm h1 h2 h3 hl (HR.out.below HB2.out))
  have a0 : (w1.alloc (.cells #[.int .i64 df, .int .i64 dt, .int .i64 dm] 67)).cell? ⟨w.heap.size, 0, none⟩ = some (.slice A n c) := HS2.out.cell 0
  have a1 : w1.cell? ⟨w.heap.size, 0, none⟩ = some (.slice A n c) := HS1.out.cell 0
  clear hb1 HB0 HS0 HS1 HS2 HB1
  rw [HE.out]
  unfold Dn.val
  go_wp2_with fail
  refine HC.out.mono ?_
  rintro e w2 ⟨v, rfl, ho, hb⟩
  have HO := Lib.hid (ownV_down ho.out HB2.out.size)
  have HB3 := Lib.hid (HB2.out.trans (hb.out.mono HB2.out.size))
  clear ho hb HC
  go_wp2_with fail
  go_ret
  exact ⟨v, rfl, HO, HB3⟩
end Go.Proofs.Yticfhjimbochlaa
