/-
  Values that may be, made of any: the document's Good and Goods.
-/
import Derived.Test.YtiefogofiajmnaaDoorKeyD
import Derived.Test.YtiefogofiajmnaaDoorRutf
namespace Go.Proofs.YtiefogofiajmnaaDoor
open Go.RowKit Dg
/-- The first forty bytes. -/
def forty (s : ByteArray) : ByteArray := if 40 < s.size then s.extract 0 40 else s
/-- A value that may be, made of any. -/
def kind5 (k : Int) : Int := (if k < 0 then -(k + 1) else k) % 5
def Vl.good (x : Vl) : Vl :=
  if kind5 x.k = 0 then ⟨0, 0, ⟨#[]⟩⟩ else if kind5 x.k = 1 then ⟨1, if x.n % 2 = 0 then 0 else 1, ⟨#[]⟩⟩ else if kind5 x.k = 2 then ⟨2, x.n, ⟨#[]⟩⟩
  else if kind5 x.k = 3 then ⟨3, 0, if Lib.validD (forty x.s).data.toList then forty x.s else ⟨#[]⟩⟩ else ⟨4, 0, forty x.s⟩
theorem kind_neg {k : Int} (h : k < 0) : ∃ c : Int, -((k + 1).tmod 5) = c ∧ kind5 k = c ∧ (c = 0 ∨ c = 1 ∨ c = 2 ∨ c = 3 ∨ c = 4) := by
  have e : kind5 k = -((k + 1).tmod 5) := by
    unfold kind5
    rw [if_pos h, ← Int.neg_tmod, Int.tmod_eq_emod_of_nonneg (by omega)]
  refine ⟨_, rfl, e, ?_⟩
  rw [← e]
  unfold kind5
  rw [if_pos h]
  omega
theorem kind_pos {k : Int} (h : ¬ k < 0) : ∃ c : Int, k.tmod 5 = c ∧ kind5 k = c ∧ (c = 0 ∨ c = 1 ∨ c = 2 ∨ c = 3 ∨ c = 4) := by
  have e : kind5 k = k.tmod 5 := by
    unfold kind5
    rw [if_neg h, Int.tmod_eq_emod_of_nonneg (by omega)]
  refine ⟨_, rfl, e, ?_⟩
  rw [← e]
  unfold kind5
  rw [if_neg h]
  omega
theorem odd_tmod (n : Int) : n.tmod 2 = 0 ↔ n % 2 = 0 := by
  rw [← Int.dvd_iff_tmod_eq_zero, ← Int.dvd_iff_emod_eq_zero]
theorem forty_size (s : ByteArray) : (forty s).size ≤ 40 := by
  unfold forty; split
  · simp; omega
  · omega
theorem goodEnd (w : World) (o1 o3 : Obj) (c0 c1 c2 : Value) (tmps : Array Value) (hp : tmps.getD 2 undef = .pointer (some ⟨w.heap.size + 1, 0, none⟩)) :
    (results Tryd.f61 tmps).run Tryd.prog (((w.alloc o1).alloc (.cells #[c0, c1, c2] 93)).alloc o3) = .ok (.agg #[c0, c1, c2]) (((w.alloc o1).alloc (.cells #[c0, c1, c2] 93)).alloc o3) := by
  have hh : Has (((w.alloc o1).alloc (.cells #[c0, c1, c2] 93)).alloc o3) (w.heap.size + 1) 93 #[c0, c1, c2] := by
    have h := Has.new (w.alloc o1) 93 #[c0, c1, c2]
    rw [show (w.alloc o1).heap.size = w.heap.size + 1 by simp] at h
    exact h.alloc o3
  exact results_cell_row rfl _ _ (w.heap.size + 1) 93 #[c0, c1, c2] (0, 0) _ hp hh Tryd.underlying93 rfl (by kernel_rfl)
set_option maxHeartbeats 4000000 in
set_option maxRecDepth 100000 in
theorem good_any (k n : Int) (s : ByteArray) (w : World) (hs : s.size ≤ 140737488355328) (h0 : -9223372036854775808 ≤ k) (h1 : k ≤ 9223372036854775807) :
    Calls Tryd.prog 61 #[.agg #[.int .i64 k, .int .i64 n, .string s]] w fun e w' => e = .returned (Vl.val (Vl.good ⟨k, n, s⟩)) ∧ Hid (Below w.heap.size w w') := by
  have HB := fun o1 o2 o3 => Lib.hid ((((Below.refl w.heap.size w).alloc (Nat.le_refl _) o1).alloc (by simp) o2).alloc (by simp; omega) o3)
  have CU := Lib.hid (fun W => refUtf8_any (forty s) W (by have := forty_size s; omega))
  have HO := Lib.hid (odd_tmod n)
  obtain ⟨t, ht⟩ : ∃ t, t = forty s := ⟨_, rfl⟩
  have HT := Lib.hid ht
  rw [← ht] at CU
  clear ht
  by_cases hk : k < 0
  · obtain ⟨c, hc, hk5, hcs⟩ := kind_neg hk
    have HK5 := Lib.hid hk5
    clear hk5
    by_cases hz : 40 < s.size
    · have HF : Hid (s.extract 0 40 = t) := by show _ = _; rw [HT.out]; unfold forty; rw [if_pos hz]
      have HF' := HF.out
      rcases hcs with rfl | rfl | rfl | rfl | rfl
      · go_enter Tryd.func61, Tryd.ntmps61
        go_wp2_with fail
        exact bodyPost_ret (goodEnd _ _ _ _ _ _ _ rfl) rfl ⟨by simp [Vl.good, HK5.out, Vl.val], HB _ _ _⟩
      · by_cases hn : n % 2 = 0
        · have hq : (n.tmod 2 != 0) = false := by simp [HO.out, hn]
          go_enter Tryd.func61, Tryd.ntmps61
          go_wp2_with fail
          exact bodyPost_ret (goodEnd _ _ _ _ _ _ _ rfl) rfl ⟨by simp [Vl.good, HK5.out, hn, Vl.val], HB _ _ _⟩
        · have hq : (n.tmod 2 != 0) = true := by simp [HO.out, hn]
          go_enter Tryd.func61, Tryd.ntmps61
          go_wp2_with fail
          exact bodyPost_ret (goodEnd _ _ _ _ _ _ _ rfl) rfl ⟨by simp [Vl.good, HK5.out, hn, Vl.val], HB _ _ _⟩
      · go_enter Tryd.func61, Tryd.ntmps61
        go_wp2_with fail
        exact bodyPost_ret (goodEnd _ _ _ _ _ _ _ rfl) rfl ⟨by simp [Vl.good, HK5.out, Vl.val], HB _ _ _⟩
      · go_enter Tryd.func61, Tryd.ntmps61
        go_wp2_with fail
        refine (CU.out _).mono ?_
        rintro e w1 ⟨rfl, rfl⟩
        cases hv : Lib.validD _
        · go_wp2_with fail
          exact bodyPost_ret (goodEnd _ _ _ _ _ _ _ rfl) rfl ⟨by simp [Vl.good, HK5.out, Vl.val, ← HT.out, hv], HB _ _ _⟩
        · go_wp2_with fail
          exact bodyPost_ret (goodEnd _ _ _ _ _ _ _ rfl) rfl ⟨by simp [Vl.good, HK5.out, Vl.val, ← HT.out, hv], HB _ _ _⟩
      · go_enter Tryd.func61, Tryd.ntmps61
        go_wp2_with fail
        exact bodyPost_ret (goodEnd _ _ _ _ _ _ _ rfl) rfl ⟨by simp [Vl.good, HK5.out, Vl.val, ← HT.out], HB _ _ _⟩
    · have HF : Hid (s = t) := by show _ = _; rw [HT.out]; unfold forty; rw [if_neg hz]
      clear HT
      obtain rfl := HF.out
      clear HF
      rcases hcs with rfl | rfl | rfl | rfl | rfl
      · go_enter Tryd.func61, Tryd.ntmps61
        go_wp2_with fail
        exact bodyPost_ret (goodEnd _ _ _ _ _ _ _ rfl) rfl ⟨by simp [Vl.good, HK5.out, Vl.val], HB _ _ _⟩
      · by_cases hn : n % 2 = 0
        · have hq : (n.tmod 2 != 0) = false := by simp [HO.out, hn]
          go_enter Tryd.func61, Tryd.ntmps61
          go_wp2_with fail
          exact bodyPost_ret (goodEnd _ _ _ _ _ _ _ rfl) rfl ⟨by simp [Vl.good, HK5.out, hn, Vl.val], HB _ _ _⟩
        · have hq : (n.tmod 2 != 0) = true := by simp [HO.out, hn]
          go_enter Tryd.func61, Tryd.ntmps61
          go_wp2_with fail
          exact bodyPost_ret (goodEnd _ _ _ _ _ _ _ rfl) rfl ⟨by simp [Vl.good, HK5.out, hn, Vl.val], HB _ _ _⟩
      · go_enter Tryd.func61, Tryd.ntmps61
        go_wp2_with fail
        exact bodyPost_ret (goodEnd _ _ _ _ _ _ _ rfl) rfl ⟨by simp [Vl.good, HK5.out, Vl.val], HB _ _ _⟩
      · go_enter Tryd.func61, Tryd.ntmps61
        go_wp2_with fail
        refine (CU.out _).mono ?_
        rintro e w1 ⟨rfl, rfl⟩
        cases hv : Lib.validD _
        · go_wp2_with fail
          exact bodyPost_ret (goodEnd _ _ _ _ _ _ _ rfl) rfl ⟨by simp [Vl.good, HK5.out, Vl.val, forty, hz, hv], HB _ _ _⟩
        · go_wp2_with fail
          exact bodyPost_ret (goodEnd _ _ _ _ _ _ _ rfl) rfl ⟨by simp [Vl.good, HK5.out, Vl.val, forty, hz, hv], HB _ _ _⟩
      · go_enter Tryd.func61, Tryd.ntmps61
        go_wp2_with fail
        exact bodyPost_ret (goodEnd _ _ _ _ _ _ _ rfl) rfl ⟨by simp [Vl.good, HK5.out, Vl.val, forty, hz], HB _ _ _⟩
  · obtain ⟨c, hc, hk5, hcs⟩ := kind_pos hk
    have HK5 := Lib.hid hk5
    clear hk5
    by_cases hz : 40 < s.size
    · have HF : Hid (s.extract 0 40 = t) := by show _ = _; rw [HT.out]; unfold forty; rw [if_pos hz]
      have HF' := HF.out
      rcases hcs with rfl | rfl | rfl | rfl | rfl
      · go_enter Tryd.func61, Tryd.ntmps61
        go_wp2_with fail
        exact bodyPost_ret (goodEnd _ _ _ _ _ _ _ rfl) rfl ⟨by simp [Vl.good, HK5.out, Vl.val], HB _ _ _⟩
      · by_cases hn : n % 2 = 0
        · have hq : (n.tmod 2 != 0) = false := by simp [HO.out, hn]
          go_enter Tryd.func61, Tryd.ntmps61
          go_wp2_with fail
          exact bodyPost_ret (goodEnd _ _ _ _ _ _ _ rfl) rfl ⟨by simp [Vl.good, HK5.out, hn, Vl.val], HB _ _ _⟩
        · have hq : (n.tmod 2 != 0) = true := by simp [HO.out, hn]
          go_enter Tryd.func61, Tryd.ntmps61
          go_wp2_with fail
          exact bodyPost_ret (goodEnd _ _ _ _ _ _ _ rfl) rfl ⟨by simp [Vl.good, HK5.out, hn, Vl.val], HB _ _ _⟩
      · go_enter Tryd.func61, Tryd.ntmps61
        go_wp2_with fail
        exact bodyPost_ret (goodEnd _ _ _ _ _ _ _ rfl) rfl ⟨by simp [Vl.good, HK5.out, Vl.val], HB _ _ _⟩
      · go_enter Tryd.func61, Tryd.ntmps61
        go_wp2_with fail
        refine (CU.out _).mono ?_
        rintro e w1 ⟨rfl, rfl⟩
        cases hv : Lib.validD _
        · go_wp2_with fail
          exact bodyPost_ret (goodEnd _ _ _ _ _ _ _ rfl) rfl ⟨by simp [Vl.good, HK5.out, Vl.val, ← HT.out, hv], HB _ _ _⟩
        · go_wp2_with fail
          exact bodyPost_ret (goodEnd _ _ _ _ _ _ _ rfl) rfl ⟨by simp [Vl.good, HK5.out, Vl.val, ← HT.out, hv], HB _ _ _⟩
      · go_enter Tryd.func61, Tryd.ntmps61
        go_wp2_with fail
        exact bodyPost_ret (goodEnd _ _ _ _ _ _ _ rfl) rfl ⟨by simp [Vl.good, HK5.out, Vl.val, ← HT.out], HB _ _ _⟩
    · have HF : Hid (s = t) := by show _ = _; rw [HT.out]; unfold forty; rw [if_neg hz]
      clear HT
      obtain rfl := HF.out
      clear HF
      rcases hcs with rfl | rfl | rfl | rfl | rfl
      · go_enter Tryd.func61, Tryd.ntmps61
        go_wp2_with fail
        exact bodyPost_ret (goodEnd _ _ _ _ _ _ _ rfl) rfl ⟨by simp [Vl.good, HK5.out, Vl.val], HB _ _ _⟩
      · by_cases hn : n % 2 = 0
        · have hq : (n.tmod 2 != 0) = false := by simp [HO.out, hn]
          go_enter Tryd.func61, Tryd.ntmps61
          go_wp2_with fail
          exact bodyPost_ret (goodEnd _ _ _ _ _ _ _ rfl) rfl ⟨by simp [Vl.good, HK5.out, hn, Vl.val], HB _ _ _⟩
        · have hq : (n.tmod 2 != 0) = true := by simp [HO.out, hn]
          go_enter Tryd.func61, Tryd.ntmps61
          go_wp2_with fail
          exact bodyPost_ret (goodEnd _ _ _ _ _ _ _ rfl) rfl ⟨by simp [Vl.good, HK5.out, hn, Vl.val], HB _ _ _⟩
      · go_enter Tryd.func61, Tryd.ntmps61
        go_wp2_with fail
        exact bodyPost_ret (goodEnd _ _ _ _ _ _ _ rfl) rfl ⟨by simp [Vl.good, HK5.out, Vl.val], HB _ _ _⟩
      · go_enter Tryd.func61, Tryd.ntmps61
        go_wp2_with fail
        refine (CU.out _).mono ?_
        rintro e w1 ⟨rfl, rfl⟩
        cases hv : Lib.validD _
        · go_wp2_with fail
          exact bodyPost_ret (goodEnd _ _ _ _ _ _ _ rfl) rfl ⟨by simp [Vl.good, HK5.out, Vl.val, forty, hz, hv], HB _ _ _⟩
        · go_wp2_with fail
          exact bodyPost_ret (goodEnd _ _ _ _ _ _ _ rfl) rfl ⟨by simp [Vl.good, HK5.out, Vl.val, forty, hz, hv], HB _ _ _⟩
      · go_enter Tryd.func61, Tryd.ntmps61
        go_wp2_with fail
        exact bodyPost_ret (goodEnd _ _ _ _ _ _ _ rfl) rfl ⟨by simp [Vl.good, HK5.out, Vl.val, forty, hz], HB _ _ _⟩
end Go.Proofs.YtiefogofiajmnaaDoor
