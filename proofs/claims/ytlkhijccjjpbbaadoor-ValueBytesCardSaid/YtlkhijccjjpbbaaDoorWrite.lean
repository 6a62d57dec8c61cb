/-
  A value's bytes, behind others: the program's and the document's.
-/
import Derived.Test.YtlkhijccjjpbbaaDoorConc
import Derived.Test.YtlkhijccjjpbbaaDoorLyRef
import Derived.Test.YtlkhijccjjpbbaaDoorKeyD
namespace Go.Proofs.YtlkhijccjjpbbaaDoor
open Go.RowKit Dg
set_option maxRecDepth 100000
/-- A value's bytes. -/
def wrV (k n : Int) (s : ByteArray) : List Nat := if k = 1 ∨ k = 2 then k.toNat :: digs (zig n) else if k = 3 ∨ k = 4 then k.toNat :: txt s else [k.toNat]
theorem parts2 (W : World) (A A2 : Option Addr) (l m : List Nat) (n c k d : Nat) (hn : l.length = n) (hk : m.length = k) (h1 : Rd W A l) (h2 : Rd W A2 m) (z1 : A = none → c = 0) (z2 : A2 = none → d = 0) :
    Parts (W.alloc (.cells #[.slice A n c, .slice A2 k d] 39)) W.heap.size [(A, l, c), (A2, m, d)] := by
  subst hn hk
  have hb : Below W.heap.size W (W.alloc (.cells #[.slice A l.length c, .slice A2 m.length d] 39)) := (Below.refl _ _).alloc (Nat.le_refl _) _
  have hc := Has.new W 39 #[.slice A l.length c, .slice A2 m.length d]
  intro i hi
  have hi' : i = 0 ∨ i = 1 := by simp at hi; omega
  rcases hi' with rfl | rfl
  · exact ⟨by rw [hc.cell]; rfl, h1.below hb, z1⟩
  · exact ⟨by rw [hc.cell]; rfl, h2.below hb, z2⟩
theorem cat2 (A A2 : Option Addr) (l m : List Nat) (c d : Nat) : cat [(A, l, c), (A2, m, d)] 2 = l ++ m := by simp [cat]
theorem one_rd (w : World) (x : Nat) (t : TypeId) : Rd (w.alloc (.cells #[.int .u8 (x : Int)] t)) (some ⟨w.heap.size, 0, none⟩) [x] :=
  Rd.of_has (Has.new w t _) fun i hi => by
    obtain rfl : i = 0 := by simpa using hi
    rfl
/-- What the last statement of Write comes to. -/
theorem two_any (W : World) (w : World) (hb : Below w.heap.size w W) (A A2 : Option Addr) (l m : List Nat) (n c k d : Nat) (hn : l.length = n) (hk : m.length = k) (h1 : Rd W A l) (h2 : Rd W A2 m) (z1 : A = none → c = 0) (z2 : A2 = none → d = 0) (hs : n + k ≤ 100000) :
    Calls Tryd.prog 38 #[.slice (some ⟨W.heap.size, 0, none⟩) 2 2] (W.alloc (.cells #[.slice A n c, .slice A2 k d] 39)) fun e w' => ∃ v, e = .returned v ∧ Hid (Own w.heap.size w' v (l ++ m)) ∧ Hid (Below w.heap.size w w') := by
  have hP := parts2 W A A2 l m n c k d hn hk h1 h2 z1 z2
  have hC := concat_any W.heap.size _ 2 2 _ rfl (by omega) hP (by rw [cat2, List.length_append, hn, hk]; omega)
  rw [cat2] at hC
  have hB : Below w.heap.size w (W.alloc (.cells #[.slice A n c, .slice A2 k d] 39)) := hb.alloc hb.size _
  exact hC.mono fun e w' ⟨v, he, hv, hb3⟩ => ⟨v, he, own_down hv hB.size, hB.trans (hb3.mono hB.size)⟩
set_option maxHeartbeats 4000000 in
theorem write_any (A : Option Addr) (l : List Nat) (n c : Nat) (k m : Int) (s : ByteArray) (w : World) (hn : l.length = n) (hb : n ≤ 1000) (hA : Rd w A l) (hz : A = none → c = 0) (hk : k = 0 ∨ k = 1 ∨ k = 2 ∨ k = 3 ∨ k = 4) (hs : s.size ≤ 200) (h0 : -9223372036854775808 ≤ m) (h1 : m ≤ 9223372036854775807) :
    Calls Tryd.prog 21 #[.slice A n c, .agg #[.int .i64 k, .int .i64 m, .string s]] w fun e w' => ∃ v, e = .returned v ∧ Hid (Own w.heap.size w' v (l ++ wrV k m s)) ∧ Hid (Below w.heap.size w w') := by
  have HN := Lib.hid hn
  have HA := Lib.hid hA
  have HZ := Lib.hid hz
  have hdg := digs_le_ten (zig m) (zig_lt m h0 h1)
  have htx := txt_le s hs
  clear hn hA hz
  rcases hk with rfl | rfl | rfl | rfl | rfl
  · obtain ⟨W, hW⟩ : ∃ W, W = (w.alloc (.cells #[.int .i64 0, .int .i64 m, .string s] 23)).alloc (.cells #[.int .u8 0] 5) := ⟨_, rfl⟩
    have hz2 : W.heap.size = w.heap.size + 1 + 1 := by rw [hW]; simp
    have HB : Hid (Below w.heap.size w W) := by rw [hW]; exact ((Below.refl _ w).alloc (Nat.le_refl _) _).alloc (by simp) _
    have HH : Hid (Has W w.heap.size 23 #[.int .i64 0, .int .i64 m, .string s]) := by rw [hW]; exact (Has.new w _ _).alloc _
    have HR : Hid (Rd W (some ⟨w.heap.size + 1, 0, none⟩) [0]) := by
      rw [hW]
      have := one_rd (w.alloc (.cells #[.int .i64 0, .int .i64 m, .string s] 23)) 0 5
      rwa [show (w.alloc (.cells #[.int .i64 0, .int .i64 m, .string s] 23)).heap.size = w.heap.size + 1 by simp] at this
    have HC := Lib.hid (two_any W w HB.out A (some ⟨w.heap.size + 1, 0, none⟩) l [0] n c 1 1 HN.out rfl (HA.out.below HB.out) HR.out HZ.out (fun e => by cases e) (by omega))
    rw [hz2] at HC
    go_enter Tryd.func21, Tryd.ntmps21
    go_wp2_with fail
    rw [← hW]
    refine HC.out.mono ?_
    rintro e w2 ⟨v, rfl, HO, HB2⟩
    go_wp2_with fail
    go_ret
    exact ⟨v, rfl, HO, HB2⟩
  · obtain ⟨W, hW⟩ : ∃ W, W = (w.alloc (.cells #[.int .i64 1, .int .i64 m, .string s] 23)).alloc (.cells #[.int .u8 1] 5) := ⟨_, rfl⟩
    have hz2 : W.heap.size = w.heap.size + 1 + 1 := by rw [hW]; simp
    have HB : Hid (Below w.heap.size w W) := by rw [hW]; exact ((Below.refl _ w).alloc (Nat.le_refl _) _).alloc (by simp) _
    have HH : Hid (Has W w.heap.size 23 #[.int .i64 1, .int .i64 m, .string s]) := by rw [hW]; exact (Has.new w _ _).alloc _
    have HR : Hid (Rd W (some ⟨w.heap.size + 1, 0, none⟩) [1]) := by
      rw [hW]
      have := one_rd (w.alloc (.cells #[.int .i64 1, .int .i64 m, .string s] 23)) 1 5
      rwa [show (w.alloc (.cells #[.int .i64 1, .int .i64 m, .string s] 23)).heap.size = w.heap.size + 1 by simp] at this
    have HS := Lib.hid (Signed_any (some ⟨w.heap.size + 1, 0, none⟩) [1] 1 m W (by simp) HR.out (by simp) h0 h1)
    have d1 := HH.out.cell 1
    have d2 := HH.out.cell 2
    simp at d1 d2
    go_enter Tryd.func21, Tryd.ntmps21
    go_wp2_with fail
    rw [← hW]
    refine HS.out.mono ?_
    intro e w1 ho
    obtain ⟨A2, n2, c2, rfl, HN2, hc2, HR2, HB1⟩ := ho.open_
    have HBB := Lib.hid (HB.out.trans (HB1.out.mono HB.out.size))
    obtain ⟨b2, o2, rfl, _⟩ := HR2.out (by simp)
    have hn2 : n2 ≤ 300 := by have := HN2.out; simp at this; omega
    have HC := Lib.hid (two_any w1 w HBB.out A (some ⟨b2, o2, none⟩) l _ n c n2 c2 HN.out HN2.out ((HA.out.below HB.out).below HB1.out) HR2.out HZ.out (fun e => by cases e) (by omega))
    clear ho HB1 hW
    go_wp2_with fail
    refine HC.out.mono ?_
    rintro e w2 ⟨v, rfl, HO, HB2⟩
    go_wp2_with fail
    go_ret
    exact ⟨v, rfl, HO, HB2⟩
  · obtain ⟨W, hW⟩ : ∃ W, W = (w.alloc (.cells #[.int .i64 2, .int .i64 m, .string s] 23)).alloc (.cells #[.int .u8 2] 5) := ⟨_, rfl⟩
    have hz2 : W.heap.size = w.heap.size + 1 + 1 := by rw [hW]; simp
    have HB : Hid (Below w.heap.size w W) := by rw [hW]; exact ((Below.refl _ w).alloc (Nat.le_refl _) _).alloc (by simp) _
    have HH : Hid (Has W w.heap.size 23 #[.int .i64 2, .int .i64 m, .string s]) := by rw [hW]; exact (Has.new w _ _).alloc _
    have HR : Hid (Rd W (some ⟨w.heap.size + 1, 0, none⟩) [2]) := by
      rw [hW]
      have := one_rd (w.alloc (.cells #[.int .i64 2, .int .i64 m, .string s] 23)) 2 5
      rwa [show (w.alloc (.cells #[.int .i64 2, .int .i64 m, .string s] 23)).heap.size = w.heap.size + 1 by simp] at this
    have HS := Lib.hid (Signed_any (some ⟨w.heap.size + 1, 0, none⟩) [2] 1 m W (by simp) HR.out (by simp) h0 h1)
    have d1 := HH.out.cell 1
    have d2 := HH.out.cell 2
    simp at d1 d2
    go_enter Tryd.func21, Tryd.ntmps21
    go_wp2_with fail
    rw [← hW]
    refine HS.out.mono ?_
    intro e w1 ho
    obtain ⟨A2, n2, c2, rfl, HN2, hc2, HR2, HB1⟩ := ho.open_
    have HBB := Lib.hid (HB.out.trans (HB1.out.mono HB.out.size))
    obtain ⟨b2, o2, rfl, _⟩ := HR2.out (by simp)
    have hn2 : n2 ≤ 300 := by have := HN2.out; simp at this; omega
    have HC := Lib.hid (two_any w1 w HBB.out A (some ⟨b2, o2, none⟩) l _ n c n2 c2 HN.out HN2.out ((HA.out.below HB.out).below HB1.out) HR2.out HZ.out (fun e => by cases e) (by omega))
    clear ho HB1 hW
    go_wp2_with fail
    refine HC.out.mono ?_
    rintro e w2 ⟨v, rfl, HO, HB2⟩
    go_wp2_with fail
    go_ret
    exact ⟨v, rfl, HO, HB2⟩
  · obtain ⟨W, hW⟩ : ∃ W, W = (w.alloc (.cells #[.int .i64 3, .int .i64 m, .string s] 23)).alloc (.cells #[.int .u8 3] 5) := ⟨_, rfl⟩
    have hz2 : W.heap.size = w.heap.size + 1 + 1 := by rw [hW]; simp
    have HB : Hid (Below w.heap.size w W) := by rw [hW]; exact ((Below.refl _ w).alloc (Nat.le_refl _) _).alloc (by simp) _
    have HH : Hid (Has W w.heap.size 23 #[.int .i64 3, .int .i64 m, .string s]) := by rw [hW]; exact (Has.new w _ _).alloc _
    have HR : Hid (Rd W (some ⟨w.heap.size + 1, 0, none⟩) [3]) := by
      rw [hW]
      have := one_rd (w.alloc (.cells #[.int .i64 3, .int .i64 m, .string s] 23)) 3 5
      rwa [show (w.alloc (.cells #[.int .i64 3, .int .i64 m, .string s] 23)).heap.size = w.heap.size + 1 by simp] at this
    have HS := Lib.hid (Text_any (some ⟨w.heap.size + 1, 0, none⟩) [3] 1 s W (by simp) HR.out (by simp) (by omega))
    have d1 := HH.out.cell 1
    have d2 := HH.out.cell 2
    simp at d1 d2
    go_enter Tryd.func21, Tryd.ntmps21
    go_wp2_with fail
    rw [← hW]
    refine HS.out.mono ?_
    intro e w1 ho
    obtain ⟨A2, n2, c2, rfl, HN2, hc2, HR2, HB1⟩ := ho.open_
    have HBB := Lib.hid (HB.out.trans (HB1.out.mono HB.out.size))
    obtain ⟨b2, o2, rfl, _⟩ := HR2.out (by simp)
    have hn2 : n2 ≤ 300 := by have := HN2.out; simp at this; unfold txt at htx; simp at htx; omega
    have HC := Lib.hid (two_any w1 w HBB.out A (some ⟨b2, o2, none⟩) l _ n c n2 c2 HN.out HN2.out ((HA.out.below HB.out).below HB1.out) HR2.out HZ.out (fun e => by cases e) (by omega))
    clear ho HB1 hW
    go_wp2_with fail
    refine HC.out.mono ?_
    rintro e w2 ⟨v, rfl, HO, HB2⟩
    go_wp2_with fail
    go_ret
    exact ⟨v, rfl, HO, HB2⟩
  · obtain ⟨W, hW⟩ : ∃ W, W = (w.alloc (.cells #[.int .i64 4, .int .i64 m, .string s] 23)).alloc (.cells #[.int .u8 4] 5) := ⟨_, rfl⟩
    have hz2 : W.heap.size = w.heap.size + 1 + 1 := by rw [hW]; simp
    have HB : Hid (Below w.heap.size w W) := by rw [hW]; exact ((Below.refl _ w).alloc (Nat.le_refl _) _).alloc (by simp) _
    have HH : Hid (Has W w.heap.size 23 #[.int .i64 4, .int .i64 m, .string s]) := by rw [hW]; exact (Has.new w _ _).alloc _
    have HR : Hid (Rd W (some ⟨w.heap.size + 1, 0, none⟩) [4]) := by
      rw [hW]
      have := one_rd (w.alloc (.cells #[.int .i64 4, .int .i64 m, .string s] 23)) 4 5
      rwa [show (w.alloc (.cells #[.int .i64 4, .int .i64 m, .string s] 23)).heap.size = w.heap.size + 1 by simp] at this
    have HS := Lib.hid (Text_any (some ⟨w.heap.size + 1, 0, none⟩) [4] 1 s W (by simp) HR.out (by simp) (by omega))
    have d1 := HH.out.cell 1
    have d2 := HH.out.cell 2
    simp at d1 d2
    go_enter Tryd.func21, Tryd.ntmps21
    go_wp2_with fail
    rw [← hW]
    refine HS.out.mono ?_
    intro e w1 ho
    obtain ⟨A2, n2, c2, rfl, HN2, hc2, HR2, HB1⟩ := ho.open_
    have HBB := Lib.hid (HB.out.trans (HB1.out.mono HB.out.size))
    obtain ⟨b2, o2, rfl, _⟩ := HR2.out (by simp)
    have hn2 : n2 ≤ 300 := by have := HN2.out; simp at this; unfold txt at htx; simp at htx; omega
    have HC := Lib.hid (two_any w1 w HBB.out A (some ⟨b2, o2, none⟩) l _ n c n2 c2 HN.out HN2.out ((HA.out.below HB.out).below HB1.out) HR2.out HZ.out (fun e => by cases e) (by omega))
    clear ho HB1 hW
    go_wp2_with fail
    refine HC.out.mono ?_
    rintro e w2 ⟨v, rfl, HO, HB2⟩
    go_wp2_with fail
    go_ret
    exact ⟨v, rfl, HO, HB2⟩
theorem own_lit {B g : Nat} {w : World} {ds : List Nat} (h : Has w g 5 (ds.map bv).toArray) (hB : B ≤ g) (hl : ds.length ≤ 1000) (hp : 0 < ds.length) : Own B w (.slice (some ⟨g, 0, none⟩) ds.length ds.length) ds := by
  refine ⟨by simp, .inr ⟨g, ds.length, (ds.map bv).toArray, rfl, hB, h, Nat.le_refl _, by unfold maxLen; omega, by simp, ?_⟩⟩
  simp only
  rw [List.take_of_length_le (by simp)]
set_option maxHeartbeats 4000000 in
theorem refWrite_any (k m : Int) (s : ByteArray) (w : World) (hk : k = 0 ∨ k = 1 ∨ k = 2 ∨ k = 3 ∨ k = 4) (hs : s.size ≤ 200) (h0 : -9223372036854775808 ≤ m) (h1 : m ≤ 9223372036854775807) :
    Calls Tryd.prog 22 #[.agg #[.int .i64 k, .int .i64 m, .string s]] w fun e w' => ∃ v, e = .returned v ∧ Hid (Own w.heap.size w' v (wrV k m s)) ∧ Hid (Below w.heap.size w w') := by
  have hdg := digs_le_ten (zig m) (zig_lt m h0 h1)
  have htx := txt_le s hs
  rcases hk with rfl | rfl | rfl | rfl | rfl
  · obtain ⟨W, hW⟩ : ∃ W, W = (w.alloc (.cells #[.int .i64 0, .int .i64 m, .string s] 23)).alloc (.cells #[.int .u8 0] 5) := ⟨_, rfl⟩
    have hz2 : W.heap.size = w.heap.size + 1 + 1 := by rw [hW]; simp
    have HB : Hid (Below w.heap.size w W) := by rw [hW]; exact ((Below.refl _ w).alloc (Nat.le_refl _) _).alloc (by simp) _
    have HH : Hid (Has W w.heap.size 23 #[.int .i64 0, .int .i64 m, .string s]) := by rw [hW]; exact (Has.new w _ _).alloc _
    have HR : Hid (Rd W (some ⟨w.heap.size + 1, 0, none⟩) [0]) := by
      rw [hW]
      have := one_rd (w.alloc (.cells #[.int .i64 0, .int .i64 m, .string s] 23)) 0 5
      rwa [show (w.alloc (.cells #[.int .i64 0, .int .i64 m, .string s] 23)).heap.size = w.heap.size + 1 by simp] at this
    have HO0 : Hid (Own w.heap.size W (.slice (some ⟨w.heap.size + 1, 0, none⟩) 1 1) [0]) := by
      have hh : Has W (w.heap.size + 1) 5 (([0] : List Nat).map bv).toArray := by
        rw [hW]
        have := Has.new (w.alloc (.cells #[.int .i64 0, .int .i64 m, .string s] 23)) 5 (([0] : List Nat).map bv).toArray
        rwa [show (w.alloc (.cells #[.int .i64 0, .int .i64 m, .string s] 23)).heap.size = w.heap.size + 1 by simp] at this
      exact own_lit hh (by omega) (by simp) (by simp)
    have d1 := HH.out.cell 1
    have d2 := HH.out.cell 2
    simp at d1 d2
    go_enter Tryd.func22, Tryd.ntmps22
    go_wp2_with fail
    go_ret
    rw [← hW]
    exact ⟨_, rfl, HO0, HB⟩
  · obtain ⟨W, hW⟩ : ∃ W, W = (w.alloc (.cells #[.int .i64 1, .int .i64 m, .string s] 23)).alloc (.cells #[.int .u8 1] 5) := ⟨_, rfl⟩
    have hz2 : W.heap.size = w.heap.size + 1 + 1 := by rw [hW]; simp
    have HB : Hid (Below w.heap.size w W) := by rw [hW]; exact ((Below.refl _ w).alloc (Nat.le_refl _) _).alloc (by simp) _
    have HH : Hid (Has W w.heap.size 23 #[.int .i64 1, .int .i64 m, .string s]) := by rw [hW]; exact (Has.new w _ _).alloc _
    have HR : Hid (Rd W (some ⟨w.heap.size + 1, 0, none⟩) [1]) := by
      rw [hW]
      have := one_rd (w.alloc (.cells #[.int .i64 1, .int .i64 m, .string s] 23)) 1 5
      rwa [show (w.alloc (.cells #[.int .i64 1, .int .i64 m, .string s] 23)).heap.size = w.heap.size + 1 by simp] at this
    have HO0 : Hid (Own w.heap.size W (.slice (some ⟨w.heap.size + 1, 0, none⟩) 1 1) [1]) := by
      have hh : Has W (w.heap.size + 1) 5 (([1] : List Nat).map bv).toArray := by
        rw [hW]
        have := Has.new (w.alloc (.cells #[.int .i64 1, .int .i64 m, .string s] 23)) 5 (([1] : List Nat).map bv).toArray
        rwa [show (w.alloc (.cells #[.int .i64 1, .int .i64 m, .string s] 23)).heap.size = w.heap.size + 1 by simp] at this
      exact own_lit hh (by omega) (by simp) (by simp)
    have d1 := HH.out.cell 1
    have d2 := HH.out.cell 2
    simp at d1 d2
    have HS := Lib.hid (refSigned_any m W h0 h1)
    go_enter Tryd.func22, Tryd.ntmps22
    go_wp2_with fail
    rw [← hW]
    refine HS.out.mono ?_
    rintro e w1 ⟨v, rfl, ho, hb1⟩
    have HB1 := Lib.hid hb1
    have HBB := Lib.hid (HB.out.trans (hb1.mono HB.out.size))
    have HO1 := Lib.hid (HO0.out.below hb1)
    obtain ⟨A2, c2, rfl, hc2, hr2⟩ := own_full ho
    generalize hbd : digs (zig m) = bd at *
    have hbp : bd ≠ [] := by
      rw [← hbd]
      intro e
      have := digs_pos (zig m)
      rw [e] at this
      simp at this
    have hbl : bd.length ≤ 300 := by omega
    obtain ⟨b2, o2, rfl, _⟩ := hr2 hbp
    have HR2 := Lib.hid hr2
    have HBD : Hid (wrV 1 m s = [1] ++ bd) := by show _ = _; rw [← hbd]; rfl
    have HA := Lib.hid (own_app w1 w.heap.size (.slice (some ⟨w.heap.size + 1, 0, none⟩) 1 1) [1] HO1.out HBB.out.size (some ⟨b2, o2, none⟩) bd bd.length c2 rfl hr2 (by simp; omega) (fun e => by cases e))
    clear ho hr2 hb1 hbd hbp hW
    go_wp2_with (at_builtin; refine wpList_app rfl _ _ 39 39 rfl (.slice (some ⟨w.heap.size + 1, 0, none⟩) 1 1) (.slice (some ⟨b2, o2, none⟩) bd.length c2) rfl rfl ?_; obtain ⟨R, W', hrun, hmade⟩ := HA.out; refine ⟨R, W', hrun, ?_⟩; have HM := Lib.hid hmade; clear hrun hmade HA)
    go_ret
    exact ⟨R, rfl, by rw [HBD.out]; exact HM.out.1, HBB.out.trans HM.out.2⟩
  · obtain ⟨W, hW⟩ : ∃ W, W = (w.alloc (.cells #[.int .i64 2, .int .i64 m, .string s] 23)).alloc (.cells #[.int .u8 2] 5) := ⟨_, rfl⟩
    have hz2 : W.heap.size = w.heap.size + 1 + 1 := by rw [hW]; simp
    have HB : Hid (Below w.heap.size w W) := by rw [hW]; exact ((Below.refl _ w).alloc (Nat.le_refl _) _).alloc (by simp) _
    have HH : Hid (Has W w.heap.size 23 #[.int .i64 2, .int .i64 m, .string s]) := by rw [hW]; exact (Has.new w _ _).alloc _
    have HR : Hid (Rd W (some ⟨w.heap.size + 1, 0, none⟩) [2]) := by
      rw [hW]
      have := one_rd (w.alloc (.cells #[.int .i64 2, .int .i64 m, .string s] 23)) 2 5
      rwa [show (w.alloc (.cells #[.int .i64 2, .int .i64 m, .string s] 23)).heap.size = w.heap.size + 1 by simp] at this
    have HO0 : Hid (Own w.heap.size W (.slice (some ⟨w.heap.size + 1, 0, none⟩) 1 1) [2]) := by
      have hh : Has W (w.heap.size + 1) 5 (([2] : List Nat).map bv).toArray := by
        rw [hW]
        have := Has.new (w.alloc (.cells #[.int .i64 2, .int .i64 m, .string s] 23)) 5 (([2] : List Nat).map bv).toArray
        rwa [show (w.alloc (.cells #[.int .i64 2, .int .i64 m, .string s] 23)).heap.size = w.heap.size + 1 by simp] at this
      exact own_lit hh (by omega) (by simp) (by simp)
    have d1 := HH.out.cell 1
    have d2 := HH.out.cell 2
    simp at d1 d2
    have HS := Lib.hid (refSigned_any m W h0 h1)
    go_enter Tryd.func22, Tryd.ntmps22
    go_wp2_with fail
    rw [← hW]
    refine HS.out.mono ?_
    rintro e w1 ⟨v, rfl, ho, hb1⟩
    have HB1 := Lib.hid hb1
    have HBB := Lib.hid (HB.out.trans (hb1.mono HB.out.size))
    have HO1 := Lib.hid (HO0.out.below hb1)
    obtain ⟨A2, c2, rfl, hc2, hr2⟩ := own_full ho
    generalize hbd : digs (zig m) = bd at *
    have hbp : bd ≠ [] := by
      rw [← hbd]
      intro e
      have := digs_pos (zig m)
      rw [e] at this
      simp at this
    have hbl : bd.length ≤ 300 := by omega
    obtain ⟨b2, o2, rfl, _⟩ := hr2 hbp
    have HR2 := Lib.hid hr2
    have HBD : Hid (wrV 2 m s = [2] ++ bd) := by show _ = _; rw [← hbd]; rfl
    have HA := Lib.hid (own_app w1 w.heap.size (.slice (some ⟨w.heap.size + 1, 0, none⟩) 1 1) [2] HO1.out HBB.out.size (some ⟨b2, o2, none⟩) bd bd.length c2 rfl hr2 (by simp; omega) (fun e => by cases e))
    clear ho hr2 hb1 hbd hbp hW
    go_wp2_with (at_builtin; refine wpList_app rfl _ _ 39 39 rfl (.slice (some ⟨w.heap.size + 1, 0, none⟩) 1 1) (.slice (some ⟨b2, o2, none⟩) bd.length c2) rfl rfl ?_; obtain ⟨R, W', hrun, hmade⟩ := HA.out; refine ⟨R, W', hrun, ?_⟩; have HM := Lib.hid hmade; clear hrun hmade HA)
    go_ret
    exact ⟨R, rfl, by rw [HBD.out]; exact HM.out.1, HBB.out.trans HM.out.2⟩
  · obtain ⟨W, hW⟩ : ∃ W, W = (w.alloc (.cells #[.int .i64 3, .int .i64 m, .string s] 23)).alloc (.cells #[.int .u8 3] 5) := ⟨_, rfl⟩
    have hz2 : W.heap.size = w.heap.size + 1 + 1 := by rw [hW]; simp
    have HB : Hid (Below w.heap.size w W) := by rw [hW]; exact ((Below.refl _ w).alloc (Nat.le_refl _) _).alloc (by simp) _
    have HH : Hid (Has W w.heap.size 23 #[.int .i64 3, .int .i64 m, .string s]) := by rw [hW]; exact (Has.new w _ _).alloc _
    have HR : Hid (Rd W (some ⟨w.heap.size + 1, 0, none⟩) [3]) := by
      rw [hW]
      have := one_rd (w.alloc (.cells #[.int .i64 3, .int .i64 m, .string s] 23)) 3 5
      rwa [show (w.alloc (.cells #[.int .i64 3, .int .i64 m, .string s] 23)).heap.size = w.heap.size + 1 by simp] at this
    have HO0 : Hid (Own w.heap.size W (.slice (some ⟨w.heap.size + 1, 0, none⟩) 1 1) [3]) := by
      have hh : Has W (w.heap.size + 1) 5 (([3] : List Nat).map bv).toArray := by
        rw [hW]
        have := Has.new (w.alloc (.cells #[.int .i64 3, .int .i64 m, .string s] 23)) 5 (([3] : List Nat).map bv).toArray
        rwa [show (w.alloc (.cells #[.int .i64 3, .int .i64 m, .string s] 23)).heap.size = w.heap.size + 1 by simp] at this
      exact own_lit hh (by omega) (by simp) (by simp)
    have d1 := HH.out.cell 1
    have d2 := HH.out.cell 2
    simp at d1 d2
    have HS := Lib.hid (refText_any s W (by omega))
    go_enter Tryd.func22, Tryd.ntmps22
    go_wp2_with fail
    rw [← hW]
    refine HS.out.mono ?_
    rintro e w1 ⟨v, rfl, ho, hb1⟩
    have HB1 := Lib.hid hb1
    have HBB := Lib.hid (HB.out.trans (hb1.mono HB.out.size))
    have HO1 := Lib.hid (HO0.out.below hb1)
    obtain ⟨A2, c2, rfl, hc2, hr2⟩ := own_full ho
    generalize hbd : txt s = bd at *
    have hbp : bd ≠ [] := by
      rw [← hbd]
      intro e
      have := txt_pos s
      rw [e] at this
      simp at this
    have hbl : bd.length ≤ 300 := by omega
    obtain ⟨b2, o2, rfl, _⟩ := hr2 hbp
    have HR2 := Lib.hid hr2
    have HBD : Hid (wrV 3 m s = [3] ++ bd) := by show _ = _; rw [← hbd]; rfl
    have HA := Lib.hid (own_app w1 w.heap.size (.slice (some ⟨w.heap.size + 1, 0, none⟩) 1 1) [3] HO1.out HBB.out.size (some ⟨b2, o2, none⟩) bd bd.length c2 rfl hr2 (by simp; omega) (fun e => by cases e))
    clear ho hr2 hb1 hbd hbp hW
    go_wp2_with (at_builtin; refine wpList_app rfl _ _ 39 39 rfl (.slice (some ⟨w.heap.size + 1, 0, none⟩) 1 1) (.slice (some ⟨b2, o2, none⟩) bd.length c2) rfl rfl ?_; obtain ⟨R, W', hrun, hmade⟩ := HA.out; refine ⟨R, W', hrun, ?_⟩; have HM := Lib.hid hmade; clear hrun hmade HA)
    go_ret
    exact ⟨R, rfl, by rw [HBD.out]; exact HM.out.1, HBB.out.trans HM.out.2⟩
  · obtain ⟨W, hW⟩ : ∃ W, W = (w.alloc (.cells #[.int .i64 4, .int .i64 m, .string s] 23)).alloc (.cells #[.int .u8 4] 5) := ⟨_, rfl⟩
    have hz2 : W.heap.size = w.heap.size + 1 + 1 := by rw [hW]; simp
    have HB : Hid (Below w.heap.size w W) := by rw [hW]; exact ((Below.refl _ w).alloc (Nat.le_refl _) _).alloc (by simp) _
    have HH : Hid (Has W w.heap.size 23 #[.int .i64 4, .int .i64 m, .string s]) := by rw [hW]; exact (Has.new w _ _).alloc _
    have HR : Hid (Rd W (some ⟨w.heap.size + 1, 0, none⟩) [4]) := by
      rw [hW]
      have := one_rd (w.alloc (.cells #[.int .i64 4, .int .i64 m, .string s] 23)) 4 5
      rwa [show (w.alloc (.cells #[.int .i64 4, .int .i64 m, .string s] 23)).heap.size = w.heap.size + 1 by simp] at this
    have HO0 : Hid (Own w.heap.size W (.slice (some ⟨w.heap.size + 1, 0, none⟩) 1 1) [4]) := by
      have hh : Has W (w.heap.size + 1) 5 (([4] : List Nat).map bv).toArray := by
        rw [hW]
        have := Has.new (w.alloc (.cells #[.int .i64 4, .int .i64 m, .string s] 23)) 5 (([4] : List Nat).map bv).toArray
        rwa [show (w.alloc (.cells #[.int .i64 4, .int .i64 m, .string s] 23)).heap.size = w.heap.size + 1 by simp] at this
      exact own_lit hh (by omega) (by simp) (by simp)
    have d1 := HH.out.cell 1
    have d2 := HH.out.cell 2
    simp at d1 d2
    have HS := Lib.hid (refText_any s W (by omega))
    go_enter Tryd.func22, Tryd.ntmps22
    go_wp2_with fail
    rw [← hW]
    refine HS.out.mono ?_
    rintro e w1 ⟨v, rfl, ho, hb1⟩
    have HB1 := Lib.hid hb1
    have HBB := Lib.hid (HB.out.trans (hb1.mono HB.out.size))
    have HO1 := Lib.hid (HO0.out.below hb1)
    obtain ⟨A2, c2, rfl, hc2, hr2⟩ := own_full ho
    generalize hbd : txt s = bd at *
    have hbp : bd ≠ [] := by
      rw [← hbd]
      intro e
      have := txt_pos s
      rw [e] at this
      simp at this
    have hbl : bd.length ≤ 300 := by omega
    obtain ⟨b2, o2, rfl, _⟩ := hr2 hbp
    have HR2 := Lib.hid hr2
    have HBD : Hid (wrV 4 m s = [4] ++ bd) := by show _ = _; rw [← hbd]; rfl
    have HA := Lib.hid (own_app w1 w.heap.size (.slice (some ⟨w.heap.size + 1, 0, none⟩) 1 1) [4] HO1.out HBB.out.size (some ⟨b2, o2, none⟩) bd bd.length c2 rfl hr2 (by simp; omega) (fun e => by cases e))
    clear ho hr2 hb1 hbd hbp hW
    go_wp2_with (at_builtin; refine wpList_app rfl _ _ 39 39 rfl (.slice (some ⟨w.heap.size + 1, 0, none⟩) 1 1) (.slice (some ⟨b2, o2, none⟩) bd.length c2) rfl rfl ?_; obtain ⟨R, W', hrun, hmade⟩ := HA.out; refine ⟨R, W', hrun, ?_⟩; have HM := Lib.hid hmade; clear hrun hmade HA)
    go_ret
    exact ⟨R, rfl, by rw [HBD.out]; exact HM.out.1, HBB.out.trans HM.out.2⟩
end Go.Proofs.YtlkhijccjjpbbaaDoor
