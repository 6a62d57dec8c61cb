/-
  The law's event whose number is not below 0; lengths behind a Put.
-/
import Derived.Test.YtjkmbggaoinkdaaTbL
namespace Go.Proofs.Ytjkmbggaoinkdaa
open Go.RowKit Go.Maps Dg
set_option maxRecDepth 100000
set_option linter.unusedVariables false
/-- An event, its number not below 0. -/
def rgt (r : Er) : Er := ⟨⟨r.x.k, if r.x.n < 0 then -(r.x.n + 1) else r.x.n, r.x.t, r.x.B, r.x.A, r.x.ck, r.x.ct, r.x.L, r.x.K, r.x.cl⟩, r.Ab, r.nb, r.zb, r.Aa, r.na, r.za, r.A, r.n, r.c⟩
theorem rgt_ok {w : World} {r : Er} (h : r.ok w) : (rgt r).ok w := ⟨h.b, h.a, h.c⟩
theorem rgt_n {r : Er} (h : -9223372036854775808 ≤ r.x.n ∧ r.x.n ≤ 9223372036854775807) : 0 ≤ (rgt r).x.n ∧ (rgt r).x.n ≤ 9223372036854775807 := by
  unfold rgt
  dsimp only
  split <;> omega
theorem putF_len (lim num : Int) (E : List Ev) (x : Ev) : (putF lim num E x).2.1.length ≤ E.length + 1 := by
  unfold putF
  repeat' split
  all_goals simp
theorem rEnd (w' : World) (g : Nat) (u0 u1 u2 u3 u4 u5 u6 u7 u8 u9 u10 u11 : Value) (tmps : Array Value) (hp : tmps.getD 2 undef = .pointer (some ⟨g, 0, none⟩)) (hh : Has w' g 38 #[u0, u1, u2, u3, u4, u5, u6, u7, u8, u9, u10, u11]) :
    (results Try.f10 tmps).run Try.prog w' = .ok (.agg #[u0, u1, u2, u3, u4, u5, u6, u7, u8, u9, u10, u11]) w' :=
  results_cell_row rfl _ _ g 38 #[u0, u1, u2, u3, u4, u5, u6, u7, u8, u9, u10, u11] (0, 0) _ hp hh Try.underlying38 rfl (by kernel_rfl)
set_option maxHeartbeats 4000000 in
theorem right_any (r : Er) (w : World) (hn : -9223372036854775808 ≤ r.x.n ∧ r.x.n ≤ 9223372036854775807) :
    Calls Try.prog 10 #[r.val] w fun e w' => e = .returned (rgt r).val ∧ Hid (Below w.heap.size w w') := by
  obtain ⟨⟨k, m, t, B, AA, ck, ct, L, K, ⟨cn, cq, cb⟩⟩, Ab, nb, zb, Aa, na, za, A, n, c⟩ := r
  unfold Er.val rgt
  dsimp only at hn ⊢
  obtain ⟨w1, hw1⟩ : ∃ W, W = (w.alloc (.cells #[.int .i64 k, .int .i64 m, .string t, .slice Ab nb zb, .slice Aa na za, .int .i64 ck, .string ct, .slice A n c, .int .i64 K, .string cn, .int .i64 cq, .bool cb] 38)).alloc (.cells #[.int .i64 0, .int .i64 0, .string ⟨#[]⟩, .slice none 0 0, .slice none 0 0, .int .i64 0, .string ⟨#[]⟩, .slice none 0 0, .int .i64 0, .string ⟨#[]⟩, .int .i64 0, .bool false] 38) := ⟨_, rfl⟩
  have HB : Hid (Below w.heap.size w w1) := by rw [hw1]; exact ((Below.refl w.heap.size w).alloc (Nat.le_refl _) (.cells #[.int .i64 k, .int .i64 m, .string t, .slice Ab nb zb, .slice Aa na za, .int .i64 ck, .string ct, .slice A n c, .int .i64 K, .string cn, .int .i64 cq, .bool cb] 38)).alloc (by simp) _
  have HE : Hid (Has w1 w.heap.size 38 #[.int .i64 k, .int .i64 m, .string t, .slice Ab nb zb, .slice Aa na za, .int .i64 ck, .string ct, .slice A n c, .int .i64 K, .string cn, .int .i64 cq, .bool cb]) := by rw [hw1]; exact (Has.new _ _ _).alloc _
  have hr := Has.new (w.alloc (.cells #[.int .i64 k, .int .i64 m, .string t, .slice Ab nb zb, .slice Aa na za, .int .i64 ck, .string ct, .slice A n c, .int .i64 K, .string cn, .int .i64 cq, .bool cb] 38)) 38 #[.int .i64 0, .int .i64 0, .string ⟨#[]⟩, .slice none 0 0, .slice none 0 0, .int .i64 0, .string ⟨#[]⟩, .slice none 0 0, .int .i64 0, .string ⟨#[]⟩, .int .i64 0, .bool false]
  rw [show (w.alloc (.cells #[.int .i64 k, .int .i64 m, .string t, .slice Ab nb zb, .slice Aa na za, .int .i64 ck, .string ct, .slice A n c, .int .i64 K, .string cn, .int .i64 cq, .bool cb] 38)).heap.size = w.heap.size + 1 by simp, ← hw1] at hr
  have HR := Lib.hid hr
  replace hw1 : (w.alloc (.cells #[.int .i64 k, .int .i64 m, .string t, .slice Ab nb zb, .slice Aa na za, .int .i64 ck, .string ct, .slice A n c, .int .i64 K, .string cn, .int .i64 cq, .bool cb] 38)).alloc (.cells #[.int .i64 0, .int .i64 0, .string ⟨#[]⟩, .slice none 0 0, .slice none 0 0, .int .i64 0, .string ⟨#[]⟩, .slice none 0 0, .int .i64 0, .string ⟨#[]⟩, .int .i64 0, .bool false] 38) = w1 := hw1.symm
  clear hr
  have y1 : w1.cell? ⟨w.heap.size, 1, none⟩ = some (.int .i64 m) := HE.out.cell 1
  have f1 := HE.out.free 1
  by_cases hm : m < 0
  · rw [if_pos hm]
    have HE6 : Hid (Has (w1.setCell ⟨w.heap.size, 1, none⟩ (.int .i64 (-(m + 1)))) w.heap.size 38 #[.int .i64 k, .int .i64 (-(m + 1)), .string t, .slice Ab nb zb, .slice Aa na za, .int .i64 ck, .string ct, .slice A n c, .int .i64 K, .string cn, .int .i64 cq, .bool cb]) := HE.out.put 1 _
    have HR6 := Lib.hid (HR.out.far (p := ⟨w.heap.size, 1, none⟩) (by show w.heap.size + 1 ≠ w.heap.size; omega) (.int .i64 (-(m + 1))))
    have HB6 := Lib.hid (HB.out.setCell (p := ⟨w.heap.size, 1, none⟩) (Nat.le_refl _) (.int .i64 (-(m + 1))))
    obtain ⟨w6, hw6⟩ : ∃ W, w1.setCell ⟨w.heap.size, 1, none⟩ (.int .i64 (-(m + 1))) = W := ⟨_, rfl⟩
    rw [hw6] at HE6 HR6 HB6
    go_enter Try.func10, Try.ntmps10
    have HW := HR6.out.lt
    have u0 := HE6.out.cell 0
    have u1 := HE6.out.cell 1
    have u2 := HE6.out.cell 2
    have u3 := HE6.out.cell 3
    have u4 := HE6.out.cell 4
    have u5 := HE6.out.cell 5
    have u6 := HE6.out.cell 6
    have u7 := HE6.out.cell 7
    have u8 := HE6.out.cell 8
    have u9 := HE6.out.cell 9
    have u10 := HE6.out.cell 10
    have u11 := HE6.out.cell 11
    have v0 := HR6.out.cell 0
    have g0 := HR6.out.free 0
    have v1 := HR6.out.cell 1
    have g1 := HR6.out.free 1
    have v2 := HR6.out.cell 2
    have g2 := HR6.out.free 2
    have v3 := HR6.out.cell 3
    have g3 := HR6.out.free 3
    have v4 := HR6.out.cell 4
    have g4 := HR6.out.free 4
    have v5 := HR6.out.cell 5
    have g5 := HR6.out.free 5
    have v6 := HR6.out.cell 6
    have g6 := HR6.out.free 6
    have v7 := HR6.out.cell 7
    have g7 := HR6.out.free 7
    have v8 := HR6.out.cell 8
    have g8 := HR6.out.free 8
    have v9 := HR6.out.cell 9
    have g9 := HR6.out.free 9
    have v10 := HR6.out.cell 10
    have g10 := HR6.out.free 10
    have v11 := HR6.out.cell 11
    have g11 := HR6.out.free 11
    simp only [List.getElem?_toArray, List.getElem?_cons_zero, List.getElem?_cons_succ] at u0 v0 u1 v1 u2 v2 u3 v3 u4 v4 u5 v5 u6 v6 u7 v7 u8 v8 u9 v9 u10 v10 u11 v11
    go_wp2_with fail
    have HF : Hid (Has (put12 w6 (w.heap.size + 1) (.int .i64 k) (.int .i64 (-(m + 1))) (.string t) (.slice Ab nb zb) (.slice Aa na za) (.int .i64 ck) (.string ct) (.slice A n c) (.int .i64 K) (.string cn) (.int .i64 cq) (.bool cb)) (w.heap.size + 1) 38 #[.int .i64 k, .int .i64 (-(m + 1)), .string t, .slice Ab nb zb, .slice Aa na za, .int .i64 ck, .string ct, .slice A n c, .int .i64 K, .string cn, .int .i64 cq, .bool cb]) := put12_has HR6.out (.int .i64 k) (.int .i64 (-(m + 1))) (.string t) (.slice Ab nb zb) (.slice Aa na za) (.int .i64 ck) (.string ct) (.slice A n c) (.int .i64 K) (.string cn) (.int .i64 cq) (.bool cb)
    have ht : Tur [w.heap.size + 1] w6 (put12 w6 (w.heap.size + 1) (.int .i64 k) (.int .i64 (-(m + 1))) (.string t) (.slice Ab nb zb) (.slice Aa na za) (.int .i64 ck) (.string ct) (.slice A n c) (.int .i64 K) (.string cn) (.int .i64 cq) (.bool cb)) := put12_tur _ _ (.int .i64 k) (.int .i64 (-(m + 1))) (.string t) (.slice Ab nb zb) (.slice Aa na za) (.int .i64 ck) (.string ct) (.slice A n c) (.int .i64 K) (.string cn) (.int .i64 cq) (.bool cb)
    have hbe : Below w.heap.size w (put12 w6 (w.heap.size + 1) (.int .i64 k) (.int .i64 (-(m + 1))) (.string t) (.slice Ab nb zb) (.slice Aa na za) (.int .i64 ck) (.string ct) (.slice A n c) (.int .i64 K) (.string cn) (.int .i64 cq) (.bool cb)) := (Tur.of_below HB6.out).trans ht (fun x hx => .inr (by simp at hx; omega)) |>.below (X := []) (fun _ h => (by cases h)) (Nat.le_refl _)
    refine bodyPost_ret (v := .agg #[.int .i64 k, .int .i64 (-(m + 1)), .string t, .slice Ab nb zb, .slice Aa na za, .int .i64 ck, .string ct, .slice A n c, .int .i64 K, .string cn, .int .i64 cq, .bool cb]) (rEnd (put12 w6 (w.heap.size + 1) (.int .i64 k) (.int .i64 (-(m + 1))) (.string t) (.slice Ab nb zb) (.slice Aa na za) (.int .i64 ck) (.string ct) (.slice A n c) (.int .i64 K) (.string cn) (.int .i64 cq) (.bool cb)) (w.heap.size + 1) (.int .i64 k) (.int .i64 (-(m + 1))) (.string t) (.slice Ab nb zb) (.slice Aa na za) (.int .i64 ck) (.string ct) (.slice A n c) (.int .i64 K) (.string cn) (.int .i64 cq) (.bool cb) _ rfl HF.out) rfl ⟨rfl, hbe⟩
  · rw [if_neg hm]
    go_enter Try.func10, Try.ntmps10
    have HW := HR.out.lt
    have u0 := HE.out.cell 0
    have u1 := HE.out.cell 1
    have u2 := HE.out.cell 2
    have u3 := HE.out.cell 3
    have u4 := HE.out.cell 4
    have u5 := HE.out.cell 5
    have u6 := HE.out.cell 6
    have u7 := HE.out.cell 7
    have u8 := HE.out.cell 8
    have u9 := HE.out.cell 9
    have u10 := HE.out.cell 10
    have u11 := HE.out.cell 11
    have v0 := HR.out.cell 0
    have g0 := HR.out.free 0
    have v1 := HR.out.cell 1
    have g1 := HR.out.free 1
    have v2 := HR.out.cell 2
    have g2 := HR.out.free 2
    have v3 := HR.out.cell 3
    have g3 := HR.out.free 3
    have v4 := HR.out.cell 4
    have g4 := HR.out.free 4
    have v5 := HR.out.cell 5
    have g5 := HR.out.free 5
    have v6 := HR.out.cell 6
    have g6 := HR.out.free 6
    have v7 := HR.out.cell 7
    have g7 := HR.out.free 7
    have v8 := HR.out.cell 8
    have g8 := HR.out.free 8
    have v9 := HR.out.cell 9
    have g9 := HR.out.free 9
    have v10 := HR.out.cell 10
    have g10 := HR.out.free 10
    have v11 := HR.out.cell 11
    have g11 := HR.out.free 11
    simp only [List.getElem?_toArray, List.getElem?_cons_zero, List.getElem?_cons_succ] at u0 v0 u1 v1 u2 v2 u3 v3 u4 v4 u5 v5 u6 v6 u7 v7 u8 v8 u9 v9 u10 v10 u11 v11
    go_wp2_with fail
    have HF : Hid (Has (put12 w1 (w.heap.size + 1) (.int .i64 k) (.int .i64 m) (.string t) (.slice Ab nb zb) (.slice Aa na za) (.int .i64 ck) (.string ct) (.slice A n c) (.int .i64 K) (.string cn) (.int .i64 cq) (.bool cb)) (w.heap.size + 1) 38 #[.int .i64 k, .int .i64 m, .string t, .slice Ab nb zb, .slice Aa na za, .int .i64 ck, .string ct, .slice A n c, .int .i64 K, .string cn, .int .i64 cq, .bool cb]) := put12_has HR.out (.int .i64 k) (.int .i64 m) (.string t) (.slice Ab nb zb) (.slice Aa na za) (.int .i64 ck) (.string ct) (.slice A n c) (.int .i64 K) (.string cn) (.int .i64 cq) (.bool cb)
    have ht : Tur [w.heap.size + 1] w1 (put12 w1 (w.heap.size + 1) (.int .i64 k) (.int .i64 m) (.string t) (.slice Ab nb zb) (.slice Aa na za) (.int .i64 ck) (.string ct) (.slice A n c) (.int .i64 K) (.string cn) (.int .i64 cq) (.bool cb)) := put12_tur _ _ (.int .i64 k) (.int .i64 m) (.string t) (.slice Ab nb zb) (.slice Aa na za) (.int .i64 ck) (.string ct) (.slice A n c) (.int .i64 K) (.string cn) (.int .i64 cq) (.bool cb)
    have hbe : Below w.heap.size w (put12 w1 (w.heap.size + 1) (.int .i64 k) (.int .i64 m) (.string t) (.slice Ab nb zb) (.slice Aa na za) (.int .i64 ck) (.string ct) (.slice A n c) (.int .i64 K) (.string cn) (.int .i64 cq) (.bool cb)) := (Tur.of_below HB.out).trans ht (fun x hx => .inr (by simp at hx; omega)) |>.below (X := []) (fun _ h => (by cases h)) (Nat.le_refl _)
    refine bodyPost_ret (v := .agg #[.int .i64 k, .int .i64 m, .string t, .slice Ab nb zb, .slice Aa na za, .int .i64 ck, .string ct, .slice A n c, .int .i64 K, .string cn, .int .i64 cq, .bool cb]) (rEnd (put12 w1 (w.heap.size + 1) (.int .i64 k) (.int .i64 m) (.string t) (.slice Ab nb zb) (.slice Aa na za) (.int .i64 ck) (.string ct) (.slice A n c) (.int .i64 K) (.string cn) (.int .i64 cq) (.bool cb)) (w.heap.size + 1) (.int .i64 k) (.int .i64 m) (.string t) (.slice Ab nb zb) (.slice Aa na za) (.int .i64 ck) (.string ct) (.slice A n c) (.int .i64 K) (.string cn) (.int .i64 cq) (.bool cb) _ rfl HF.out) rfl ⟨rfl, hbe⟩
end Go.Proofs.Ytjkmbggaoinkdaa
