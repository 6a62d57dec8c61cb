/-
  TxbufPlays: its walk.
-/
import Derived.Test.YtjkmbggaoinkdaaTbR
import Derived.Test.YtjkmbggaoinkdaaTbD
import Derived.Test.YtjkmbggaoinkdaaTbZ
namespace Go.Proofs.Ytjkmbggaoinkdaa.txbufPlays
open Go.RowKit Go.Maps Dg
set_option maxRecDepth 100000
set_option linter.unusedVariables false
/-- The document's buffer beside the program's: where it lies, and what it holds. -/
structure Both (w wr : World) (b rb : Nat) (lm num : Int) (E : List Ev) (F : List Nat) (Td : List Er) (A1 : Option Addr) (n1 c1 : Nat) (i : Nat) : Prop where
  few : E.length ≤ i
  numb : -1 ≤ num
  nil : num = -1 → Td = []
  same : Td.map Er.x = E
  buf : BufAt b wr lm num E F
  box : Has wr rb 26 #[.int .i64 lm, .int .i64 num, .slice A1 n1 c1]
  out : rb ∉ F
  len : Td.length = n1
  row : ERow wr A1 Td
  non : A1 = none → c1 = 0
  ok : ∀ r ∈ Td, r.ok w
  off : ∀ a, A1 = some a → a.block ∉ F ∧ a.block ≠ rb ∧ a.block < wr.heap.size
  bel : Below w.heap.size w wr
  low : w.heap.size ≤ b ∧ w.heap.size ≤ rb
theorem Both.lt {w wr : World} {b rb : Nat} {lm num : Int} {E : List Ev} {F : List Nat} {Td : List Er} {A1 : Option Addr} {n1 c1 i : Nat} (h : Both w wr b rb lm num E F Td A1 n1 c1 i) : rb < wr.heap.size := h.box.lt
/-- Blocks turn that are none of theirs. -/
theorem Both.tur {w wr w' : World} {b rb : Nat} {lm num : Int} {E : List Ev} {F Z : List Nat} {Td : List Er} {A1 : Option Addr} {n1 c1 i : Nat} (h : Both w wr b rb lm num E F Td A1 n1 c1 i) (ht : Tur Z wr w') (hz : ∀ z ∈ Z, wr.heap.size ≤ z) : Both w w' b rb lm num E F Td A1 n1 c1 i :=
  ⟨h.few, h.numb, h.nil, h.same, h.buf.tur ht (fun z h1 h2 => by have := hz z h1; have := h.buf.lt z h2; omega), h.box.tur ht (fun hh => by have := hz _ hh; have := h.lt; omega), h.out, h.len,
   h.row.tur ht (fun a e hh => by have := hz _ hh; have := (h.off a e).2.2; omega), h.non, h.ok, fun a e => ⟨(h.off a e).1, (h.off a e).2.1, Nat.lt_of_lt_of_le (h.off a e).2.2 ht.size⟩,
   h.bel.trans (ht.below (B := w.heap.size) (fun z h1 => by have := hz z h1; have := h.bel.size; omega) h.bel.size), h.low⟩
theorem Both.below {w wr w' : World} {b rb : Nat} {lm num : Int} {E : List Ev} {F : List Nat} {Td : List Er} {A1 : Option Addr} {n1 c1 i : Nat} (h : Both w wr b rb lm num E F Td A1 n1 c1 i) (hb : Below wr.heap.size wr w') : Both w w' b rb lm num E F Td A1 n1 c1 i :=
  h.tur (Z := []) (Tur.of_below hb) (fun z hz => by cases hz)
set_option maxHeartbeats 4000000 in
theorem walk (a : Int) (A : Option Addr) (n cap : Nat) (T : List Er) (w : World) (ha : -9223372036854775808 ≤ a ∧ a ≤ 9223372036854775807) (hn : T.length = n) (hnc : n ≤ cap) (hcm : cap ≤ maxLen) (hA : ERow w A T) (hT : ∀ r ∈ T, r.arg w) :
    Calls Try.prog 3 #[.int .i64 a, .slice A n cap] w fun e w' => e = .returned (.bool true) ∧ Below w.heap.size w w' := by
  have HER := Lib.hid hA
  have HTn := Lib.hid hn
  have HTA := Lib.hid hT
  unfold maxLen at hcm
  clear hA hn hT
  obtain ⟨lm, hlmx⟩ : ∃ lm, max a 1 = lm := ⟨_, rfl⟩
  have hlm1 : (1 : Int) ≤ lm := by omega
  have HN := Lib.hid (new_any a w)
  rw [hlmx] at HN
  have HB0 := Lib.hid (buf_new w lm)
  have HL0 := Lib.hid ((Below.refl w.heap.size w).alloc (Nat.le_refl _) (.cells #[.int .i64 lm, .int .i64 (-1), .slice none 0 0] 55))
  obtain ⟨w0, hw0⟩ : ∃ W, W = w.alloc (.cells #[.int .i64 lm, .int .i64 (-1), .slice none 0 0] 55) := ⟨_, rfl⟩
  rw [← hw0] at HN HB0 HL0
  clear hw0
  have HRN0 := Lib.hid (rnew_any a w0)
  rw [hlmx] at HRN0
  go_enter Try.func3, Try.ntmps3
  go_wp2_with fail
  refine HN.out.mono ?_
  rintro e w1 ⟨rfl, rfl⟩
  go_wp2_with fail
  refine HRN0.out.mono ?_
  rintro e w2 ⟨rfl, hb2⟩
  have K2 := Lib.hid (HB0.out.below hb2.out)
  have HL2 := Lib.hid (HL0.out.trans (hb2.out.mono HL0.out.size))
  obtain ⟨w3, hw3⟩ : ∃ W, W = w2.alloc (.cells #[.int .i64 0, .int .i64 0, .slice none 0 0] 26) := ⟨_, rfl⟩
  have HZ : Hid (Has w3 w2.heap.size 26 #[.int .i64 0, .int .i64 0, .slice none 0 0]) := by rw [hw3]; exact Has.new _ _ _
  have hb3 : Below w2.heap.size w2 w3 := by rw [hw3]; exact (Below.refl _ _).alloc (Nat.le_refl _) _
  replace hw3 : w2.alloc (.cells #[.int .i64 0, .int .i64 0, .slice none 0 0] 26) = w3 := hw3.symm
  have x0 := HZ.out.cell 0
  have x1 := HZ.out.cell 1
  have x2 := HZ.out.cell 2
  have y0 := HZ.out.free 0
  have y1 := HZ.out.free 1
  have y2 := HZ.out.free 2
  simp only [List.getElem?_toArray, List.getElem?_cons_zero, List.getElem?_cons_succ] at x0 x1 x2
  obtain ⟨rb, hrb⟩ : ∃ rb, w2.heap.size = rb := ⟨_, rfl⟩
  have ht := put3_tur w3 rb (.int .i64 lm) (.int .i64 (-1)) (.slice none 0 0)
  rw [hrb] at HZ hb3 x0 x1 x2 y0 y1 y2
  have hK2lt := K2.out.lt
  have htt : Tur [rb] w2 (put3 w3 rb (.int .i64 lm) (.int .i64 (-1)) (.slice none 0 0)) := (Tur.of_below (X := [rb]) (by rw [hrb]; exact hb3)).trans ht (Fre.refl _ _)
  have hwl : w.heap.size < rb := by have := K2.out.lt _ K2.out.has2; omega
  have HBO : Hid (Both w (put3 w3 rb (.int .i64 lm) (.int .i64 (-1)) (.slice none 0 0)) w.heap.size rb lm (-1) [] [w.heap.size] [] none 0 0 0) := ⟨Nat.zero_le _, by omega, fun _ => rfl, rfl, K2.out.tur htt (fun z h1 h2 => by simp at h1 h2; omega), put3_has HZ.out _ _ _, by simp; omega, rfl, ERow.nil _ _, fun _ => rfl, fun r hr => (by cases hr), fun a e => (by cases e), HL2.out.trans (htt.below (B := w.heap.size) (fun k hk => by simp at hk; omega) HL2.out.size), ⟨Nat.le_refl _, Nat.le_of_lt hwl⟩⟩
  clear ht htt hK2lt K2 HL2 HZ hb3 hb2 HN HRN0 HB0 HL0
  go_wp2_with fail
  go_loopw [7] (fun u7 wr => ∃ (i : Nat) (num : Int) (E : List Ev) (F : List Nat) (Td : List Er) (A1 : Option Addr) (n1 c1 : Nat), i ≤ 40 ∧ i ≤ n ∧ u7 = .int .i64 i ∧ Hid (Both w wr w.heap.size rb lm num E F Td A1 n1 c1 i)) (fun u7 _ => 40 - (intOf u7).toNat)
  case atStart => exact ⟨0, -1, [], _, [], none, 0, 0, by omega, by omega, rfl, HBO⟩
  case round =>
    obtain ⟨i, num, E, F, Td, A1, n1, c1, hi40, hin, rfl, HT⟩ := hrel
    clear HBO
    by_cases hc : i < n ∧ i < 40
    · obtain ⟨hi1, hi2⟩ := hc
      have g1 : (i : Int) < (n : Int) := by omega
      have g2 : (i : Int) < 40 := by omega
      have hiL : i < T.length := by rw [HTn.out]; exact hi1
      obtain ⟨eb, eo, rfl, hcj⟩ := (HER.out.below HT.out.bel) (by intro e; rw [e] at hiL; simp at hiL)
      have hq := fun j hj => hcj i hiL j hj
      obtain ⟨r, hr⟩ : ∃ r, T[i] = r := ⟨_, rfl⟩
      have HRA := Lib.hid (HTA.out r (hr ▸ List.getElem_mem hiL))
      rw [hr] at hq
      have d0 : wr.cell? ⟨eb, eo + i * 12, none⟩ = some (.int .i64 r.x.k) := hq 0 (by omega)
      have d1 : wr.cell? ⟨eb, eo + i * 12 + 1, none⟩ = some (.int .i64 r.x.n) := hq 1 (by omega)
      have d2 : wr.cell? ⟨eb, eo + i * 12 + 2, none⟩ = some (.string r.x.t) := hq 2 (by omega)
      have d3 : wr.cell? ⟨eb, eo + i * 12 + 3, none⟩ = some (.slice r.Ab r.nb r.zb) := hq 3 (by omega)
      have d4 : wr.cell? ⟨eb, eo + i * 12 + 4, none⟩ = some (.slice r.Aa r.na r.za) := hq 4 (by omega)
      have d5 : wr.cell? ⟨eb, eo + i * 12 + 5, none⟩ = some (.int .i64 r.x.ck) := hq 5 (by omega)
      have d6 : wr.cell? ⟨eb, eo + i * 12 + 6, none⟩ = some (.string r.x.ct) := hq 6 (by omega)
      have d7 : wr.cell? ⟨eb, eo + i * 12 + 7, none⟩ = some (.slice r.A r.n r.c) := hq 7 (by omega)
      have d8 : wr.cell? ⟨eb, eo + i * 12 + 8, none⟩ = some (.int .i64 r.x.K) := hq 8 (by omega)
      have d9 : wr.cell? ⟨eb, eo + i * 12 + 9, none⟩ = some (.string r.x.cl.nm) := hq 9 (by omega)
      have d10 : wr.cell? ⟨eb, eo + i * 12 + 10, none⟩ = some (.int .i64 r.x.cl.k) := hq 10 (by omega)
      have d11 : wr.cell? ⟨eb, eo + i * 12 + 11, none⟩ = some (.bool r.x.cl.no) := hq 11 (by omega)
      clear hq hcj hr
      have HRT := Lib.hid (right_any r wr HRA.out.n)
      have hqn := rgt_n (r := r) HRA.out.n
      have hqo := rgt_ok HRA.out.ok
      obtain ⟨q, hqx⟩ : ∃ q, rgt r = q := ⟨_, rfl⟩
      rw [hqx] at HRT hqn hqo
      have HQO := Lib.hid hqo
      unfold Er.val at HRT
      clear hqx hqo
      go_wp2_with fail
      refine HRT.out.mono ?_
      rintro e w4 ⟨rfl, hb4⟩
      have HT4 := Lib.hid (HT.out.below hb4.out)
      clear HRT hb4 HT d0 d1 d2 d3 d4 d5 d6 d7 d8 d9 d10 d11
      obtain ⟨w5, hw5⟩ : ∃ W, W = w4.alloc (.cells #[.int .i64 0, .int .i64 0, .string ⟨#[]⟩, .slice none 0 0, .slice none 0 0, .int .i64 0, .string ⟨#[]⟩, .slice none 0 0, .int .i64 0, .string ⟨#[]⟩, .int .i64 0, .bool false] 38) := ⟨_, rfl⟩
      have HZ : Hid (Has w5 w4.heap.size 38 #[.int .i64 0, .int .i64 0, .string ⟨#[]⟩, .slice none 0 0, .slice none 0 0, .int .i64 0, .string ⟨#[]⟩, .slice none 0 0, .int .i64 0, .string ⟨#[]⟩, .int .i64 0, .bool false]) := by rw [hw5]; exact Has.new _ _ _
      have hb5 : Below w4.heap.size w4 w5 := by rw [hw5]; exact (Below.refl _ _).alloc (Nat.le_refl _) _
      replace hw5 : w4.alloc (.cells #[.int .i64 0, .int .i64 0, .string ⟨#[]⟩, .slice none 0 0, .slice none 0 0, .int .i64 0, .string ⟨#[]⟩, .slice none 0 0, .int .i64 0, .string ⟨#[]⟩, .int .i64 0, .bool false] 38) = w5 := hw5.symm
      have v0 := HZ.out.cell 0
      have g0' := HZ.out.free 0
      have v1 := HZ.out.cell 1
      have g1' := HZ.out.free 1
      have v2 := HZ.out.cell 2
      have g2' := HZ.out.free 2
      have v3 := HZ.out.cell 3
      have g3' := HZ.out.free 3
      have v4 := HZ.out.cell 4
      have g4' := HZ.out.free 4
      have v5 := HZ.out.cell 5
      have g5' := HZ.out.free 5
      have v6 := HZ.out.cell 6
      have g6' := HZ.out.free 6
      have v7 := HZ.out.cell 7
      have g7' := HZ.out.free 7
      have v8 := HZ.out.cell 8
      have g8' := HZ.out.free 8
      have v9 := HZ.out.cell 9
      have g9' := HZ.out.free 9
      have v10 := HZ.out.cell 10
      have g10' := HZ.out.free 10
      have v11 := HZ.out.cell 11
      have g11' := HZ.out.free 11
      simp only [List.getElem?_toArray, List.getElem?_cons_zero, List.getElem?_cons_succ] at v0 v1 v2 v3 v4 v5 v6 v7 v8 v9 v10 v11
      have HP : Hid (Has (put12 w5 w4.heap.size (.int .i64 q.x.k) (.int .i64 q.x.n) (.string q.x.t) (.slice q.Ab q.nb q.zb) (.slice q.Aa q.na q.za) (.int .i64 q.x.ck) (.string q.x.ct) (.slice q.A q.n q.c) (.int .i64 q.x.K) (.string q.x.cl.nm) (.int .i64 q.x.cl.k) (.bool q.x.cl.no)) w4.heap.size 38 #[.int .i64 q.x.k, .int .i64 q.x.n, .string q.x.t, .slice q.Ab q.nb q.zb, .slice q.Aa q.na q.za, .int .i64 q.x.ck, .string q.x.ct, .slice q.A q.n q.c, .int .i64 q.x.K, .string q.x.cl.nm, .int .i64 q.x.cl.k, .bool q.x.cl.no]) := put12_has HZ.out (.int .i64 q.x.k) (.int .i64 q.x.n) (.string q.x.t) (.slice q.Ab q.nb q.zb) (.slice q.Aa q.na q.za) (.int .i64 q.x.ck) (.string q.x.ct) (.slice q.A q.n q.c) (.int .i64 q.x.K) (.string q.x.cl.nm) (.int .i64 q.x.cl.k) (.bool q.x.cl.no)
      have htp : Tur [w4.heap.size] w4 (put12 w5 w4.heap.size (.int .i64 q.x.k) (.int .i64 q.x.n) (.string q.x.t) (.slice q.Ab q.nb q.zb) (.slice q.Aa q.na q.za) (.int .i64 q.x.ck) (.string q.x.ct) (.slice q.A q.n q.c) (.int .i64 q.x.K) (.string q.x.cl.nm) (.int .i64 q.x.cl.k) (.bool q.x.cl.no)) := ((Tur.of_below (X := [w4.heap.size]) hb5).trans (put12_tur _ _ (.int .i64 q.x.k) (.int .i64 q.x.n) (.string q.x.t) (.slice q.Ab q.nb q.zb) (.slice q.Aa q.na q.za) (.int .i64 q.x.ck) (.string q.x.ct) (.slice q.A q.n q.c) (.int .i64 q.x.K) (.string q.x.cl.nm) (.int .i64 q.x.cl.k) (.bool q.x.cl.no)) (Fre.refl _ _))
      have HT6 := Lib.hid (HT4.out.tur htp (fun z hz => by simp at hz; omega))
      have hlt6 : w4.heap.size < (put12 w5 w4.heap.size (.int .i64 q.x.k) (.int .i64 q.x.n) (.string q.x.t) (.slice q.Ab q.nb q.zb) (.slice q.Aa q.na q.za) (.int .i64 q.x.ck) (.string q.x.ct) (.slice q.A q.n q.c) (.int .i64 q.x.K) (.string q.x.cl.nm) (.int .i64 q.x.cl.k) (.bool q.x.cl.no)).heap.size := HP.out.lt
      obtain ⟨w6, hw6⟩ : ∃ W, (put12 w5 w4.heap.size (.int .i64 q.x.k) (.int .i64 q.x.n) (.string q.x.t) (.slice q.Ab q.nb q.zb) (.slice q.Aa q.na q.za) (.int .i64 q.x.ck) (.string q.x.ct) (.slice q.A q.n q.c) (.int .i64 q.x.K) (.string q.x.cl.nm) (.int .i64 q.x.cl.k) (.bool q.x.cl.no)) = W := ⟨_, rfl⟩
      rw [hw6] at HP HT6 hlt6
      have hw6' : ((((((((((((w5.setCell ⟨w4.heap.size, 0, none⟩ (.int .i64 q.x.k)).setCell ⟨w4.heap.size, 1, none⟩ (.int .i64 q.x.n)).setCell ⟨w4.heap.size, 2, none⟩ (.string q.x.t)).setCell ⟨w4.heap.size, 3, none⟩ (.slice q.Ab q.nb q.zb)).setCell ⟨w4.heap.size, 4, none⟩ (.slice q.Aa q.na q.za)).setCell ⟨w4.heap.size, 5, none⟩ (.int .i64 q.x.ck)).setCell ⟨w4.heap.size, 6, none⟩ (.string q.x.ct)).setCell ⟨w4.heap.size, 7, none⟩ (.slice q.A q.n q.c)).setCell ⟨w4.heap.size, 8, none⟩ (.int .i64 q.x.K)).setCell ⟨w4.heap.size, 9, none⟩ (.string q.x.cl.nm)).setCell ⟨w4.heap.size, 10, none⟩ (.int .i64 q.x.cl.k)).setCell ⟨w4.heap.size, 11, none⟩ (.bool q.x.cl.no)) = w6 := hw6
      have heb : w4.heap.size ∉ F := fun hh => by have := HT4.out.buf.lt _ hh; omega
      have hrb4 : rb < w4.heap.size := HT4.out.lt
      clear hw6 htp HZ hb5 HT4
      have u0 := HP.out.cell 0
      have u1 := HP.out.cell 1
      have u2 := HP.out.cell 2
      have u3 := HP.out.cell 3
      have u4 := HP.out.cell 4
      have u5 := HP.out.cell 5
      have u6 := HP.out.cell 6
      have u7 := HP.out.cell 7
      have u8 := HP.out.cell 8
      have u9 := HP.out.cell 9
      have u10 := HP.out.cell 10
      have u11 := HP.out.cell 11
      have s0 := HT6.out.box.cell 0
      have t0' := HT6.out.box.free 0
      have s1 := HT6.out.box.cell 1
      have t1' := HT6.out.box.free 1
      have s2 := HT6.out.box.cell 2
      have t2' := HT6.out.box.free 2
      simp only [List.getElem?_toArray, List.getElem?_cons_zero, List.getElem?_cons_succ] at u0 u1 u2 u3 u4 u5 u6 u7 u8 u9 u10 u11 s0 s1 s2
      cases hk2 : (q.x.k == 99)
      rotate_left
      · skip
        have HCL := Lib.hid (clear_any HT6.out.buf hlm1)
        go_wp2_with fail
        refine HCL.out.mono ?_
        rintro e w7 ⟨rfl, k7, t7⟩
        have hbF : w.heap.size ∈ F := HT6.out.buf.has2
        have hx7 : Has w7 rb 26 #[.int .i64 lm, .int .i64 num, .slice A1 n1 c1] := HT6.out.box.tur t7.out (fun hh => by simp at hh; exact HT6.out.out (hh ▸ hbF))
        have HX7 := Lib.hid hx7
        have HB7 : Hid (Below w.heap.size w w7) := HT6.out.bel.trans (t7.out.below (B := w.heap.size) (fun k hk => by simp at hk; omega) HT6.out.bel.size)
        clear HCL t7 hx7 u0 v0 g0' u1 v1 g1' u2 v2 g2' u3 v3 g3' u4 v4 g4' u5 v5 g5' u6 v6 g6' u7 v7 g7' u8 v8 g8' u9 v9 g9' u10 v10 g10' u11 v11 g11' s0 s1 s2 t0' t1' t2' hw5 hw6' HP
        have HRN := Lib.hid (rnew_any a w7)
        rw [hlmx] at HRN
        have hne : rb ≠ w.heap.size := fun e => HT6.out.out (e ▸ hbF)
        go_wp2_with fail
        refine HRN.out.mono ?_
        rintro e w8 ⟨rfl, hb8⟩
        have hx8 := HX7.out.below hb8.out HX7.out.lt
        have hB8 := HB7.out.trans (hb8.out.mono HB7.out.size)
        have hk8 := k7.out.below hb8.out
        have m0 := hx8.cell 0
        have m1 := hx8.cell 1
        have m2 := hx8.cell 2
        have o0 := hx8.free 0
        have o1 := hx8.free 1
        have o2 := hx8.free 2
        simp only [List.getElem?_toArray, List.getElem?_cons_zero, List.getElem?_cons_succ] at m0 m1 m2
        have ht9 := put3_tur w8 rb (.int .i64 lm) (.int .i64 (-1)) (.slice none 0 0)
        have HN9 : Hid (Both w (put3 w8 rb (.int .i64 lm) (.int .i64 (-1)) (.slice none 0 0)) w.heap.size rb lm (-1) [] [w.heap.size] [] none 0 0 (i + 1)) := ⟨Nat.zero_le _, by omega, fun _ => rfl, rfl, hk8.tur ht9 (fun z h1 h2 => by simp at h1 h2; omega), put3_has hx8 _ _ _, by simp; exact hne, rfl, ERow.nil _ _, fun _ => rfl, fun r hr => (by cases hr), fun a e => (by cases e), hB8.trans (ht9.below (B := w.heap.size) (fun k hk => by simp at hk; have := HT6.out.low.2; omega) hB8.size), HT6.out.low⟩
        clear ht9 hx8 hB8 hk8 HRN hb8 HX7 HB7 k7
        go_wp2_with fail
        go_roundw
        case rel => exact ⟨i + 1, -1, [], _, [], none, 0, 0, by omega, by omega, by go_num, HN9⟩
        case measure => simp [intOf]; omega
      · skip
        have HPP := Lib.hid (put_any HT6.out.buf hlm1 q (HQO.out.below HT6.out.bel) (by have := HT6.out.few; omega))
        have hrp := rput_put lm num Td q HT6.out.numb hqn.1 (fun e => HT6.out.nil e)
        have hrl := rputF_len lm num Td q
        rw [HT6.out.same] at hrp
        obtain ⟨⟨nu, Tn, To, sb, er⟩, ho⟩ : ∃ o, rputF lm num Td q = o := ⟨_, rfl⟩
        rw [ho] at hrp hrl
        dsimp only at hrp hrl
        obtain ⟨hp1, hp2, hp3⟩ := hrp
        rw [hp1] at HPP
        have HRP := Lib.hid (fun (W : World) (hr : ERow W A1 Td) => rput12_any lm num A1 n1 c1 Td q W HT6.out.len hr HT6.out.non (by have h1 := HT6.out.few; rw [← HT6.out.same, List.length_map] at h1; have h2 := HT6.out.len; omega))
        rw [ho] at HRP
        have HL := Lib.hid hrl
        have HP2 := Lib.hid hp2
        have HP3 := Lib.hid hp3
        clear ho hp1 hp2 hp3 hrl
        go_wp2_with fail
        refine HPP.out.mono ?_
        rintro e w7 ⟨tv, F', rfl, t7, k7, tt7, f7⟩
        dsimp only at t7 k7
        clear u0 v0 g0' u1 v1 g1' u2 v2 g2' u3 v3 g3' u4 v4 g4' u5 v5 g5' u6 v6 g6' u7 v7 g7' u8 v8 g8' u9 v9 g9' u10 v10 g10' u11 v11 g11' s0 s1 s2 t0' t1' t2' hw5 hw6' HPP
        have HP7 := Lib.hid (HP.out.tur tt7.out heb)
        have HX7 := Lib.hid (HT6.out.box.tur tt7.out HT6.out.out)
        have HR7 := Lib.hid (HT6.out.row.tur tt7.out (fun a e hh => (HT6.out.off a e).1 hh))
        have HB7 : Hid (Below w.heap.size w w7) := HT6.out.bel.trans (tt7.out.below (fun k hk => HT6.out.buf.low k hk) HT6.out.bel.size)
        have hs7 := tt7.out.size
        have hrbF : rb ∉ F' := fun hh => (f7.out rb hh).elim HT6.out.out (fun h => by have := HT6.out.lt; omega)
        have hoF : ∀ a, A1 = some a → a.block ∉ F' := fun a e hh => (f7.out _ hh).elim (HT6.out.off a e).1 (fun h => by have := (HT6.out.off a e).2.2; omega)
        have u0 := HP7.out.cell 0
        have u1 := HP7.out.cell 1
        have u2 := HP7.out.cell 2
        have u3 := HP7.out.cell 3
        have u4 := HP7.out.cell 4
        have u5 := HP7.out.cell 5
        have u6 := HP7.out.cell 6
        have u7 := HP7.out.cell 7
        have u8 := HP7.out.cell 8
        have u9 := HP7.out.cell 9
        have u10 := HP7.out.cell 10
        have u11 := HP7.out.cell 11
        have s0 := HX7.out.cell 0
        have s1 := HX7.out.cell 1
        have s2 := HX7.out.cell 2
        simp only [List.getElem?_toArray, List.getElem?_cons_zero, List.getElem?_cons_succ] at u0 u1 u2 u3 u4 u5 u6 u7 u8 u9 u10 u11 s0 s1 s2
        go_wp2_with fail
        refine (HRP.out _ HR7.out).mono ?_
        rintro e w8 ⟨A2, n2, c2, A3, n3, c3, rfl, rA, rB, rC, rD⟩
        dsimp only at rA rB
        clear u0 u1 u2 u3 u4 u5 u6 u7 u8 u9 u10 u11 s0 s1 s2 HRP
        have hs8 := rC.out.size
        obtain ⟨w9, hw9⟩ : ∃ W, W = w8.alloc (.cells #[.int .i64 0, .int .i64 0, .slice none 0 0] 26) := ⟨_, rfl⟩
        have HZ9 : Hid (Has w9 w8.heap.size 26 #[.int .i64 0, .int .i64 0, .slice none 0 0]) := by rw [hw9]; exact Has.new _ _ _
        have hb9 : Below w8.heap.size w8 w9 := by rw [hw9]; exact (Below.refl _ _).alloc (Nat.le_refl _) _
        replace hw9 : w8.alloc (.cells #[.int .i64 0, .int .i64 0, .slice none 0 0] 26) = w9 := hw9.symm
        have x0 := HZ9.out.cell 0
        have x1 := HZ9.out.cell 1
        have x2 := HZ9.out.cell 2
        have xf0 := HZ9.out.free 0
        have xf1 := HZ9.out.free 1
        have xf2 := HZ9.out.free 2
        have ht10 := put3_tur w9 w8.heap.size (.int .i64 lm) (.int .i64 nu) (.slice A2 n2 c2)
        have HN10 := Lib.hid (put3_has HZ9.out (.int .i64 lm) (.int .i64 nu) (.slice A2 n2 c2))
        obtain ⟨wa, hwa⟩ : ∃ W, put3 w9 w8.heap.size (.int .i64 lm) (.int .i64 nu) (.slice A2 n2 c2) = W := ⟨_, rfl⟩
        rw [hwa] at ht10 HN10
        have hwa' : (((w9.setCell ⟨w8.heap.size, 0, none⟩ (.int .i64 lm)).setCell ⟨w8.heap.size, 1, none⟩ (.int .i64 nu)).setCell ⟨w8.heap.size, 2, none⟩ (.slice A2 n2 c2)) = wa := hwa
        have hta : Tur [w8.heap.size] w8 wa := (Tur.of_below (X := [w8.heap.size]) hb9).trans ht10 (Fre.refl _ _)
        have hba : Below w8.heap.size w8 wa := hta.below (fun k hk => by simp at hk; omega) (Nat.le_refl _)
        have hrb8 : rb < w8.heap.size := by have := HX7.out.lt; omega
        have HX10 := Lib.hid ((HX7.out.below rC.out HX7.out.lt).below hba hrb8)
        have j0 := HX10.out.cell 0
        have j1 := HX10.out.cell 1
        have j2 := HX10.out.cell 2
        have jf0 := HX10.out.free 0
        have jf1 := HX10.out.free 1
        have jf2 := HX10.out.free 2
        have l0 := HN10.out.cell 0
        have l1 := HN10.out.cell 1
        have l2 := HN10.out.cell 2
        simp only [List.getElem?_toArray, List.getElem?_cons_zero, List.getElem?_cons_succ] at x0 x1 x2 j0 j1 j2 l0 l1 l2
        have ht11 := put3_tur wa rb (.int .i64 lm) (.int .i64 nu) (.slice A2 n2 c2)
        have hx11 := put3_has HX10.out (.int .i64 lm) (.int .i64 nu) (.slice A2 n2 c2)
        obtain ⟨wb, hwb⟩ : ∃ W, put3 wa rb (.int .i64 lm) (.int .i64 nu) (.slice A2 n2 c2) = W := ⟨_, rfl⟩
        rw [hwb] at ht11 hx11
        have hwb' : (((wa.setCell ⟨rb, 0, none⟩ (.int .i64 lm)).setCell ⟨rb, 1, none⟩ (.int .i64 nu)).setCell ⟨rb, 2, none⟩ (.slice A2 n2 c2)) = wb := hwb
        have h78 : Below w7.heap.size w7 wa := rC.out.trans (hba.mono hs8)
        have htw : Tur [rb] w7 wb := (Tur.of_below (X := [rb]) h78).trans ht11 (Fre.refl _ _)
        have ht8 : Tur [rb] w8 wb := (Tur.of_below (X := [rb]) hba).trans ht11 (Fre.refl _ _)
        have hA2 : ∀ a, A2 = some a → a.block ∉ F' ∧ a.block ≠ rb ∧ a.block < wb.heap.size := fun a e => by
          have hsb := ht8.size
          rcases rD.out.1 a e with h | h
          · refine ⟨hoF a h, (HT6.out.off a h).2.1, ?_⟩
            have := (HT6.out.off a h).2.2
            omega
          · refine ⟨fun hh => ?_, ?_, by omega⟩
            · have := k7.out.lt _ hh
              omega
            · have := HX7.out.lt
              omega
        have HBB : Hid (Both w wb w.heap.size rb lm nu (Tn.map Er.x) F' Tn A2 n2 c2 (i + 1)) := ⟨by have h1 := HL.out.1; have h2 := HT6.out.few; rw [← HT6.out.same, List.length_map] at h2; rw [List.length_map]; omega, HP2.out, HP3.out, rfl, k7.out.tur htw (fun z h1 h2 => by simp at h1; exact hrbF (h1 ▸ h2)), hx11, hrbF, rA.out.1, rA.out.2.1.tur ht8 (fun a e hh => by simp at hh; exact (hA2 a e).2.1 hh), rA.out.2.2, fun y hy => (HL.out.2.2.1 y hy).elim (HT6.out.ok y) (fun e => e ▸ HQO.out), hA2, HB7.out.trans (htw.below (B := w.heap.size) (fun k hk => by simp at hk; have := HT6.out.low.2; omega) HB7.out.size), HT6.out.low⟩
        obtain ⟨A4, n4, c4, To4, rfl, hT1, hT2, hT3, hT4, hT5⟩ := t7.out.tur htw (fun z h1 h2 => by simp at h1; exact HT6.out.out (h1 ▸ h2))
        have h3b : ERow wb A3 To := rB.out.2.tur ht8 (fun a e hh => by simp at hh; exact (HT6.out.off a (rD.out.2 a e)).2.1 hh)
        have HSM : Hid (∀ W, Below wb.heap.size wb W → Calls Try.prog 14 #[.slice A4 n4 c4, .slice A3 n3 c3] W fun e w' => e = .returned (.bool true) ∧ Hid (Below W.heap.size W w')) := fun (W : World) (hb : Below wb.heap.size wb W) => rsame7_any A4 To4 n4 c4 A3 To n3 c3 W hT1 rB.out.1 (by have h1 := HL.out.2.1; have h2 := HT6.out.few; rw [← HT6.out.same, List.length_map] at h2; have h3 : To4.length = To.length := (by have := congrArg List.length hT3; simpa using this); omega) (hT2.below hb) (h3b.below hb) (fun y hy => (hT4 y hy).1.below hb) (fun y hy => ((HT6.out.ok y (HL.out.2.2.2 y hy)).below (HBB.out.bel.trans (hb.mono HBB.out.bel.size)))) hT3
        have HNL := Lib.hid rA.out.1
        clear h3b hT1 hT2 hT3 hT4 hT5
        by_cases hnu : nu = -1
        · subst hnu
          have hob : ((-1 : Int) != -1) = false := rfl
          go_wp2_with fail
          refine wp_region_held_drew (S := (fun X => X.cell? ⟨rb, 1, none⟩ = some (.int .i64 (-1)) ∧ X.cell? ⟨rb, 2, none⟩ = some (.slice A2 n2 c2))) (by kernel_rfl) ⟨HBB.out.box.cell 1, HBB.out.box.cell 2⟩ (fun _ => ?_)
          (refine wpAnyH_take (i := 0) (v := ?_) rfl (by kernel_rfl) (by kernel_rfl) (by kernel_rfl) (fun _ _ _ h => h) (Or.inl ⟨by rfl, ?_⟩) (by assumption) ?_; rotate_left; (intro w hSw; (try dsimp only at hSw); go_simp; try with_reducible rfl); ((try simp only [List.getElem_toArray]); (try simp only [List.getElem_cons_succ]); (try simp only [List.getElem_cons_zero]); (try simp only [Act.put]); (try simp only [List.setIfInBounds_toArray]); (try simp only [List.set_cons_succ]); (try simp only [List.set_cons_zero])))
          (refine wpAnyH_take (i := 1) (v := ?_) rfl (by kernel_rfl) (by kernel_rfl) (by kernel_rfl) (fun _ _ _ h => h) (Or.inl ⟨by rfl, ?_⟩) (by assumption) ?_; rotate_left; (intro w hSw; (try dsimp only at hSw); go_simp; try with_reducible rfl); ((try simp only [List.getElem_toArray]); (try simp only [List.getElem_cons_succ]); (try simp only [List.getElem_cons_zero]); (try simp only [Act.put]); (try simp only [List.setIfInBounds_toArray]); (try simp only [List.set_cons_succ]); (try simp only [List.set_cons_zero])))
          refine wpAnyH_ready (rs := [2]) (by kernel_rfl) (by simp) ?_
          refine AllReadyH.cons rfl (fun K2 hK2 => ?_) AllReadyH.nil
          go_simp
          refine (HSM.out wb.drew (below_drewN (Below.refl _ _) 1)).mono ?_
          rintro e wc ⟨rfl, hbc⟩
          have HBC := Lib.hid ((HBB.out.below (w' := wb.drew) (below_drewN (Below.refl _ _) 1)).below hbc.out)
          go_wp2_with fail
          refine hK2.out _ _ (by (try dsimp only); exact ⟨HBC.out.box.cell 1, HBC.out.box.cell 2⟩) (fun _ => ?_)
          clear hK2 K2
          (try simp only [List.getElem_toArray]); (try simp only [List.getElem_cons_succ]); (try simp only [List.getElem_cons_zero]); (try simp only [Act.put]); (try simp only [List.setIfInBounds_toArray]); (try simp only [List.set_cons_succ]); (try simp only [List.set_cons_zero])
          (refine wpAnyH_take (i := 3) (v := ?_) rfl (by kernel_rfl) (by kernel_rfl) (by kernel_rfl) (fun _ _ _ h => h) (Or.inl ⟨by rfl, ?_⟩) (by assumption) ?_; rotate_left; (intro w hSw; (try dsimp only at hSw); go_simp; try with_reducible rfl); ((try simp only [List.getElem_toArray]); (try simp only [List.getElem_cons_succ]); (try simp only [List.getElem_cons_zero]); (try simp only [Act.put]); (try simp only [List.setIfInBounds_toArray]); (try simp only [List.set_cons_succ]); (try simp only [List.set_cons_zero])))
          (refine wpAnyH_take (i := 4) (v := ?_) rfl (by kernel_rfl) (by kernel_rfl) (by kernel_rfl) (fun _ _ _ h => h) (Or.inl ⟨by rfl, ?_⟩) (by assumption) ?_; rotate_left; (intro w hSw; (try dsimp only at hSw); go_simp; try with_reducible rfl); ((try simp only [List.getElem_toArray]); (try simp only [List.getElem_cons_succ]); (try simp only [List.getElem_cons_zero]); (try simp only [Act.put]); (try simp only [List.setIfInBounds_toArray]); (try simp only [List.set_cons_succ]); (try simp only [List.set_cons_zero])))
          (refine wpAnyH_take (i := 5) (v := ?_) rfl (by kernel_rfl) (by kernel_rfl) (by kernel_rfl) (fun _ _ _ h => h) (Or.inl ⟨by rfl, ?_⟩) (by assumption) ?_; rotate_left; (intro w hSw; (try dsimp only at hSw); go_simp; try with_reducible rfl); ((try simp only [List.getElem_toArray]); (try simp only [List.getElem_cons_succ]); (try simp only [List.getElem_cons_zero]); (try simp only [Act.put]); (try simp only [List.setIfInBounds_toArray]); (try simp only [List.set_cons_succ]); (try simp only [List.set_cons_zero])))
          (refine wpAnyH_take (i := 6) (v := ?_) rfl (by kernel_rfl) (by kernel_rfl) (by kernel_rfl) (fun _ _ _ h => h) (Or.inl ⟨by rfl, ?_⟩) (by assumption) ?_; rotate_left; (intro w hSw; (try dsimp only at hSw); go_simp; try with_reducible rfl); ((try simp only [List.getElem_toArray]); (try simp only [List.getElem_cons_succ]); (try simp only [List.getElem_cons_zero]); (try simp only [Act.put]); (try simp only [List.setIfInBounds_toArray]); (try simp only [List.set_cons_succ]); (try simp only [List.set_cons_zero])))
          (refine wpAnyH_take (i := 7) (v := ?_) rfl (by kernel_rfl) (by kernel_rfl) (by kernel_rfl) (fun _ _ _ h => h) (Or.inl ⟨by rfl, ?_⟩) (by assumption) ?_; rotate_left; (intro w hSw; (try dsimp only at hSw); go_simp; try with_reducible rfl); ((try simp only [List.getElem_toArray]); (try simp only [List.getElem_cons_succ]); (try simp only [List.getElem_cons_zero]); (try simp only [Act.put]); (try simp only [List.setIfInBounds_toArray]); (try simp only [List.set_cons_succ]); (try simp only [List.set_cons_zero])))
          (refine wpAnyH_take (i := 8) (v := ?_) rfl (by kernel_rfl) (by kernel_rfl) (by kernel_rfl) (fun _ _ _ h => h) (Or.inl ⟨by rfl, ?_⟩) (by assumption) ?_; rotate_left; (intro w hSw; (try dsimp only at hSw); go_simp; try with_reducible rfl); ((try simp only [List.getElem_toArray]); (try simp only [List.getElem_cons_succ]); (try simp only [List.getElem_cons_zero]); (try simp only [Act.put]); (try simp only [List.setIfInBounds_toArray]); (try simp only [List.set_cons_succ]); (try simp only [List.set_cons_zero])))
          (refine wpAnyH_take (i := 9) (v := ?_) rfl (by kernel_rfl) (by kernel_rfl) (by kernel_rfl) (fun _ _ _ h => h) (Or.inl ⟨by rfl, ?_⟩) (by assumption) ?_; rotate_left; (intro w hSw; (try dsimp only at hSw); go_simp; try with_reducible rfl); ((try simp only [List.getElem_toArray]); (try simp only [List.getElem_cons_succ]); (try simp only [List.getElem_cons_zero]); (try simp only [Act.put]); (try simp only [List.setIfInBounds_toArray]); (try simp only [List.set_cons_succ]); (try simp only [List.set_cons_zero])))
          (refine wpAnyH_take (i := 10) (v := ?_) rfl (by kernel_rfl) (by kernel_rfl) (by kernel_rfl) (fun _ _ _ h => h) (Or.inl ⟨by rfl, ?_⟩) (by assumption) ?_; rotate_left; (intro w hSw; (try dsimp only at hSw); go_simp; try with_reducible rfl); ((try simp only [List.getElem_toArray]); (try simp only [List.getElem_cons_succ]); (try simp only [List.getElem_cons_zero]); (try simp only [Act.put]); (try simp only [List.setIfInBounds_toArray]); (try simp only [List.set_cons_succ]); (try simp only [List.set_cons_zero])))
          (refine wpAnyH_take (i := 11) (v := ?_) rfl (by kernel_rfl) (by kernel_rfl) (by kernel_rfl) (fun _ _ _ h => h) (Or.inl ⟨by rfl, ?_⟩) (by assumption) ?_; rotate_left; (intro w hSw; (try dsimp only at hSw); go_simp; try with_reducible rfl); ((try simp only [List.getElem_toArray]); (try simp only [List.getElem_cons_succ]); (try simp only [List.getElem_cons_zero]); (try simp only [Act.put]); (try simp only [List.setIfInBounds_toArray]); (try simp only [List.set_cons_succ]); (try simp only [List.set_cons_zero])))
          (refine wpAnyH_take (i := 12) (v := ?_) rfl (by kernel_rfl) (by kernel_rfl) (by kernel_rfl) (fun _ _ _ h => h) (Or.inl ⟨by rfl, ?_⟩) (by assumption) ?_; rotate_left; (intro w hSw; (try dsimp only at hSw); go_simp; try with_reducible rfl); ((try simp only [List.getElem_toArray]); (try simp only [List.getElem_cons_succ]); (try simp only [List.getElem_cons_zero]); (try simp only [Act.put]); (try simp only [List.setIfInBounds_toArray]); (try simp only [List.set_cons_succ]); (try simp only [List.set_cons_zero])))
          (refine wpAnyH_take (i := 13) (v := ?_) rfl (by kernel_rfl) (by kernel_rfl) (by kernel_rfl) (fun _ _ _ h => h) (Or.inl ⟨by rfl, ?_⟩) (by assumption) ?_; rotate_left; (intro w hSw; (try dsimp only at hSw); go_simp; try with_reducible rfl); ((try simp only [List.getElem_toArray]); (try simp only [List.getElem_cons_succ]); (try simp only [List.getElem_cons_zero]); (try simp only [Act.put]); (try simp only [List.setIfInBounds_toArray]); (try simp only [List.set_cons_succ]); (try simp only [List.set_cons_zero])))
          (refine wpAnyH_take (i := 14) (v := ?_) rfl (by kernel_rfl) (by kernel_rfl) (by kernel_rfl) (fun _ _ _ h => h) (Or.inl ⟨by rfl, ?_⟩) (by assumption) ?_; rotate_left; (intro w hSw; (try dsimp only at hSw); go_simp; try with_reducible rfl); ((try simp only [List.getElem_toArray]); (try simp only [List.getElem_cons_succ]); (try simp only [List.getElem_cons_zero]); (try simp only [Act.put]); (try simp only [List.setIfInBounds_toArray]); (try simp only [List.set_cons_succ]); (try simp only [List.set_cons_zero])))
          (refine wpAnyH_take (i := 15) (v := ?_) rfl (by kernel_rfl) (by kernel_rfl) (by kernel_rfl) (fun _ _ _ h => h) (Or.inl ⟨by rfl, ?_⟩) (by assumption) ?_; rotate_left; (intro w hSw; (try dsimp only at hSw); go_simp; try with_reducible rfl); ((try simp only [List.getElem_toArray]); (try simp only [List.getElem_cons_succ]); (try simp only [List.getElem_cons_zero]); (try simp only [Act.put]); (try simp only [List.setIfInBounds_toArray]); (try simp only [List.set_cons_succ]); (try simp only [List.set_cons_zero])))
          (refine wpAnyH_take (i := 17) (v := ?_) rfl (by kernel_rfl) (by kernel_rfl) (by kernel_rfl) (fun _ _ _ h => h) (Or.inl ⟨by rfl, ?_⟩) (by assumption) ?_; rotate_left; (intro w hSw; (try dsimp only at hSw); go_simp; try with_reducible rfl); ((try simp only [List.getElem_toArray]); (try simp only [List.getElem_cons_succ]); (try simp only [List.getElem_cons_zero]); (try simp only [Act.put]); (try simp only [List.setIfInBounds_toArray]); (try simp only [List.set_cons_succ]); (try simp only [List.set_cons_zero])))
          (refine wpAnyH_take (i := 18) (v := ?_) rfl (by kernel_rfl) (by kernel_rfl) (by kernel_rfl) (fun _ _ _ h => h) (Or.inl ⟨by rfl, ?_⟩) (by assumption) ?_; rotate_left; (intro w hSw; (try dsimp only at hSw); go_simp; try with_reducible rfl); ((try simp only [List.getElem_toArray]); (try simp only [List.getElem_cons_succ]); (try simp only [List.getElem_cons_zero]); (try simp only [Act.put]); (try simp only [List.setIfInBounds_toArray]); (try simp only [List.set_cons_succ]); (try simp only [List.set_cons_zero])))
          (refine wpAnyH_take (i := 19) (v := ?_) rfl (by kernel_rfl) (by kernel_rfl) (by kernel_rfl) (fun _ _ _ h => h) (Or.inl ⟨by rfl, ?_⟩) (by assumption) ?_; rotate_left; (intro w hSw; (try dsimp only at hSw); go_simp; try with_reducible rfl); ((try simp only [List.getElem_toArray]); (try simp only [List.getElem_cons_succ]); (try simp only [List.getElem_cons_zero]); (try simp only [Act.put]); (try simp only [List.setIfInBounds_toArray]); (try simp only [List.set_cons_succ]); (try simp only [List.set_cons_zero])))
          have HLN := Lib.hid (len_any HBC.out.buf)
          rw [List.length_map, HNL.out] at HLN
          refine wpAnyH_ready (rs := [16]) (by kernel_rfl) (by simp) ?_
          refine AllReadyH.cons rfl (fun K2 hK2 => ?_) AllReadyH.nil
          go_simp
          refine (HLN.out).mono ?_
          rintro e wd ⟨rfl, rfl⟩
          go_wp2_with fail
          refine hK2.out _ _ (by (try dsimp only); exact ⟨HBC.out.box.cell 1, HBC.out.box.cell 2⟩) (fun _ => ?_)
          clear hK2 K2
          (try simp only [List.getElem_toArray]); (try simp only [List.getElem_cons_succ]); (try simp only [List.getElem_cons_zero]); (try simp only [Act.put]); (try simp only [List.setIfInBounds_toArray]); (try simp only [List.set_cons_succ]); (try simp only [List.set_cons_zero])
          (refine wpAnyH_take (i := 20) (v := ?_) rfl (by kernel_rfl) (by kernel_rfl) (by kernel_rfl) (fun _ _ _ h => h) (Or.inl ⟨by rfl, ?_⟩) (by assumption) ?_; rotate_left; (intro w hSw; (try dsimp only at hSw); go_simp; try with_reducible rfl); ((try simp only [List.getElem_toArray]); (try simp only [List.getElem_cons_succ]); (try simp only [List.getElem_cons_zero]); (try simp only [Act.put]); (try simp only [List.setIfInBounds_toArray]); (try simp only [List.set_cons_succ]); (try simp only [List.set_cons_zero])))
          (refine wpAnyH_take (i := 21) (v := ?_) rfl (by kernel_rfl) (by kernel_rfl) (by kernel_rfl) (fun _ _ _ h => h) (Or.inl ⟨by rfl, ?_⟩) (by assumption) ?_; rotate_left; (intro w hSw; (try dsimp only at hSw); go_simp; try with_reducible rfl); ((try simp only [List.getElem_toArray]); (try simp only [List.getElem_cons_succ]); (try simp only [List.getElem_cons_zero]); (try simp only [Act.put]); (try simp only [List.setIfInBounds_toArray]); (try simp only [List.set_cons_succ]); (try simp only [List.set_cons_zero])))
          (refine wpAnyH_take (i := 22) (v := ?_) rfl (by kernel_rfl) (by kernel_rfl) (by kernel_rfl) (fun _ _ _ h => h) (Or.inl ⟨by rfl, ?_⟩) (by assumption) ?_; rotate_left; (intro w hSw; (try dsimp only at hSw); go_simp; try with_reducible rfl); ((try simp only [List.getElem_toArray]); (try simp only [List.getElem_cons_succ]); (try simp only [List.getElem_cons_zero]); (try simp only [Act.put]); (try simp only [List.setIfInBounds_toArray]); (try simp only [List.set_cons_succ]); (try simp only [List.set_cons_zero])))
          (refine wpAnyH_take (i := 23) (v := ?_) rfl (by kernel_rfl) (by kernel_rfl) (by kernel_rfl) (fun _ _ _ h => h) (Or.inl ⟨by rfl, ?_⟩) (by assumption) ?_; rotate_left; (intro w hSw; (try dsimp only at hSw); go_simp; try with_reducible rfl); ((try simp only [List.getElem_toArray]); (try simp only [List.getElem_cons_succ]); (try simp only [List.getElem_cons_zero]); (try simp only [Act.put]); (try simp only [List.setIfInBounds_toArray]); (try simp only [List.set_cons_succ]); (try simp only [List.set_cons_zero])))
          (refine wpAnyH_take (i := 25) (v := ?_) rfl (by kernel_rfl) (by kernel_rfl) (by kernel_rfl) (fun _ _ _ h => h) (Or.inl ⟨by rfl, ?_⟩) (by assumption) ?_; rotate_left; (intro w hSw; (try dsimp only at hSw); go_simp; try with_reducible rfl); ((try simp only [List.getElem_toArray]); (try simp only [List.getElem_cons_succ]); (try simp only [List.getElem_cons_zero]); (try simp only [Act.put]); (try simp only [List.setIfInBounds_toArray]); (try simp only [List.set_cons_succ]); (try simp only [List.set_cons_zero])))
          (refine wpAnyH_take (i := 26) (v := ?_) rfl (by kernel_rfl) (by kernel_rfl) (by kernel_rfl) (fun _ _ _ h => h) (Or.inl ⟨by rfl, ?_⟩) (by assumption) ?_; rotate_left; (intro w hSw; (try dsimp only at hSw); go_simp; try with_reducible rfl); ((try simp only [List.getElem_toArray]); (try simp only [List.getElem_cons_succ]); (try simp only [List.getElem_cons_zero]); (try simp only [Act.put]); (try simp only [List.setIfInBounds_toArray]); (try simp only [List.set_cons_succ]); (try simp only [List.set_cons_zero])))
          (refine wpAnyH_take (i := 27) (v := ?_) rfl (by kernel_rfl) (by kernel_rfl) (by kernel_rfl) (fun _ _ _ h => h) (Or.inl ⟨by rfl, ?_⟩) (by assumption) ?_; rotate_left; (intro w hSw; (try dsimp only at hSw); go_simp; try with_reducible rfl); ((try simp only [List.getElem_toArray]); (try simp only [List.getElem_cons_succ]); (try simp only [List.getElem_cons_zero]); (try simp only [Act.put]); (try simp only [List.setIfInBounds_toArray]); (try simp only [List.set_cons_succ]); (try simp only [List.set_cons_zero])))
          have HOP := Lib.hid (open_any HBC.out.buf)
          rw [hob] at HOP
          refine wpAnyH_ready (rs := [24]) (by kernel_rfl) (by simp) ?_
          refine AllReadyH.cons rfl (fun K2 hK2 => ?_) AllReadyH.nil
          go_simp
          refine (HOP.out).mono ?_
          rintro e we ⟨rfl, rfl⟩
          go_wp2_with fail
          refine hK2.out _ _ (by (try dsimp only); exact ⟨HBC.out.box.cell 1, HBC.out.box.cell 2⟩) (fun _ => ?_)
          clear hK2 K2
          (try simp only [List.getElem_toArray]); (try simp only [List.getElem_cons_succ]); (try simp only [List.getElem_cons_zero]); (try simp only [Act.put]); (try simp only [List.setIfInBounds_toArray]); (try simp only [List.set_cons_succ]); (try simp only [List.set_cons_zero])
          (refine wpAnyH_take (i := 28) (v := ?_) rfl (by kernel_rfl) (by kernel_rfl) (by kernel_rfl) (fun _ _ _ h => h) (Or.inl ⟨by rfl, ?_⟩) (by assumption) ?_; rotate_left; (intro w hSw; (try dsimp only at hSw); go_simp; try with_reducible rfl); ((try simp only [List.getElem_toArray]); (try simp only [List.getElem_cons_succ]); (try simp only [List.getElem_cons_zero]); (try simp only [Act.put]); (try simp only [List.setIfInBounds_toArray]); (try simp only [List.set_cons_succ]); (try simp only [List.set_cons_zero])))
          (refine wpAnyH_take (i := 29) (v := ?_) rfl (by kernel_rfl) (by kernel_rfl) (by kernel_rfl) (fun _ _ _ h => h) (Or.inl ⟨by rfl, ?_⟩) (by assumption) ?_; rotate_left; (intro w hSw; (try dsimp only at hSw); go_simp; try with_reducible rfl); ((try simp only [List.getElem_toArray]); (try simp only [List.getElem_cons_succ]); (try simp only [List.getElem_cons_zero]); (try simp only [Act.put]); (try simp only [List.setIfInBounds_toArray]); (try simp only [List.set_cons_succ]); (try simp only [List.set_cons_zero])))
          (refine wpAnyH_take (i := 30) (v := ?_) rfl (by kernel_rfl) (by kernel_rfl) (by kernel_rfl) (fun _ _ _ h => h) (Or.inl ⟨by rfl, ?_⟩) (by assumption) ?_; rotate_left; (intro w hSw; (try dsimp only at hSw); go_simp; try with_reducible rfl); ((try simp only [List.getElem_toArray]); (try simp only [List.getElem_cons_succ]); (try simp only [List.getElem_cons_zero]); (try simp only [Act.put]); (try simp only [List.setIfInBounds_toArray]); (try simp only [List.set_cons_succ]); (try simp only [List.set_cons_zero])))
          (refine wpAnyH_take (i := 31) (v := ?_) rfl (by kernel_rfl) (by kernel_rfl) (by kernel_rfl) (fun _ _ _ h => h) (Or.inl ⟨by rfl, ?_⟩) (by assumption) ?_; rotate_left; (intro w hSw; (try dsimp only at hSw); go_simp; try with_reducible rfl); ((try simp only [List.getElem_toArray]); (try simp only [List.getElem_cons_succ]); (try simp only [List.getElem_cons_zero]); (try simp only [Act.put]); (try simp only [List.setIfInBounds_toArray]); (try simp only [List.set_cons_succ]); (try simp only [List.set_cons_zero])))
          (refine wpAnyH_take (i := 33) (v := ?_) rfl (by kernel_rfl) (by kernel_rfl) (by kernel_rfl) (fun _ _ _ h => h) (Or.inl ⟨by rfl, ?_⟩) (by assumption) ?_; rotate_left; (intro w hSw; (try dsimp only at hSw); go_simp; try with_reducible rfl); ((try simp only [List.getElem_toArray]); (try simp only [List.getElem_cons_succ]); (try simp only [List.getElem_cons_zero]); (try simp only [Act.put]); (try simp only [List.setIfInBounds_toArray]); (try simp only [List.set_cons_succ]); (try simp only [List.set_cons_zero])))
          (refine wpAnyH_take (i := 34) (v := ?_) rfl (by kernel_rfl) (by kernel_rfl) (by kernel_rfl) (fun _ _ _ h => h) (Or.inl ⟨by rfl, ?_⟩) (by assumption) ?_; rotate_left; (intro w hSw; (try dsimp only at hSw); go_simp; try with_reducible rfl); ((try simp only [List.getElem_toArray]); (try simp only [List.getElem_cons_succ]); (try simp only [List.getElem_cons_zero]); (try simp only [Act.put]); (try simp only [List.setIfInBounds_toArray]); (try simp only [List.set_cons_succ]); (try simp only [List.set_cons_zero])))
          have HNM := Lib.hid (number_any HBC.out.buf)
          refine wpAnyH_ready (rs := [32]) (by kernel_rfl) (by simp) ?_
          refine AllReadyH.cons rfl (fun K2 hK2 => ?_) AllReadyH.nil
          go_simp
          refine (HNM.out).mono ?_
          rintro e wf ⟨rfl, rfl⟩
          go_wp2_with fail
          refine hK2.out _ _ (by (try dsimp only); exact ⟨HBC.out.box.cell 1, HBC.out.box.cell 2⟩) (fun _ => ?_)
          clear hK2 K2
          (try simp only [List.getElem_toArray]); (try simp only [List.getElem_cons_succ]); (try simp only [List.getElem_cons_zero]); (try simp only [Act.put]); (try simp only [List.setIfInBounds_toArray]); (try simp only [List.set_cons_succ]); (try simp only [List.set_cons_zero])
          (refine wpAnyH_take (i := 35) (v := ?_) rfl (by kernel_rfl) (by kernel_rfl) (by kernel_rfl) (fun _ _ _ h => h) (Or.inl ⟨by rfl, ?_⟩) (by assumption) ?_; rotate_left; (intro w hSw; (try dsimp only at hSw); go_simp; try with_reducible rfl); ((try simp only [List.getElem_toArray]); (try simp only [List.getElem_cons_succ]); (try simp only [List.getElem_cons_zero]); (try simp only [Act.put]); (try simp only [List.setIfInBounds_toArray]); (try simp only [List.set_cons_succ]); (try simp only [List.set_cons_zero])))
          (refine wpAnyH_take (i := 36) (v := ?_) rfl (by kernel_rfl) (by kernel_rfl) (by kernel_rfl) (fun _ _ _ h => h) (Or.inl ⟨by rfl, ?_⟩) (by assumption) ?_; rotate_left; (intro w hSw; (try dsimp only at hSw); go_simp; try with_reducible rfl); ((try simp only [List.getElem_toArray]); (try simp only [List.getElem_cons_succ]); (try simp only [List.getElem_cons_zero]); (try simp only [Act.put]); (try simp only [List.setIfInBounds_toArray]); (try simp only [List.set_cons_succ]); (try simp only [List.set_cons_zero])))
          refine wpAnyH_done (by kernel_rfl) ?_ _
          clear HLN HOP HNM
          go_wp2_with fail
          go_roundw
          case rel => exact ⟨i + 1, (-1), Tn.map Er.x, F', Tn, A2, n2, c2, by omega, by omega, by go_num, HBC⟩
          case measure => simp [intOf]; omega
        · have hob : (nu != -1) = true := by simp; exact hnu
          have h0n : 0 ≤ nu := by have := HP2.out; omega
          clear hnu
          go_wp2_with fail
          refine wp_region_held_drew (S := (fun X => X.cell? ⟨rb, 1, none⟩ = some (.int .i64 nu) ∧ X.cell? ⟨rb, 2, none⟩ = some (.slice A2 n2 c2))) (by kernel_rfl) ⟨HBB.out.box.cell 1, HBB.out.box.cell 2⟩ (fun _ => ?_)
          (refine wpAnyH_take (i := 0) (v := ?_) rfl (by kernel_rfl) (by kernel_rfl) (by kernel_rfl) (fun _ _ _ h => h) (Or.inl ⟨by rfl, ?_⟩) (by assumption) ?_; rotate_left; (intro w hSw; (try dsimp only at hSw); go_simp; try with_reducible rfl); ((try simp only [List.getElem_toArray]); (try simp only [List.getElem_cons_succ]); (try simp only [List.getElem_cons_zero]); (try simp only [Act.put]); (try simp only [List.setIfInBounds_toArray]); (try simp only [List.set_cons_succ]); (try simp only [List.set_cons_zero])))
          (refine wpAnyH_take (i := 1) (v := ?_) rfl (by kernel_rfl) (by kernel_rfl) (by kernel_rfl) (fun _ _ _ h => h) (Or.inl ⟨by rfl, ?_⟩) (by assumption) ?_; rotate_left; (intro w hSw; (try dsimp only at hSw); go_simp; try with_reducible rfl); ((try simp only [List.getElem_toArray]); (try simp only [List.getElem_cons_succ]); (try simp only [List.getElem_cons_zero]); (try simp only [Act.put]); (try simp only [List.setIfInBounds_toArray]); (try simp only [List.set_cons_succ]); (try simp only [List.set_cons_zero])))
          refine wpAnyH_ready (rs := [2]) (by kernel_rfl) (by simp) ?_
          refine AllReadyH.cons rfl (fun K2 hK2 => ?_) AllReadyH.nil
          go_simp
          refine (HSM.out wb.drew (below_drewN (Below.refl _ _) 1)).mono ?_
          rintro e wc ⟨rfl, hbc⟩
          have HBC := Lib.hid ((HBB.out.below (w' := wb.drew) (below_drewN (Below.refl _ _) 1)).below hbc.out)
          go_wp2_with fail
          refine hK2.out _ _ (by (try dsimp only); exact ⟨HBC.out.box.cell 1, HBC.out.box.cell 2⟩) (fun _ => ?_)
          clear hK2 K2
          (try simp only [List.getElem_toArray]); (try simp only [List.getElem_cons_succ]); (try simp only [List.getElem_cons_zero]); (try simp only [Act.put]); (try simp only [List.setIfInBounds_toArray]); (try simp only [List.set_cons_succ]); (try simp only [List.set_cons_zero])
          (refine wpAnyH_take (i := 3) (v := ?_) rfl (by kernel_rfl) (by kernel_rfl) (by kernel_rfl) (fun _ _ _ h => h) (Or.inl ⟨by rfl, ?_⟩) (by assumption) ?_; rotate_left; (intro w hSw; (try dsimp only at hSw); go_simp; try with_reducible rfl); ((try simp only [List.getElem_toArray]); (try simp only [List.getElem_cons_succ]); (try simp only [List.getElem_cons_zero]); (try simp only [Act.put]); (try simp only [List.setIfInBounds_toArray]); (try simp only [List.set_cons_succ]); (try simp only [List.set_cons_zero])))
          (refine wpAnyH_take (i := 4) (v := ?_) rfl (by kernel_rfl) (by kernel_rfl) (by kernel_rfl) (fun _ _ _ h => h) (Or.inl ⟨by rfl, ?_⟩) (by assumption) ?_; rotate_left; (intro w hSw; (try dsimp only at hSw); go_simp; try with_reducible rfl); ((try simp only [List.getElem_toArray]); (try simp only [List.getElem_cons_succ]); (try simp only [List.getElem_cons_zero]); (try simp only [Act.put]); (try simp only [List.setIfInBounds_toArray]); (try simp only [List.set_cons_succ]); (try simp only [List.set_cons_zero])))
          (refine wpAnyH_take (i := 5) (v := ?_) rfl (by kernel_rfl) (by kernel_rfl) (by kernel_rfl) (fun _ _ _ h => h) (Or.inl ⟨by rfl, ?_⟩) (by assumption) ?_; rotate_left; (intro w hSw; (try dsimp only at hSw); go_simp; try with_reducible rfl); ((try simp only [List.getElem_toArray]); (try simp only [List.getElem_cons_succ]); (try simp only [List.getElem_cons_zero]); (try simp only [Act.put]); (try simp only [List.setIfInBounds_toArray]); (try simp only [List.set_cons_succ]); (try simp only [List.set_cons_zero])))
          (refine wpAnyH_take (i := 6) (v := ?_) rfl (by kernel_rfl) (by kernel_rfl) (by kernel_rfl) (fun _ _ _ h => h) (Or.inl ⟨by rfl, ?_⟩) (by assumption) ?_; rotate_left; (intro w hSw; (try dsimp only at hSw); go_simp; try with_reducible rfl); ((try simp only [List.getElem_toArray]); (try simp only [List.getElem_cons_succ]); (try simp only [List.getElem_cons_zero]); (try simp only [Act.put]); (try simp only [List.setIfInBounds_toArray]); (try simp only [List.set_cons_succ]); (try simp only [List.set_cons_zero])))
          (refine wpAnyH_take (i := 7) (v := ?_) rfl (by kernel_rfl) (by kernel_rfl) (by kernel_rfl) (fun _ _ _ h => h) (Or.inl ⟨by rfl, ?_⟩) (by assumption) ?_; rotate_left; (intro w hSw; (try dsimp only at hSw); go_simp; try with_reducible rfl); ((try simp only [List.getElem_toArray]); (try simp only [List.getElem_cons_succ]); (try simp only [List.getElem_cons_zero]); (try simp only [Act.put]); (try simp only [List.setIfInBounds_toArray]); (try simp only [List.set_cons_succ]); (try simp only [List.set_cons_zero])))
          (refine wpAnyH_take (i := 8) (v := ?_) rfl (by kernel_rfl) (by kernel_rfl) (by kernel_rfl) (fun _ _ _ h => h) (Or.inl ⟨by rfl, ?_⟩) (by assumption) ?_; rotate_left; (intro w hSw; (try dsimp only at hSw); go_simp; try with_reducible rfl); ((try simp only [List.getElem_toArray]); (try simp only [List.getElem_cons_succ]); (try simp only [List.getElem_cons_zero]); (try simp only [Act.put]); (try simp only [List.setIfInBounds_toArray]); (try simp only [List.set_cons_succ]); (try simp only [List.set_cons_zero])))
          (refine wpAnyH_take (i := 9) (v := ?_) rfl (by kernel_rfl) (by kernel_rfl) (by kernel_rfl) (fun _ _ _ h => h) (Or.inl ⟨by rfl, ?_⟩) (by assumption) ?_; rotate_left; (intro w hSw; (try dsimp only at hSw); go_simp; try with_reducible rfl); ((try simp only [List.getElem_toArray]); (try simp only [List.getElem_cons_succ]); (try simp only [List.getElem_cons_zero]); (try simp only [Act.put]); (try simp only [List.setIfInBounds_toArray]); (try simp only [List.set_cons_succ]); (try simp only [List.set_cons_zero])))
          (refine wpAnyH_take (i := 10) (v := ?_) rfl (by kernel_rfl) (by kernel_rfl) (by kernel_rfl) (fun _ _ _ h => h) (Or.inl ⟨by rfl, ?_⟩) (by assumption) ?_; rotate_left; (intro w hSw; (try dsimp only at hSw); go_simp; try with_reducible rfl); ((try simp only [List.getElem_toArray]); (try simp only [List.getElem_cons_succ]); (try simp only [List.getElem_cons_zero]); (try simp only [Act.put]); (try simp only [List.setIfInBounds_toArray]); (try simp only [List.set_cons_succ]); (try simp only [List.set_cons_zero])))
          (refine wpAnyH_take (i := 11) (v := ?_) rfl (by kernel_rfl) (by kernel_rfl) (by kernel_rfl) (fun _ _ _ h => h) (Or.inl ⟨by rfl, ?_⟩) (by assumption) ?_; rotate_left; (intro w hSw; (try dsimp only at hSw); go_simp; try with_reducible rfl); ((try simp only [List.getElem_toArray]); (try simp only [List.getElem_cons_succ]); (try simp only [List.getElem_cons_zero]); (try simp only [Act.put]); (try simp only [List.setIfInBounds_toArray]); (try simp only [List.set_cons_succ]); (try simp only [List.set_cons_zero])))
          (refine wpAnyH_take (i := 12) (v := ?_) rfl (by kernel_rfl) (by kernel_rfl) (by kernel_rfl) (fun _ _ _ h => h) (Or.inl ⟨by rfl, ?_⟩) (by assumption) ?_; rotate_left; (intro w hSw; (try dsimp only at hSw); go_simp; try with_reducible rfl); ((try simp only [List.getElem_toArray]); (try simp only [List.getElem_cons_succ]); (try simp only [List.getElem_cons_zero]); (try simp only [Act.put]); (try simp only [List.setIfInBounds_toArray]); (try simp only [List.set_cons_succ]); (try simp only [List.set_cons_zero])))
          (refine wpAnyH_take (i := 13) (v := ?_) rfl (by kernel_rfl) (by kernel_rfl) (by kernel_rfl) (fun _ _ _ h => h) (Or.inl ⟨by rfl, ?_⟩) (by assumption) ?_; rotate_left; (intro w hSw; (try dsimp only at hSw); go_simp; try with_reducible rfl); ((try simp only [List.getElem_toArray]); (try simp only [List.getElem_cons_succ]); (try simp only [List.getElem_cons_zero]); (try simp only [Act.put]); (try simp only [List.setIfInBounds_toArray]); (try simp only [List.set_cons_succ]); (try simp only [List.set_cons_zero])))
          (refine wpAnyH_take (i := 14) (v := ?_) rfl (by kernel_rfl) (by kernel_rfl) (by kernel_rfl) (fun _ _ _ h => h) (Or.inl ⟨by rfl, ?_⟩) (by assumption) ?_; rotate_left; (intro w hSw; (try dsimp only at hSw); go_simp; try with_reducible rfl); ((try simp only [List.getElem_toArray]); (try simp only [List.getElem_cons_succ]); (try simp only [List.getElem_cons_zero]); (try simp only [Act.put]); (try simp only [List.setIfInBounds_toArray]); (try simp only [List.set_cons_succ]); (try simp only [List.set_cons_zero])))
          (refine wpAnyH_take (i := 15) (v := ?_) rfl (by kernel_rfl) (by kernel_rfl) (by kernel_rfl) (fun _ _ _ h => h) (Or.inl ⟨by rfl, ?_⟩) (by assumption) ?_; rotate_left; (intro w hSw; (try dsimp only at hSw); go_simp; try with_reducible rfl); ((try simp only [List.getElem_toArray]); (try simp only [List.getElem_cons_succ]); (try simp only [List.getElem_cons_zero]); (try simp only [Act.put]); (try simp only [List.setIfInBounds_toArray]); (try simp only [List.set_cons_succ]); (try simp only [List.set_cons_zero])))
          (refine wpAnyH_take (i := 17) (v := ?_) rfl (by kernel_rfl) (by kernel_rfl) (by kernel_rfl) (fun _ _ _ h => h) (Or.inl ⟨by rfl, ?_⟩) (by assumption) ?_; rotate_left; (intro w hSw; (try dsimp only at hSw); go_simp; try with_reducible rfl); ((try simp only [List.getElem_toArray]); (try simp only [List.getElem_cons_succ]); (try simp only [List.getElem_cons_zero]); (try simp only [Act.put]); (try simp only [List.setIfInBounds_toArray]); (try simp only [List.set_cons_succ]); (try simp only [List.set_cons_zero])))
          (refine wpAnyH_take (i := 18) (v := ?_) rfl (by kernel_rfl) (by kernel_rfl) (by kernel_rfl) (fun _ _ _ h => h) (Or.inl ⟨by rfl, ?_⟩) (by assumption) ?_; rotate_left; (intro w hSw; (try dsimp only at hSw); go_simp; try with_reducible rfl); ((try simp only [List.getElem_toArray]); (try simp only [List.getElem_cons_succ]); (try simp only [List.getElem_cons_zero]); (try simp only [Act.put]); (try simp only [List.setIfInBounds_toArray]); (try simp only [List.set_cons_succ]); (try simp only [List.set_cons_zero])))
          (refine wpAnyH_take (i := 19) (v := ?_) rfl (by kernel_rfl) (by kernel_rfl) (by kernel_rfl) (fun _ _ _ h => h) (Or.inl ⟨by rfl, ?_⟩) (by assumption) ?_; rotate_left; (intro w hSw; (try dsimp only at hSw); go_simp; try with_reducible rfl); ((try simp only [List.getElem_toArray]); (try simp only [List.getElem_cons_succ]); (try simp only [List.getElem_cons_zero]); (try simp only [Act.put]); (try simp only [List.setIfInBounds_toArray]); (try simp only [List.set_cons_succ]); (try simp only [List.set_cons_zero])))
          have HLN := Lib.hid (len_any HBC.out.buf)
          rw [List.length_map, HNL.out] at HLN
          refine wpAnyH_ready (rs := [16]) (by kernel_rfl) (by simp) ?_
          refine AllReadyH.cons rfl (fun K2 hK2 => ?_) AllReadyH.nil
          go_simp
          refine (HLN.out).mono ?_
          rintro e wd ⟨rfl, rfl⟩
          go_wp2_with fail
          refine hK2.out _ _ (by (try dsimp only); exact ⟨HBC.out.box.cell 1, HBC.out.box.cell 2⟩) (fun _ => ?_)
          clear hK2 K2
          (try simp only [List.getElem_toArray]); (try simp only [List.getElem_cons_succ]); (try simp only [List.getElem_cons_zero]); (try simp only [Act.put]); (try simp only [List.setIfInBounds_toArray]); (try simp only [List.set_cons_succ]); (try simp only [List.set_cons_zero])
          (refine wpAnyH_take (i := 20) (v := ?_) rfl (by kernel_rfl) (by kernel_rfl) (by kernel_rfl) (fun _ _ _ h => h) (Or.inl ⟨by rfl, ?_⟩) (by assumption) ?_; rotate_left; (intro w hSw; (try dsimp only at hSw); go_simp; try with_reducible rfl); ((try simp only [List.getElem_toArray]); (try simp only [List.getElem_cons_succ]); (try simp only [List.getElem_cons_zero]); (try simp only [Act.put]); (try simp only [List.setIfInBounds_toArray]); (try simp only [List.set_cons_succ]); (try simp only [List.set_cons_zero])))
          (refine wpAnyH_take (i := 21) (v := ?_) rfl (by kernel_rfl) (by kernel_rfl) (by kernel_rfl) (fun _ _ _ h => h) (Or.inl ⟨by rfl, ?_⟩) (by assumption) ?_; rotate_left; (intro w hSw; (try dsimp only at hSw); go_simp; try with_reducible rfl); ((try simp only [List.getElem_toArray]); (try simp only [List.getElem_cons_succ]); (try simp only [List.getElem_cons_zero]); (try simp only [Act.put]); (try simp only [List.setIfInBounds_toArray]); (try simp only [List.set_cons_succ]); (try simp only [List.set_cons_zero])))
          (refine wpAnyH_take (i := 22) (v := ?_) rfl (by kernel_rfl) (by kernel_rfl) (by kernel_rfl) (fun _ _ _ h => h) (Or.inl ⟨by rfl, ?_⟩) (by assumption) ?_; rotate_left; (intro w hSw; (try dsimp only at hSw); go_simp; try with_reducible rfl); ((try simp only [List.getElem_toArray]); (try simp only [List.getElem_cons_succ]); (try simp only [List.getElem_cons_zero]); (try simp only [Act.put]); (try simp only [List.setIfInBounds_toArray]); (try simp only [List.set_cons_succ]); (try simp only [List.set_cons_zero])))
          (refine wpAnyH_take (i := 23) (v := ?_) rfl (by kernel_rfl) (by kernel_rfl) (by kernel_rfl) (fun _ _ _ h => h) (Or.inl ⟨by rfl, ?_⟩) (by assumption) ?_; rotate_left; (intro w hSw; (try dsimp only at hSw); go_simp; try with_reducible rfl); ((try simp only [List.getElem_toArray]); (try simp only [List.getElem_cons_succ]); (try simp only [List.getElem_cons_zero]); (try simp only [Act.put]); (try simp only [List.setIfInBounds_toArray]); (try simp only [List.set_cons_succ]); (try simp only [List.set_cons_zero])))
          (refine wpAnyH_take (i := 25) (v := ?_) rfl (by kernel_rfl) (by kernel_rfl) (by kernel_rfl) (fun _ _ _ h => h) (Or.inl ⟨by rfl, ?_⟩) (by assumption) ?_; rotate_left; (intro w hSw; (try dsimp only at hSw); go_simp; try with_reducible rfl); ((try simp only [List.getElem_toArray]); (try simp only [List.getElem_cons_succ]); (try simp only [List.getElem_cons_zero]); (try simp only [Act.put]); (try simp only [List.setIfInBounds_toArray]); (try simp only [List.set_cons_succ]); (try simp only [List.set_cons_zero])))
          (refine wpAnyH_take (i := 26) (v := ?_) rfl (by kernel_rfl) (by kernel_rfl) (by kernel_rfl) (fun _ _ _ h => h) (Or.inl ⟨by rfl, ?_⟩) (by assumption) ?_; rotate_left; (intro w hSw; (try dsimp only at hSw); go_simp; try with_reducible rfl); ((try simp only [List.getElem_toArray]); (try simp only [List.getElem_cons_succ]); (try simp only [List.getElem_cons_zero]); (try simp only [Act.put]); (try simp only [List.setIfInBounds_toArray]); (try simp only [List.set_cons_succ]); (try simp only [List.set_cons_zero])))
          (refine wpAnyH_take (i := 27) (v := ?_) rfl (by kernel_rfl) (by kernel_rfl) (by kernel_rfl) (fun _ _ _ h => h) (Or.inl ⟨by rfl, ?_⟩) (by assumption) ?_; rotate_left; (intro w hSw; (try dsimp only at hSw); go_simp; try with_reducible rfl); ((try simp only [List.getElem_toArray]); (try simp only [List.getElem_cons_succ]); (try simp only [List.getElem_cons_zero]); (try simp only [Act.put]); (try simp only [List.setIfInBounds_toArray]); (try simp only [List.set_cons_succ]); (try simp only [List.set_cons_zero])))
          have HOP := Lib.hid (open_any HBC.out.buf)
          rw [hob] at HOP
          refine wpAnyH_ready (rs := [24]) (by kernel_rfl) (by simp) ?_
          refine AllReadyH.cons rfl (fun K2 hK2 => ?_) AllReadyH.nil
          go_simp
          refine (HOP.out).mono ?_
          rintro e we ⟨rfl, rfl⟩
          go_wp2_with fail
          refine hK2.out _ _ (by (try dsimp only); exact ⟨HBC.out.box.cell 1, HBC.out.box.cell 2⟩) (fun _ => ?_)
          clear hK2 K2
          (try simp only [List.getElem_toArray]); (try simp only [List.getElem_cons_succ]); (try simp only [List.getElem_cons_zero]); (try simp only [Act.put]); (try simp only [List.setIfInBounds_toArray]); (try simp only [List.set_cons_succ]); (try simp only [List.set_cons_zero])
          (refine wpAnyH_take (i := 28) (v := ?_) rfl (by kernel_rfl) (by kernel_rfl) (by kernel_rfl) (fun _ _ _ h => h) (Or.inl ⟨by rfl, ?_⟩) (by assumption) ?_; rotate_left; (intro w hSw; (try dsimp only at hSw); go_simp; try with_reducible rfl); ((try simp only [List.getElem_toArray]); (try simp only [List.getElem_cons_succ]); (try simp only [List.getElem_cons_zero]); (try simp only [Act.put]); (try simp only [List.setIfInBounds_toArray]); (try simp only [List.set_cons_succ]); (try simp only [List.set_cons_zero])))
          (refine wpAnyH_take (i := 29) (v := ?_) rfl (by kernel_rfl) (by kernel_rfl) (by kernel_rfl) (fun _ _ _ h => h) (Or.inl ⟨by rfl, ?_⟩) (by assumption) ?_; rotate_left; (intro w hSw; (try dsimp only at hSw); go_simp; try with_reducible rfl); ((try simp only [List.getElem_toArray]); (try simp only [List.getElem_cons_succ]); (try simp only [List.getElem_cons_zero]); (try simp only [Act.put]); (try simp only [List.setIfInBounds_toArray]); (try simp only [List.set_cons_succ]); (try simp only [List.set_cons_zero])))
          (refine wpAnyH_take (i := 30) (v := ?_) rfl (by kernel_rfl) (by kernel_rfl) (by kernel_rfl) (fun _ _ _ h => h) (Or.inl ⟨by rfl, ?_⟩) (by assumption) ?_; rotate_left; (intro w hSw; (try dsimp only at hSw); go_simp; try with_reducible rfl); ((try simp only [List.getElem_toArray]); (try simp only [List.getElem_cons_succ]); (try simp only [List.getElem_cons_zero]); (try simp only [Act.put]); (try simp only [List.setIfInBounds_toArray]); (try simp only [List.set_cons_succ]); (try simp only [List.set_cons_zero])))
          (refine wpAnyH_take (i := 31) (v := ?_) rfl (by kernel_rfl) (by kernel_rfl) (by kernel_rfl) (fun _ _ _ h => h) (Or.inl ⟨by rfl, ?_⟩) (by assumption) ?_; rotate_left; (intro w hSw; (try dsimp only at hSw); go_simp; try with_reducible rfl); ((try simp only [List.getElem_toArray]); (try simp only [List.getElem_cons_succ]); (try simp only [List.getElem_cons_zero]); (try simp only [Act.put]); (try simp only [List.setIfInBounds_toArray]); (try simp only [List.set_cons_succ]); (try simp only [List.set_cons_zero])))
          (refine wpAnyH_take (i := 33) (v := ?_) rfl (by kernel_rfl) (by kernel_rfl) (by kernel_rfl) (fun _ _ _ h => h) (Or.inl ⟨by rfl, ?_⟩) (by assumption) ?_; rotate_left; (intro w hSw; (try dsimp only at hSw); go_simp; try with_reducible rfl); ((try simp only [List.getElem_toArray]); (try simp only [List.getElem_cons_succ]); (try simp only [List.getElem_cons_zero]); (try simp only [Act.put]); (try simp only [List.setIfInBounds_toArray]); (try simp only [List.set_cons_succ]); (try simp only [List.set_cons_zero])))
          (refine wpAnyH_take (i := 34) (v := ?_) rfl (by kernel_rfl) (by kernel_rfl) (by kernel_rfl) (fun _ _ _ h => h) (Or.inl ⟨by rfl, ?_⟩) (by assumption) ?_; rotate_left; (intro w hSw; (try dsimp only at hSw); go_simp; try with_reducible rfl); ((try simp only [List.getElem_toArray]); (try simp only [List.getElem_cons_succ]); (try simp only [List.getElem_cons_zero]); (try simp only [Act.put]); (try simp only [List.setIfInBounds_toArray]); (try simp only [List.set_cons_succ]); (try simp only [List.set_cons_zero])))
          have HNM := Lib.hid (number_any HBC.out.buf)
          refine wpAnyH_ready (rs := [32]) (by kernel_rfl) (by simp) ?_
          refine AllReadyH.cons rfl (fun K2 hK2 => ?_) AllReadyH.nil
          go_simp
          refine (HNM.out).mono ?_
          rintro e wf ⟨rfl, rfl⟩
          go_wp2_with fail
          refine hK2.out _ _ (by (try dsimp only); exact ⟨HBC.out.box.cell 1, HBC.out.box.cell 2⟩) (fun _ => ?_)
          clear hK2 K2
          (try simp only [List.getElem_toArray]); (try simp only [List.getElem_cons_succ]); (try simp only [List.getElem_cons_zero]); (try simp only [Act.put]); (try simp only [List.setIfInBounds_toArray]); (try simp only [List.set_cons_succ]); (try simp only [List.set_cons_zero])
          (refine wpAnyH_take (i := 35) (v := ?_) rfl (by kernel_rfl) (by kernel_rfl) (by kernel_rfl) (fun _ _ _ h => h) (Or.inl ⟨by rfl, ?_⟩) (by assumption) ?_; rotate_left; (intro w hSw; (try dsimp only at hSw); go_simp; try with_reducible rfl); ((try simp only [List.getElem_toArray]); (try simp only [List.getElem_cons_succ]); (try simp only [List.getElem_cons_zero]); (try simp only [Act.put]); (try simp only [List.setIfInBounds_toArray]); (try simp only [List.set_cons_succ]); (try simp only [List.set_cons_zero])))
          (refine wpAnyH_take (i := 36) (v := ?_) rfl (by kernel_rfl) (by kernel_rfl) (by kernel_rfl) (fun _ _ _ h => h) (Or.inl ⟨by rfl, ?_⟩) (by assumption) ?_; rotate_left; (intro w hSw; (try dsimp only at hSw); go_simp; try with_reducible rfl); ((try simp only [List.getElem_toArray]); (try simp only [List.getElem_cons_succ]); (try simp only [List.getElem_cons_zero]); (try simp only [Act.put]); (try simp only [List.setIfInBounds_toArray]); (try simp only [List.set_cons_succ]); (try simp only [List.set_cons_zero])))
          refine wpAnyH_done (by kernel_rfl) ?_ _
          clear HLN HOP HNM
          go_wp2_with fail
          go_roundw
          case rel => exact ⟨i + 1, nu, Tn.map Er.x, F', Tn, A2, n2, c2, by omega, by omega, by go_num, HBC⟩
          case measure => simp [intOf]; omega
    · by_cases hi1 : i < n
      · have g1 : (i : Int) < (n : Int) := by omega
        have g2 : ¬ (i : Int) < 40 := by omega
        go_wp2_with fail
        refine (lives_any _).mono ?_
        rintro e w6 ⟨rfl, hb6⟩
        have HF := Lib.hid (HT.out.bel.trans (hb6.out.mono HT.out.bel.size))
        go_wp2_with fail
        go_ret
        exact ⟨by rfl, HF.out⟩
      · have g1 : ¬ (i : Int) < (n : Int) := by omega
        go_wp2_with fail
        refine (lives_any _).mono ?_
        rintro e w6 ⟨rfl, hb6⟩
        have HF := Lib.hid (HT.out.bel.trans (hb6.out.mono HT.out.bel.size))
        go_wp2_with fail
        go_ret
        exact ⟨by rfl, HF.out⟩
end Go.Proofs.Ytjkmbggaoinkdaa.txbufPlays
