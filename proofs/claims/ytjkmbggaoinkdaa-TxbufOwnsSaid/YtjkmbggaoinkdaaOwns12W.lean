/-
  TxbufOwns: its walk.
-/
import Derived.Test.YtjkmbggaoinkdaaTbL
import Derived.Test.YtjkmbggaoinkdaaTbS
import Derived.Test.YtjkmbggaoinkdaaTbO
import Derived.Deep.DeepCutAuto
namespace Go.Proofs.Ytjkmbggaoinkdaa.txbufOwns
open Go.RowKit Go.Maps Dg
set_option maxRecDepth 100000
set_option linter.unusedVariables false
/-- An Insert of a row, as it lies. -/
def ins (M : List Vl) (A : Option Addr) (n c : Nat) : Er := ⟨⟨3, 0, ⟨#[116]⟩, [], M, 0, ⟨#[]⟩, [], 0, ⟨⟨#[]⟩, 0, false⟩⟩, none, 0, 0, A, n, c, none, 0, 0⟩
theorem ins_ok {w : World} {M : List Vl} {A : Option Addr} {n c : Nat} (h1 : M.length = n) (h2 : n ≤ 1000) (h3 : VRow w A M) (h4 : A = none → c = 0) : (ins M A n c).ok w :=
  ⟨⟨rfl, Nat.zero_le _, fun h => absurd rfl h, fun _ => rfl⟩, ⟨h1, by show n ≤ _; omega, h3, h4⟩, ⟨rfl, Nat.zero_le _, fun h => absurd rfl h, fun _ => rfl⟩⟩
theorem vtake {w : World} {A : Option Addr} {L : List Vl} (h : VRow w A L) (k : Nat) : VRow w A (L.take k) := fun hne => by
  have h0 : L ≠ [] := fun e => hne (by rw [e]; simp)
  obtain ⟨b, off, e, hc⟩ := h h0
  refine ⟨b, off, e, fun i hi => ?_⟩
  have hi2 : i < L.length := by rw [List.length_take] at hi; omega
  rw [List.getElem_take]
  exact hc i hi2
theorem ownV_own {B : Nat} {w : World} {v : Value} {L : List Vl} (h : OwnV B w v L) : ∃ A n c, v = .slice A n c ∧ Hid (L.length = n) ∧ n ≤ c ∧ c ≤ maxLen ∧ Hid (VRow w A L) ∧ Hid (A = none → c = 0) ∧ Hid (∀ a, A = some a → (Value.slice A n c).ownBlock = some a.block ∧ B ≤ a.block ∧ a.block < w.heap.size) := by
  obtain ⟨A, c, e, h1, h2, h3, h4⟩ := ownV_row h
  subst e
  refine ⟨A, L.length, c, rfl, rfl, h1, h2, h3, h4, fun a e => ?_⟩
  subst e
  exact ⟨rfl, World.ownsRow.lt h a.block rfl⟩
/-- A value's number is written over. -/
theorem inc {B : Nat} {w : World} {A : Option Addr} {n c : Nat} {L : List Vl} (h : OwnV B w (.slice A n c) L) (hn : L.length = n) (i : Nat) (hi : i < n) : ∃ g N, A = some ⟨g, 0, none⟩ ∧ B ≤ g ∧ n ≤ c ∧ w.frozen? ⟨g, i * 3 + 1, none⟩ = false ∧ w.cell? ⟨g, i * 3 + 1, none⟩ = some (.int .i64 N) ∧ ∀ N' : Int, ∃ L', L'.length = n ∧ OwnV B (w.setCell ⟨g, i * 3 + 1, none⟩ (.int .i64 N')) (.slice A n c) L' := by
  have hiL : i < L.length := by omega
  obtain ⟨g, c1, hv, hB, hc, hf, hcl, _⟩ := ownV_put h i hiL 1 (by omega) (.int .i64 0) ⟨L[i].k, 0, L[i].s⟩ rfl
  injection hv with e1 e2 e3
  subst e1 e3
  refine ⟨g, L[i].n, rfl, hB, by omega, hf, hcl, fun N' => ?_⟩
  obtain ⟨g2, c2, hv2, _, _, _, _, ho⟩ := ownV_put h i hiL 1 (by omega) (.int .i64 N') ⟨L[i].k, N', L[i].s⟩ rfl
  injection hv2 with e4 e5 e6
  injection e4 with e4
  injection e4 with e4
  subst e4
  exact ⟨_, by rw [List.length_set]; exact hn, ho⟩
set_option maxHeartbeats 6000000 in
theorem walk (A : Option Addr) (n cap : Nat) (L : List Vl) (w : World) (hn : L.length = n) (hnc : n ≤ cap) (hcm : cap ≤ maxLen) (hA : VRow w A L) (hz : A = none → cap = 0) :
    Calls Try.prog 5 #[.slice A n cap] w fun e w' => e = .returned (.bool true) ∧ Below w.heap.size w w' := by
  have hM0 : VRow w A (L.take 5) := vtake hA 5
  have hMl : (L.take 5).length = min n 5 := by rw [List.length_take]; omega
  obtain ⟨M, hMx⟩ : ∃ M, L.take 5 = M := ⟨_, rfl⟩
  obtain ⟨m, hmx⟩ : ∃ m, min n 5 = m := ⟨_, rfl⟩
  rw [hMx] at hM0 hMl
  rw [hmx] at hMl
  unfold maxLen at hcm
  clear hMx hA hn L
  have HN := Lib.hid (new_any 5 w)
  rw [show max (5 : Int) 1 = 5 by decide] at HN
  have HB0 := Lib.hid (buf_new w 5)
  have hl0 := (Below.refl w.heap.size w).alloc (Nat.le_refl _) (.cells #[.int .i64 5, .int .i64 (-1), .slice none 0 0] 55)
  have hs0 : (w.alloc (.cells #[.int .i64 5, .int .i64 (-1), .slice none 0 0] 55)).heap.size = w.heap.size + 1 := by simp
  obtain ⟨w0, hw0⟩ : ∃ W, W = w.alloc (.cells #[.int .i64 5, .int .i64 (-1), .slice none 0 0] 55) := ⟨_, rfl⟩
  rw [← hw0] at HN HB0 hl0 hs0
  clear hw0
  have hM1 : VRow w0 A M := hM0.below hl0
  obtain ⟨R1, W1, hrun1, ho1, ht1, hq1⟩ := appVt w0 w0.heap.size (.slice none 0 0) [] A m cap M (ownV_nil _ _) (Nat.le_refl _) hMl hM1 hz (by simp; omega)
  have hrun1' : (Builtin.append_ #[29, 28] 29 #[.slice none 0 0, .slice A m cap]).run Try.prog w0 = .ok R1 W1 := (append_tx w0 Try.underlying29 Try.underlying28).trans hrun1
  obtain ⟨A1, n1, c1, rfl, hn1, hc1, hm1, hr1, hz1, hg1⟩ := ownV_own ho1
  have hb1 : Below w0.heap.size w0 W1 := ht1.below (fun k hk => by cases hk) (Nat.le_refl _)
  rw [List.nil_append] at ho1 hn1
  have hvb : VRow (W1.alloc (.cells #[.int .i64 2, .int .i64 1, .string ⟨#[]⟩] 51)) (some ⟨W1.heap.size, 0, none⟩) [⟨2, 1, ⟨#[]⟩⟩] := fun _ => ⟨W1.heap.size, 0, rfl, fun j hj => by
    have e0 : j = 0 := by simp at hj; omega
    subst e0
    have q := Has.new W1 51 #[.int .i64 2, .int .i64 1, .string ⟨#[]⟩]
    exact ⟨q.cell 0, q.cell 1, q.cell 2⟩⟩
  have hb1a : Below W1.heap.size W1 (W1.alloc (.cells #[.int .i64 2, .int .i64 1, .string ⟨#[]⟩] 51)) := (Below.refl _ _).alloc (Nat.le_refl _) _
  obtain ⟨R2, W2, hrun2, ho2, ht2, hq2⟩ := appVt _ w0.heap.size (.slice A1 n1 c1) M (some ⟨W1.heap.size, 0, none⟩) 1 1 [⟨2, 1, ⟨#[]⟩⟩] (ho1.below hb1a) (Nat.le_trans hb1.size hb1a.size) rfl hvb (fun e => by cases e) (by have := hn1.out; omega)
  obtain ⟨A2, n2, c2, rfl, hn2, hc2, hm2, hr2, hz2, hg2⟩ := ownV_own ho2
  have hb2 : Below w0.heap.size w0 W2 := (hb1.trans (hb1a.mono hb1.size)).trans (ht2.below (fun k hk => (World.ownsRow.lt ho1 k (by simpa using hk)).1) (Nat.le_trans hb1.size hb1a.size))
  obtain ⟨R3, W3, hrun3, ho3, ht3, hq3⟩ := appVt W2 W2.heap.size (.slice none 0 0) [] A2 n2 c2 (M ++ [⟨2, 1, ⟨#[]⟩⟩]) (ownV_nil _ _) (Nat.le_refl _) hn2.out hr2.out hz2.out (by have := hn2.out; simp at this; simp; omega)
  obtain ⟨A3, n3, c3, rfl, hn3, hc3, hm3, hr3, hz3, hg3⟩ := ownV_own ho3
  have hb3 : Below W2.heap.size W2 W3 := ht3.below (fun k hk => by cases hk) (Nat.le_refl _)
  rw [List.nil_append] at ho3
  have HR1 := Lib.hid hrun1'
  have HR2 := Lib.hid hrun2
  have HR3 := Lib.hid hrun3
  have HRow2 : Hid (OwnV (w.heap.size + 1) W2 (.slice A2 n2 c2) (M ++ [⟨2, 1, ⟨#[]⟩⟩])) := by have q := ho2; rw [hs0] at q; exact q
  have HRow : Hid (OwnV (w.heap.size + 1) W3 (.slice A2 n2 c2) (M ++ [⟨2, 1, ⟨#[]⟩⟩])) := HRow2.out.below hb3
  have HKeep : Hid (OwnV W2.heap.size W3 (.slice A3 n3 c3) (M ++ [⟨2, 1, ⟨#[]⟩⟩])) := ho3
  have HB3 := Lib.hid (HB0.out.below (hb2.trans (hb3.mono hb2.size)))
  have HL3 := Lib.hid (hl0.trans ((hb2.trans (hb3.mono hb2.size)).mono hl0.size))
  have HB0lt : Hid (w.heap.size < w.heap.size + 1) := Nat.lt_succ_self _
  have HW2s : Hid (w.heap.size + 1 ≤ W2.heap.size) := by have q := hb2.size; rw [hs0] at q; exact q
  have HW2s2 : Hid (W2.heap.size ≤ W3.heap.size) := hb3.size
  have HN2 : Hid ((M ++ [(⟨2, 1, ⟨#[]⟩⟩ : Vl)]).length = n2) := hn2
  have HP1 := Lib.hid (put_is HB3.out (by decide) (er0 2 0 ⟨#[]⟩ 0 ⟨#[]⟩) (er0_ok ..) (by simp) (num' := 0) (E' := []) (L := []) (s := false) (er := 0) (by simp [putF, er0]))
  unfold maxLen at hm1 hm2 hm3
  clear hrun1 hrun1' hrun2 hrun3 ho1 ho2 ho3 ht1 ht2 ht3 hq1 hq2 hq3 hb1 hb1a hb2 hb3 hn1 hn2 hn3 hr1 hr2 hr3 hz1 hz2 hz3 hg1 hg2 hg3 hvb hM0 hM1 hl0 HB0 HB3
  go_enter Try.func5, Try.ntmps5
  go_wp2_with fail
  refine HN.out.mono ?_
  rintro e w1 ⟨rfl, rfl⟩
  go_upto_if 16 with (fail)
  go_cut [0] (fun s0 wx => s0 = .slice A m cap ∧ w1 = wx)
  case first =>
    by_cases gn : 5 < n
    · have E2 : Hid (m = 5) := by show _ = _; omega
      have gn1 : (5 : Int) < (n : Int) := by omega
      have gn2 : (5 : Int) ≤ (cap : Int) := by omega
      go_wp2_with fail
      go_meet
      exact ⟨by rw [E2.out], rfl⟩
    · have E2 : Hid (m = n) := by show _ = _; omega
      have gn1 : ¬ (5 : Int) < (n : Int) := by omega
      go_wp2_with fail
      go_meet
      exact ⟨by rw [E2.out], rfl⟩
  case rest =>
    obtain ⟨rfl, rfl⟩ := hcut
    go_wp2_with (at_builtin; first | refine wpList_app rfl _ _ 29 28 rfl (.slice none 0 0) (.slice A m cap) rfl rfl ⟨_, W1, HR1.out, ?_⟩ | refine wpList_app rfl _ _ 29 29 rfl (.slice A1 n1 c1) (.slice (some ⟨W1.heap.size, 0, none⟩) 1 1) rfl rfl ⟨_, W2, HR2.out, ?_⟩ | refine wpList_app rfl _ _ 29 29 rfl (.slice none 0 0) (.slice A2 n2 c2) rfl rfl ⟨_, W3, HR3.out, ?_⟩)
    clear HR1 HR2 HR3 HN
    refine HP1.out.mono ?_
    rintro e w4 ⟨tv1, F1, rfl, _, h4, t4, f4⟩
    have HRow4 := Lib.hid (HRow.out.tur t4.out (fun g hg hh => by simp at hh; have := (World.ownsRow.lt HRow.out g hg).1; have := HB0lt.out; omega))
    have HKeep4 := Lib.hid (HKeep.out.tur t4.out (fun g hg hh => by simp at hh; have := (World.ownsRow.lt HKeep.out g hg).1; have := HB0lt.out; have := HW2s.out; omega))
    have HL4 : Hid (Below w.heap.size w w4) := HL3.out.trans (t4.out.below (fun k hk => by simp at hk; omega) HL3.out.size)
    obtain ⟨Aq, nq, cq, eq1, hnq, hcq, hmq, hrq, hzq, hgq⟩ := ownV_own HRow4.out
    obtain ⟨rfl, rfl, rfl⟩ : A2 = Aq ∧ n2 = nq ∧ c2 = cq := by injection eq1 with e1 e2 e3; exact ⟨e1, e2, e3⟩
    have HP2 := Lib.hid (put_is h4.out (by decide) (ins (M ++ [⟨2, 1, ⟨#[]⟩⟩]) A2 n2 c2) (ins_ok hnq.out (by have := hnq.out; simp at this; omega) hrq.out hzq.out) (by simp) (num' := 0) (E' := [(ins (M ++ [⟨2, 1, ⟨#[]⟩⟩]) A2 n2 c2).x]) (L := []) (s := false) (er := 0) (by simp [putF, ins]))
    have hblk : ∀ g, (g < W3.heap.size ∧ g ≠ w.heap.size) → g ∉ F1 := fun g hg hh => (f4.out g hh).elim (fun h => by simp at h; exact hg.2 h) (fun h => by omega)
    have HF1 := Lib.hid hblk
    have hs34 := t4.out.size
    clear HP1 t4 f4 hblk hnq hrq hzq hgq eq1
    go_wp2_with fail
    refine HP2.out.mono ?_
    rintro e w5 ⟨tv2, F2, rfl, _, h5, t5, f5⟩
    have HRow5 := Lib.hid (HRow4.out.tur t5.out (fun g hg => HF1.out g ⟨(World.ownsRow.lt HRow.out g hg).2, by have := (World.ownsRow.lt HRow.out g hg).1; have := HB0lt.out; omega⟩))
    have HKeep5 := Lib.hid (HKeep4.out.tur t5.out (fun g hg => HF1.out g ⟨(World.ownsRow.lt HKeep.out g hg).2, by have := (World.ownsRow.lt HKeep.out g hg).1; have := HB0lt.out; have := HW2s.out; omega⟩))
    have HL5 : Hid (Below w.heap.size w w5) := HL4.out.trans (t5.out.below (fun k hk => h4.out.low k hk) HL4.out.size)
    have HF2 : Hid (∀ g, (g < W3.heap.size ∧ g ≠ w.heap.size) → g ∉ F2) := fun g hg hh => (f5.out g hh).elim (HF1.out g hg) (fun h => by omega)
    have hlr : (M ++ [(⟨2, 1, ⟨#[]⟩⟩ : Vl)]).length = n2 := HN2.out
    have HRL : Hid (∃ Li, Li.length = n2 ∧ OwnV (w.heap.size + 1) w5 (.slice A2 n2 c2) Li) := ⟨_, hlr, HRow5.out⟩
    clear HP2 t5 f5 HF1 h4 HL4 HRow4 HKeep4 HRow5
    go_wp2_with fail
    go_loopw [6] (fun u6 wr => ∃ i : Nat, i ≤ n2 ∧ u6 = .int .i64 i ∧ Hid (∃ Li, Li.length = n2 ∧ OwnV (w.heap.size + 1) wr (.slice A2 n2 c2) Li) ∧ Hid (OwnV W2.heap.size wr (.slice A3 n3 c3) (M ++ [⟨2, 1, ⟨#[]⟩⟩])) ∧ Hid (BufAt w.heap.size wr 5 0 [(ins (M ++ [⟨2, 1, ⟨#[]⟩⟩]) A2 n2 c2).x] F2) ∧ Hid (Below w.heap.size w wr)) (fun u6 _ => n2 - (intOf u6).toNat)
    case atStart => exact ⟨0, by omega, rfl, HRL, HKeep5, h5, HL5⟩
    case round =>
      obtain ⟨i, hi, rfl, HRi, HKi, HBi, HLi⟩ := hrel
      clear HRL HKeep5 h5 HL5
      by_cases hin : i < n2
      · obtain ⟨Li, hLi, hOi⟩ := HRi.out
        obtain ⟨g, N, rfl, hgB, hgc, hfz, hcl, hset⟩ := inc hOi hLi i hin
        have hg2 : g < W2.heap.size := by have := (World.ownsRow.lt HRow2.out g rfl).2; exact this
        have HST : Hid (∀ N' : Int, ∃ L', L'.length = n2 ∧ OwnV (w.heap.size + 1) (wr.setCell ⟨g, i * 3 + 1, none⟩ (.int .i64 N')) (.slice (some ⟨g, 0, none⟩) n2 c2) L') := hset
        have HTU : Hid (∀ u : Value, Tur [g] wr (wr.setCell ⟨g, i * 3 + 1, none⟩ u)) := fun u => Tur.setCell wr (p := ⟨g, i * 3 + 1, none⟩) (by simp) u
        have HKS : Hid (∀ W, Tur [g] wr W → OwnV W2.heap.size W (.slice A3 n3 c3) (M ++ [⟨2, 1, ⟨#[]⟩⟩]) ∧ BufAt w.heap.size W 5 0 [(ins (M ++ [⟨2, 1, ⟨#[]⟩⟩]) (some ⟨g, 0, none⟩) n2 c2).x] F2 ∧ Below w.heap.size w W) := fun W ht => ⟨HKi.out.tur ht (fun k hk hh => by simp at hh; have := (World.ownsRow.lt HKi.out k hk).1; omega), HBi.out.tur ht (fun z h1 h2 => by simp at h1; subst h1; exact HF2.out z ⟨by have := HW2s2.out; omega, by have := HB0lt.out; omega⟩ h2), HLi.out.trans (ht.below (B := w.heap.size) (fun k hk => by simp at hk; have := HB0lt.out; omega) HLi.out.size)⟩
        have hi0 : (i : Int) < (n2 : Int) := by omega
        clear hLi hOi hset HRi HKi HBi HLi
        go_wp2_with fail
        go_roundw
        case rel => exact ⟨i + 1, by omega, by go_num, HST.out _, (HKS.out _ (HTU.out _)).1, (HKS.out _ (HTU.out _)).2.1, (HKS.out _ (HTU.out _)).2.2⟩
        case measure => simp [intOf]; omega
      · obtain rfl : i = n2 := by omega
        have hi0 : ¬ (i : Int) < (i : Int) := by omega
        have HP3 := Lib.hid (put_is HBi.out (by decide) (er0 7 0 ⟨#[]⟩ 0 ⟨#[]⟩) (er0_ok ..) (by simp) (num' := -1) (E' := []) (L := [(ins (M ++ [⟨2, 1, ⟨#[]⟩⟩]) A2 i c2).x]) (s := true) (er := 0) (by simp [putF, er0, ins]))
        go_wp2_with fail
        refine HP3.out.mono ?_
        rintro e w6 ⟨tv3, F3, rfl, k6, h6, t6, f6⟩
        have HK6 := Lib.hid (HKi.out.tur t6.out (fun g hg => HF2.out g ⟨(World.ownsRow.lt HKeep.out g hg).2, by have := (World.ownsRow.lt HKeep.out g hg).1; have := HB0lt.out; have := HW2s.out; omega⟩))
        have HL6 : Hid (Below w.heap.size w w6) := HLi.out.trans (t6.out.below (fun k hk => HBi.out.low k hk) HLi.out.size)
        obtain ⟨A4, n4, c4, T4, rfl, q1, q2, q3, q4, q5⟩ := k6.out
        obtain ⟨Ak, nk, ck, ek, hnk, hck, hmk, hrk, hzk, hgk⟩ := ownV_own HK6.out
        obtain ⟨rfl, rfl, rfl⟩ : A3 = Ak ∧ n3 = nk ∧ c3 = ck := by injection ek with e1 e2 e3; exact ⟨e1, e2, e3⟩
        have hko : (ins (M ++ [⟨2, 1, ⟨#[]⟩⟩]) A3 n3 c3).ok w6 := ins_ok hnk.out (by have := hnk.out; simp at this; omega) hrk.out hzk.out
        obtain ⟨w7, hw7⟩ : ∃ W, W = w6.alloc (.cells #[.int .i64 3, .int .i64 0, .string ⟨#[116]⟩, .slice none 0 0, .slice A3 n3 c3, .int .i64 0, .string ⟨#[]⟩, .slice none 0 0, .int .i64 0, .string ⟨#[]⟩, .int .i64 0, .bool false] 38) := ⟨_, rfl⟩
        have hz7 : Has w7 w6.heap.size 38 #[.int .i64 3, .int .i64 0, .string ⟨#[116]⟩, .slice none 0 0, .slice A3 n3 c3, .int .i64 0, .string ⟨#[]⟩, .slice none 0 0, .int .i64 0, .string ⟨#[]⟩, .int .i64 0, .bool false] := by rw [hw7]; exact Has.new _ _ _
        have hb7 : Below w6.heap.size w6 w7 := by rw [hw7]; exact (Below.refl _ _).alloc (Nat.le_refl _) _
        replace hw7 : w6.alloc (.cells #[.int .i64 3, .int .i64 0, .string ⟨#[116]⟩, .slice none 0 0, .slice A3 n3 c3, .int .i64 0, .string ⟨#[]⟩, .slice none 0 0, .int .i64 0, .string ⟨#[]⟩, .int .i64 0, .bool false] 38) = w7 := hw7.symm
        have her : ERow w7 (some ⟨w6.heap.size, 0, none⟩) [ins (M ++ [⟨2, 1, ⟨#[]⟩⟩]) A3 n3 c3] := fun _ => ⟨w6.heap.size, 0, rfl, fun j hj k hk => by
      have e0 : j = 0 := by simp at hj; omega
      subst e0
      rw [Nat.zero_mul, Nat.add_zero, Nat.zero_add, hz7.cell k]
      show (#[.int .i64 3, .int .i64 0, .string ⟨#[116]⟩, .slice none 0 0, .slice A3 n3 c3, .int .i64 0, .string ⟨#[]⟩, .slice none 0 0, .int .i64 0, .string ⟨#[]⟩, .int .i64 0, .bool false] : Array Value)[k]? = _
      rw [← List.getElem?_toArray]
      rfl⟩
        have HSM := Lib.hid (rsame7_any A4 T4 n4 c4 (some ⟨w6.heap.size, 0, none⟩) [ins (M ++ [(⟨2, 1, ⟨#[]⟩⟩ : Vl)]) A3 n3 c3] 1 1 w7 q1 rfl (by have := congrArg List.length q3; simp at this; omega) (q2.below hb7) her (fun y hy => (q4 y hy).1.below hb7) (fun y hy => by rw [List.mem_singleton.1 hy]; exact hko.below hb7) (show List.map Er.x T4 = List.map Er.x [ins (M ++ [(⟨2, 1, ⟨#[]⟩⟩ : Vl)]) A3 n3 c3] from q3))
        have HL7 : Hid (Below w.heap.size w w7) := HL6.out.trans (hb7.mono HL6.out.size)
        clear HP3 k6 h6 t6 f6 HK6 HL6 q1 q2 q3 q4 q5 ek hnk hrk hzk hgk hko hz7 hb7 her HKi HBi HLi HRi HF2
        go_wp2_with fail
        refine HSM.out.mono ?_
        rintro e w8 ⟨rfl, hb8⟩
        have HL8 := Lib.hid (HL7.out.trans (hb8.out.mono HL7.out.size))
        go_wp2_with fail
        refine (lives_any _).mono ?_
        rintro e w9 ⟨rfl, hb9⟩
        have HF := Lib.hid (HL8.out.trans (hb9.out.mono HL8.out.size))
        go_wp2_with fail
        go_ret
        exact ⟨by rfl, HF.out⟩
end Go.Proofs.Ytjkmbggaoinkdaa.txbufOwns
