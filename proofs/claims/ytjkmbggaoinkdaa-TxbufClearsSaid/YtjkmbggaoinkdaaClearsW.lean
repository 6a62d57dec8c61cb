/-
  TxbufClears: its walk.
-/
import Derived.Test.YtjkmbggaoinkdaaTbR
import Derived.Test.YtjkmbggaoinkdaaTbZ
import Derived.Deep.RegionHeld3
namespace Go.Proofs.Ytjkmbggaoinkdaa.txbufClears
open Go.RowKit Go.Maps Dg
set_option maxRecDepth 100000
set_option linter.unusedVariables false
theorem _root_.Go.Proofs.Ytjkmbggaoinkdaa.BufAt.size_lt {b : Nat} {w : World} {lim num : Int} {E : List Ev} {F : List Nat} (h : BufAt b w lim num E F) : b < w.heap.size := h.lt b h.has2
set_option maxHeartbeats 6000000 in
theorem walk (a : Int) (A : Option Addr) (n cap : Nat) (T : List Er) (c : Int) (w : World) (ha : -9223372036854775808 ≤ a ∧ a ≤ 9223372036854775807) (hn : T.length = n) (hnc : n ≤ cap) (hcm : cap ≤ maxLen) (hA : ERow w A T) (hT : ∀ r ∈ T, r.arg w) (hc0 : -9223372036854775808 ≤ c ∧ c ≤ 9223372036854775807) :
    Calls Try.prog 6 #[.int .i64 a, .slice A n cap, .int .i64 c] w fun e w' => e = .returned (.bool true) ∧ Below w.heap.size w w' := by
  have HER := Lib.hid hA
  have HTn := Lib.hid hn
  have HTA := Lib.hid hT
  unfold maxLen at hcm
  clear hA hn hT
  obtain ⟨lm, hlm⟩ : ∃ lm, max a 1 = lm := ⟨_, rfl⟩
  have hlm1 : (1 : Int) ≤ lm := by omega
  have HN := Lib.hid (new_any a w)
  rw [hlm] at HN
  clear hlm
  have HB0 := Lib.hid (buf_new w lm)
  have HL0 := Lib.hid ((Below.refl w.heap.size w).alloc (Nat.le_refl _) (.cells #[.int .i64 lm, .int .i64 (-1), .slice none 0 0] 55))
  obtain ⟨w0, hw0⟩ : ∃ W, W = w.alloc (.cells #[.int .i64 lm, .int .i64 (-1), .slice none 0 0] 55) := ⟨_, rfl⟩
  rw [← hw0] at HN HB0 HL0
  clear hw0
  go_enter Try.func6, Try.ntmps6
  go_wp2_with fail
  refine HN.out.mono ?_
  rintro e w1 ⟨rfl, rfl⟩
  clear HN
  go_wp2_with fail
  go_loopw [8] (fun u8 wr => ∃ (i : Nat) (num : Int) (E : List Ev) (F : List Nat), i ≤ 20 ∧ i ≤ n ∧ u8 = .int .i64 i ∧ Hid (E.length ≤ i) ∧ Hid (BufAt w.heap.size wr lm num E F) ∧ Hid (Below w.heap.size w wr)) (fun u8 _ => 20 - (intOf u8).toNat)
  case atStart => exact ⟨0, -1, [], _, by omega, by omega, rfl, Nat.le_refl _, HB0, HL0⟩
  case round =>
    obtain ⟨i, num, E, F, hi20, hin, rfl, HEl, HT, HBr⟩ := hrel
    clear HB0 HL0
    by_cases hc : i < n ∧ i < 20
    · obtain ⟨hi1, hi2⟩ := hc
      have g1 : (i : Int) < (n : Int) := by omega
      have g2 : (i : Int) < 20 := by omega
      have hiL : i < T.length := by rw [HTn.out]; exact hi1
      obtain ⟨eb, eo, rfl, hcj⟩ := (HER.out.below HBr.out) (by intro e; rw [e] at hiL; simp at hiL)
      have hq := fun j hj => hcj i hiL j hj
      obtain ⟨r, hr⟩ : ∃ r, T[i] = r := ⟨_, rfl⟩
      have HRA := Lib.hid (HTA.out r (hr ▸ List.getElem_mem hiL))
      rw [hr] at hq
      have d0 : wr.cell? ⟨eb, eo + i * 12, none⟩ = some (.int .i64 r.x.k) := hq 0 (by omega)
      have d1 : wr.cell? ⟨eb, eo + i * 12 + 1, none⟩ = some (.int .i64 r.x.n) := hq 1 (by omega)
      have d2 : wr.cell? ⟨eb, eo + i * 12 + 2, none⟩ = some (.string r.x.t) := hq 2 (by omega)
      have d3 : wr.cell? ⟨eb, eo + i * 12 + 3, none⟩ = some (.slice r.Ab r.nb r.zb) := hq 3 (by omega)
      have d4 : wr.cell? ⟨eb, eo + i * 12 + 4, none⟩ = some (.slice r.Aa r.na r.za) := hq 4 (by omega)
      have d5 : wr.cell? ⟨eb, eo + i * 12 + 5, none⟩ = some (.int .i64 r.x.ck) := hq 5 (by omega)
      have d6 : wr.cell? ⟨eb, eo + i * 12 + 6, none⟩ = some (.string r.x.ct) := hq 6 (by omega)
      have d7 : wr.cell? ⟨eb, eo + i * 12 + 7, none⟩ = some (.slice r.A r.n r.c) := hq 7 (by omega)
      have d8 : wr.cell? ⟨eb, eo + i * 12 + 8, none⟩ = some (.int .i64 r.x.K) := hq 8 (by omega)
      have d9 : wr.cell? ⟨eb, eo + i * 12 + 9, none⟩ = some (.string r.x.cl.nm) := hq 9 (by omega)
      have d10 : wr.cell? ⟨eb, eo + i * 12 + 10, none⟩ = some (.int .i64 r.x.cl.k) := hq 10 (by omega)
      have d11 : wr.cell? ⟨eb, eo + i * 12 + 11, none⟩ = some (.bool r.x.cl.no) := hq 11 (by omega)
      clear hq hcj hr
      have HPI := Lib.hid (fun (W : World) (hb : Below wr.heap.size wr W) => put_any (HT.out.below hb) hlm1 (rgt r) (rgt_ok (HRA.out.ok.below (HBr.out.trans (hb.mono HBr.out.size)))) (by have := HEl.out; omega))
      have HRT := Lib.hid (right_any r wr HRA.out.n)
      have hlen := putF_len lm num E (rgt r).x
      obtain ⟨o, ho⟩ : ∃ o, putF lm num E (rgt r).x = o := ⟨_, rfl⟩
      rw [ho] at HPI hlen
      have HLN := Lib.hid hlen
      clear ho hlen
      skip
      go_wp2_with fail
      refine HRT.out.mono ?_
      rintro e w4 ⟨rfl, hb4⟩
      go_wp2_with fail
      refine (HPI.out _ hb4.out).mono ?_
      rintro e w5 ⟨tv, F', rfl, _, k3, k4, k5⟩
      have HB5 : Hid (Below w.heap.size w w5) := (HBr.out.trans (hb4.out.mono HBr.out.size)).trans (k4.out.below (fun k hk => HT.out.low k hk) (Nat.le_trans HBr.out.size hb4.out.size))
      clear HPI HRT k4 k5 HT HBr hb4 d0 d1 d2 d3 d4 d5 d6 d7 d8 d9 d10 d11
      go_wp2_with fail
      go_roundw
      case rel => exact ⟨i + 1, o.1, o.2.1, F', by omega, by omega, by go_num, (by have h1 := HLN.out; have h2 := HEl.out; show o.2.1.length ≤ i + 1; omega), k3, HB5⟩
      case measure => simp [intOf]; omega
    · by_cases hi1 : i < n
      · have g1 : (i : Int) < (n : Int) := by omega
        have g2 : ¬ (i : Int) < 20 := by omega
        have HCL := Lib.hid (clear_any HT.out hlm1)
        go_wp2_with fail
        refine HCL.out.mono ?_
        rintro e w6 ⟨rfl, k6, t6⟩
        have HB6 : Hid (Below w.heap.size w w6) := HBr.out.trans (t6.out.below (fun k hk => by simp at hk; omega) HBr.out.size)
        clear HCL HT HBr t6
        have HOP := Lib.hid (open_any k6.out)
        have HLE := Lib.hid (len_any k6.out)
        have HNU := Lib.hid (number_any k6.out)
        go_wp2_with fail
        refine HOP.out.mono ?_
        rintro e w6b ⟨rfl, rfl⟩
        go_wp2_with fail
        refine HLE.out.mono ?_
        rintro e w6c ⟨rfl, rfl⟩
        go_wp2_with fail
        refine HNU.out.mono ?_
        rintro e w6d ⟨rfl, rfl⟩
        clear HOP HLE HNU
        have HRG := Lib.hid (right_any (er0 2 c ⟨#[]⟩ 0 ⟨#[]⟩) w6d hc0)
        have hnn := rgt_n (r := er0 2 c ⟨#[]⟩ 0 ⟨#[]⟩) hc0
        obtain ⟨nn, hnx⟩ : ∃ nn, (if c < 0 then -(c + 1) else c) = nn := ⟨_, rfl⟩
        unfold rgt er0 Er.val at HRG
        unfold rgt er0 at hnn
        dsimp only at HRG hnn
        rw [hnx] at HRG hnn
        clear hnx
        go_wp2_with fail
        refine HRG.out.mono ?_
        rintro e w7 ⟨rfl, hb7⟩
        have HB7 : Hid (Below w.heap.size w w7) := HB6.out.trans (hb7.out.mono HB6.out.size)
        have K7 := Lib.hid (k6.out.below hb7.out)
        clear HRG hb7 k6 HB6
        obtain ⟨w8, hw8⟩ : ∃ W, W = w7.alloc (.cells #[.int .i64 0, .int .i64 0, .string ⟨#[]⟩, .slice none 0 0, .slice none 0 0, .int .i64 0, .string ⟨#[]⟩, .slice none 0 0, .int .i64 0, .string ⟨#[]⟩, .int .i64 0, .bool false] 38) := ⟨_, rfl⟩
        have HZ : Hid (Has w8 w7.heap.size 38 #[.int .i64 0, .int .i64 0, .string ⟨#[]⟩, .slice none 0 0, .slice none 0 0, .int .i64 0, .string ⟨#[]⟩, .slice none 0 0, .int .i64 0, .string ⟨#[]⟩, .int .i64 0, .bool false]) := by rw [hw8]; exact Has.new _ _ _
        have hb8 : Below w7.heap.size w7 w8 := by rw [hw8]; exact (Below.refl _ _).alloc (Nat.le_refl _) _
        have HB8 : Hid (Below w.heap.size w w8) := HB7.out.trans (hb8.mono HB7.out.size)
        have K8 := Lib.hid (K7.out.below hb8)
        replace hw8 : w7.alloc (.cells #[.int .i64 0, .int .i64 0, .string ⟨#[]⟩, .slice none 0 0, .slice none 0 0, .int .i64 0, .string ⟨#[]⟩, .slice none 0 0, .int .i64 0, .string ⟨#[]⟩, .int .i64 0, .bool false] 38) = w8 := hw8.symm
        have h78 : w7.heap.size < w8.heap.size := HZ.out.lt
        have v0 := HZ.out.cell 0
        have g0' := HZ.out.free 0
        have v1 := HZ.out.cell 1
        have g1' := HZ.out.free 1
        have v2 := HZ.out.cell 2
        have g2' := HZ.out.free 2
        have v3 := HZ.out.cell 3
        have g3' := HZ.out.free 3
        have v4 := HZ.out.cell 4
        have g4' := HZ.out.free 4
        have v5 := HZ.out.cell 5
        have g5' := HZ.out.free 5
        have v6 := HZ.out.cell 6
        have g6' := HZ.out.free 6
        have v7 := HZ.out.cell 7
        have g7' := HZ.out.free 7
        have v8 := HZ.out.cell 8
        have g8' := HZ.out.free 8
        have v9 := HZ.out.cell 9
        have g9' := HZ.out.free 9
        have v10 := HZ.out.cell 10
        have g10' := HZ.out.free 10
        have v11 := HZ.out.cell 11
        have g11' := HZ.out.free 11
        simp only [List.getElem?_toArray, List.getElem?_cons_zero, List.getElem?_cons_succ] at v0 v1 v2 v3 v4 v5 v6 v7 v8 v9 v10 v11
        have HP : Hid (Has (put12 w8 w7.heap.size (.int .i64 2) (.int .i64 nn) (.string ⟨#[]⟩) (.slice none 0 0) (.slice none 0 0) (.int .i64 0) (.string ⟨#[]⟩) (.slice none 0 0) (.int .i64 0) (.string ⟨#[]⟩) (.int .i64 0) (.bool false)) w7.heap.size 38 #[.int .i64 2, .int .i64 nn, .string ⟨#[]⟩, .slice none 0 0, .slice none 0 0, .int .i64 0, .string ⟨#[]⟩, .slice none 0 0, .int .i64 0, .string ⟨#[]⟩, .int .i64 0, .bool false]) := put12_has HZ.out (.int .i64 2) (.int .i64 nn) (.string ⟨#[]⟩) (.slice none 0 0) (.slice none 0 0) (.int .i64 0) (.string ⟨#[]⟩) (.slice none 0 0) (.int .i64 0) (.string ⟨#[]⟩) (.int .i64 0) (.bool false)
        have htp : Tur [w7.heap.size] w8 (put12 w8 w7.heap.size (.int .i64 2) (.int .i64 nn) (.string ⟨#[]⟩) (.slice none 0 0) (.slice none 0 0) (.int .i64 0) (.string ⟨#[]⟩) (.slice none 0 0) (.int .i64 0) (.string ⟨#[]⟩) (.int .i64 0) (.bool false)) := put12_tur _ _ (.int .i64 2) (.int .i64 nn) (.string ⟨#[]⟩) (.slice none 0 0) (.slice none 0 0) (.int .i64 0) (.string ⟨#[]⟩) (.slice none 0 0) (.int .i64 0) (.string ⟨#[]⟩) (.int .i64 0) (.bool false)
        have K9 := Lib.hid (K8.out.tur htp (fun z hz hf => by simp at hz; have := K7.out.lt z hf; omega))
        have HB9 : Hid (Below w.heap.size w (put12 w8 w7.heap.size (.int .i64 2) (.int .i64 nn) (.string ⟨#[]⟩) (.slice none 0 0) (.slice none 0 0) (.int .i64 0) (.string ⟨#[]⟩) (.slice none 0 0) (.int .i64 0) (.string ⟨#[]⟩) (.int .i64 0) (.bool false))) := (HB8.out.trans (htp.below (B := w.heap.size) (fun k hk => by simp at hk; have := HB7.out.size; omega) HB8.out.size))
        have hlt9 : w7.heap.size < (put12 w8 w7.heap.size (.int .i64 2) (.int .i64 nn) (.string ⟨#[]⟩) (.slice none 0 0) (.slice none 0 0) (.int .i64 0) (.string ⟨#[]⟩) (.slice none 0 0) (.int .i64 0) (.string ⟨#[]⟩) (.int .i64 0) (.bool false)).heap.size := HP.out.lt
        obtain ⟨w9, hw9⟩ : ∃ W, (put12 w8 w7.heap.size (.int .i64 2) (.int .i64 nn) (.string ⟨#[]⟩) (.slice none 0 0) (.slice none 0 0) (.int .i64 0) (.string ⟨#[]⟩) (.slice none 0 0) (.int .i64 0) (.string ⟨#[]⟩) (.int .i64 0) (.bool false)) = W := ⟨_, rfl⟩
        rw [hw9] at HP K9 HB9 hlt9
        have hw9' : ((((((((((((w8.setCell ⟨w7.heap.size, 0, none⟩ (.int .i64 2)).setCell ⟨w7.heap.size, 1, none⟩ (.int .i64 nn)).setCell ⟨w7.heap.size, 2, none⟩ (.string ⟨#[]⟩)).setCell ⟨w7.heap.size, 3, none⟩ (.slice none 0 0)).setCell ⟨w7.heap.size, 4, none⟩ (.slice none 0 0)).setCell ⟨w7.heap.size, 5, none⟩ (.int .i64 0)).setCell ⟨w7.heap.size, 6, none⟩ (.string ⟨#[]⟩)).setCell ⟨w7.heap.size, 7, none⟩ (.slice none 0 0)).setCell ⟨w7.heap.size, 8, none⟩ (.int .i64 0)).setCell ⟨w7.heap.size, 9, none⟩ (.string ⟨#[]⟩)).setCell ⟨w7.heap.size, 10, none⟩ (.int .i64 0)).setCell ⟨w7.heap.size, 11, none⟩ (.bool false)) = w9 := hw9
        clear hw9 htp HZ K8 HB8 hb8 HB7 h78
        have HPP := Lib.hid (put_is K9.out hlm1 (er0 2 nn ⟨#[]⟩ 0 ⟨#[]⟩) (er0_ok ..) (by simp) (num' := nn) (E' := []) (L := []) (s := false) (er := 0) (by simp [putF, er0]))
        have u0 := HP.out.cell 0
        have u1 := HP.out.cell 1
        have u2 := HP.out.cell 2
        have u3 := HP.out.cell 3
        have u4 := HP.out.cell 4
        have u5 := HP.out.cell 5
        have u6 := HP.out.cell 6
        have u7 := HP.out.cell 7
        have u8 := HP.out.cell 8
        have u9 := HP.out.cell 9
        have u10 := HP.out.cell 10
        have u11 := HP.out.cell 11
        simp only [List.getElem?_toArray, List.getElem?_cons_zero, List.getElem?_cons_succ] at u0 u1 u2 u3 u4 u5 u6 u7 u8 u9 u10 u11
        go_wp2_with fail
        refine HPP.out.mono ?_
        rintro e wa ⟨tv, F9, rfl, t9, k9, tt9, f9⟩
        have HPa := Lib.hid (HP.out.tur tt9.out (fun hf => by simp at hf; have := K7.out.size_lt; omega))
        have HBa : Hid (Below w.heap.size w wa) := HB9.out.trans (tt9.out.below (fun k hk => K9.out.low k hk) HB9.out.size)
        clear HPP u0 v0 g0' u1 v1 g1' u2 v2 g2' u3 v3 g3' u4 v4 g4' u5 v5 g5' u6 v6 g6' u7 v7 g7' u8 v8 g8' u9 v9 g9' u10 v10 g10' u11 v11 g11' hw8 hw9' HP K9 HB9 tt9 f9 t9
        have hq9 : (nn != -1) = true := by simp; omega
        go_wp2_with fail
        refine wp_region_held_drew (S := (fun X => X.cell? ⟨w7.heap.size, 1, none⟩ = some (.int .i64 nn))) (by kernel_rfl) (HPa.out.cell 1) (fun _ => ?_)
        (refine wpAnyH_take (i := 0) (v := ?_) rfl (by kernel_rfl) (by kernel_rfl) (by kernel_rfl) (fun _ _ _ h => h) (Or.inl ⟨by rfl, ?_⟩) (by assumption) ?_; rotate_left; (intro w hSw; (try dsimp only at hSw); go_simp; try with_reducible rfl); ((try simp only [List.getElem_toArray]); (try simp only [List.getElem_cons_succ]); (try simp only [List.getElem_cons_zero]); (try simp only [Act.put]); (try simp only [List.setIfInBounds_toArray]); (try simp only [List.set_cons_succ]); (try simp only [List.set_cons_zero])))
        (refine wpAnyH_take (i := 1) (v := ?_) rfl (by kernel_rfl) (by kernel_rfl) (by kernel_rfl) (fun _ _ _ h => h) (Or.inl ⟨by rfl, ?_⟩) (by assumption) ?_; rotate_left; (intro w hSw; (try dsimp only at hSw); go_simp; try with_reducible rfl); ((try simp only [List.getElem_toArray]); (try simp only [List.getElem_cons_succ]); (try simp only [List.getElem_cons_zero]); (try simp only [Act.put]); (try simp only [List.setIfInBounds_toArray]); (try simp only [List.set_cons_succ]); (try simp only [List.set_cons_zero])))
        (refine wpAnyH_take (i := 2) (v := ?_) rfl (by kernel_rfl) (by kernel_rfl) (by kernel_rfl) (fun _ _ _ h => h) (Or.inl ⟨by rfl, ?_⟩) (by assumption) ?_; rotate_left; (intro w hSw; (try dsimp only at hSw); go_simp; try with_reducible rfl); ((try simp only [List.getElem_toArray]); (try simp only [List.getElem_cons_succ]); (try simp only [List.getElem_cons_zero]); (try simp only [Act.put]); (try simp only [List.setIfInBounds_toArray]); (try simp only [List.set_cons_succ]); (try simp only [List.set_cons_zero])))
        (refine wpAnyH_take (i := 3) (v := ?_) rfl (by kernel_rfl) (by kernel_rfl) (by kernel_rfl) (fun _ _ _ h => h) (Or.inl ⟨by rfl, ?_⟩) (by assumption) ?_; rotate_left; (intro w hSw; (try dsimp only at hSw); go_simp; try with_reducible rfl); ((try simp only [List.getElem_toArray]); (try simp only [List.getElem_cons_succ]); (try simp only [List.getElem_cons_zero]); (try simp only [Act.put]); (try simp only [List.setIfInBounds_toArray]); (try simp only [List.set_cons_succ]); (try simp only [List.set_cons_zero])))
        (refine wpAnyH_take (i := 4) (v := ?_) rfl (by kernel_rfl) (by kernel_rfl) (by kernel_rfl) (fun _ _ _ h => h) (Or.inl ⟨by rfl, ?_⟩) (by assumption) ?_; rotate_left; (intro w hSw; (try dsimp only at hSw); go_simp; try with_reducible rfl); ((try simp only [List.getElem_toArray]); (try simp only [List.getElem_cons_succ]); (try simp only [List.getElem_cons_zero]); (try simp only [Act.put]); (try simp only [List.setIfInBounds_toArray]); (try simp only [List.set_cons_succ]); (try simp only [List.set_cons_zero])))
        (refine wpAnyH_take (i := 5) (v := ?_) rfl (by kernel_rfl) (by kernel_rfl) (by kernel_rfl) (fun _ _ _ h => h) (Or.inl ⟨by rfl, ?_⟩) (by assumption) ?_; rotate_left; (intro w hSw; (try dsimp only at hSw); go_simp; try with_reducible rfl); ((try simp only [List.getElem_toArray]); (try simp only [List.getElem_cons_succ]); (try simp only [List.getElem_cons_zero]); (try simp only [Act.put]); (try simp only [List.setIfInBounds_toArray]); (try simp only [List.set_cons_succ]); (try simp only [List.set_cons_zero])))
        (refine wpAnyH_take (i := 6) (v := ?_) rfl (by kernel_rfl) (by kernel_rfl) (by kernel_rfl) (fun _ _ _ h => h) (Or.inl ⟨by rfl, ?_⟩) (by assumption) ?_; rotate_left; (intro w hSw; (try dsimp only at hSw); go_simp; try with_reducible rfl); ((try simp only [List.getElem_toArray]); (try simp only [List.getElem_cons_succ]); (try simp only [List.getElem_cons_zero]); (try simp only [Act.put]); (try simp only [List.setIfInBounds_toArray]); (try simp only [List.set_cons_succ]); (try simp only [List.set_cons_zero])))
        (refine wpAnyH_take (i := 7) (v := ?_) rfl (by kernel_rfl) (by kernel_rfl) (by kernel_rfl) (fun _ _ _ h => h) (Or.inl ⟨by rfl, ?_⟩) (by assumption) ?_; rotate_left; (intro w hSw; (try dsimp only at hSw); go_simp; try with_reducible rfl); ((try simp only [List.getElem_toArray]); (try simp only [List.getElem_cons_succ]); (try simp only [List.getElem_cons_zero]); (try simp only [Act.put]); (try simp only [List.setIfInBounds_toArray]); (try simp only [List.set_cons_succ]); (try simp only [List.set_cons_zero])))
        have HOP := Lib.hid (open_any (k9.out.below (w' := wa.drew) (below_drewN (Below.refl _ _) 1)))
        rw [hq9] at HOP
        refine wpAnyH_ready (rs := [8]) (by kernel_rfl) (by simp) ?_
        refine AllReadyH.cons rfl (fun K2 hK2 => ?_) AllReadyH.nil
        go_simp
        refine (HOP.out).mono ?_
        rintro e wb ⟨rfl, rfl⟩
        go_wp2_with fail
        refine hK2.out _ _ (by (try dsimp only); exact HPa.out.cell 1) (fun _ => ?_)
        clear hK2 K2
        (try simp only [List.getElem_toArray]); (try simp only [List.getElem_cons_succ]); (try simp only [List.getElem_cons_zero]); (try simp only [Act.put]); (try simp only [List.setIfInBounds_toArray]); (try simp only [List.set_cons_succ]); (try simp only [List.set_cons_zero])
        (refine wpAnyH_take (i := 9) (v := ?_) rfl (by kernel_rfl) (by kernel_rfl) (by kernel_rfl) (fun _ _ _ h => h) (Or.inl ⟨by rfl, ?_⟩) (by assumption) ?_; rotate_left; (intro w hSw; (try dsimp only at hSw); go_simp; try with_reducible rfl); ((try simp only [List.getElem_toArray]); (try simp only [List.getElem_cons_succ]); (try simp only [List.getElem_cons_zero]); (try simp only [Act.put]); (try simp only [List.setIfInBounds_toArray]); (try simp only [List.set_cons_succ]); (try simp only [List.set_cons_zero])))
        (refine wpAnyH_take (i := 10) (v := ?_) rfl (by kernel_rfl) (by kernel_rfl) (by kernel_rfl) (fun _ _ _ h => h) (Or.inl ⟨by rfl, ?_⟩) (by assumption) ?_; rotate_left; (intro w hSw; (try dsimp only at hSw); go_simp; try with_reducible rfl); ((try simp only [List.getElem_toArray]); (try simp only [List.getElem_cons_succ]); (try simp only [List.getElem_cons_zero]); (try simp only [Act.put]); (try simp only [List.setIfInBounds_toArray]); (try simp only [List.set_cons_succ]); (try simp only [List.set_cons_zero])))
        (refine wpAnyH_take (i := 11) (v := ?_) rfl (by kernel_rfl) (by kernel_rfl) (by kernel_rfl) (fun _ _ _ h => h) (Or.inl ⟨by rfl, ?_⟩) (by assumption) ?_; rotate_left; (intro w hSw; (try dsimp only at hSw); go_simp; try with_reducible rfl); ((try simp only [List.getElem_toArray]); (try simp only [List.getElem_cons_succ]); (try simp only [List.getElem_cons_zero]); (try simp only [Act.put]); (try simp only [List.setIfInBounds_toArray]); (try simp only [List.set_cons_succ]); (try simp only [List.set_cons_zero])))
        (refine wpAnyH_take (i := 13) (v := ?_) rfl (by kernel_rfl) (by kernel_rfl) (by kernel_rfl) (fun _ _ _ h => h) (Or.inl ⟨by rfl, ?_⟩) (by assumption) ?_; rotate_left; (intro w hSw; (try dsimp only at hSw); go_simp; try with_reducible rfl); ((try simp only [List.getElem_toArray]); (try simp only [List.getElem_cons_succ]); (try simp only [List.getElem_cons_zero]); (try simp only [Act.put]); (try simp only [List.setIfInBounds_toArray]); (try simp only [List.set_cons_succ]); (try simp only [List.set_cons_zero])))
        (refine wpAnyH_take (i := 14) (v := ?_) rfl (by kernel_rfl) (by kernel_rfl) (by kernel_rfl) (fun _ _ _ h => h) (Or.inl ⟨by rfl, ?_⟩) (by assumption) ?_; rotate_left; (intro w hSw; (try dsimp only at hSw); go_simp; try with_reducible rfl); ((try simp only [List.getElem_toArray]); (try simp only [List.getElem_cons_succ]); (try simp only [List.getElem_cons_zero]); (try simp only [Act.put]); (try simp only [List.setIfInBounds_toArray]); (try simp only [List.set_cons_succ]); (try simp only [List.set_cons_zero])))
        have HNU := Lib.hid (number_any (k9.out.below (w' := wa.drew) (below_drewN (Below.refl _ _) 1)))
        refine wpAnyH_ready (rs := [12]) (by kernel_rfl) (by simp) ?_
        refine AllReadyH.cons rfl (fun K2 hK2 => ?_) AllReadyH.nil
        go_simp
        refine (HNU.out).mono ?_
        rintro e wc ⟨rfl, rfl⟩
        go_wp2_with fail
        refine hK2.out _ _ (by (try dsimp only); exact HPa.out.cell 1) (fun _ => ?_)
        clear hK2 K2
        (try simp only [List.getElem_toArray]); (try simp only [List.getElem_cons_succ]); (try simp only [List.getElem_cons_zero]); (try simp only [Act.put]); (try simp only [List.setIfInBounds_toArray]); (try simp only [List.set_cons_succ]); (try simp only [List.set_cons_zero])
        (refine wpAnyH_take (i := 15) (v := ?_) rfl (by kernel_rfl) (by kernel_rfl) (by kernel_rfl) (fun _ _ _ h => h) (Or.inl ⟨by rfl, ?_⟩) (by assumption) ?_; rotate_left; (intro w hSw; (try dsimp only at hSw); go_simp; try with_reducible rfl); ((try simp only [List.getElem_toArray]); (try simp only [List.getElem_cons_succ]); (try simp only [List.getElem_cons_zero]); (try simp only [Act.put]); (try simp only [List.setIfInBounds_toArray]); (try simp only [List.set_cons_succ]); (try simp only [List.set_cons_zero])))
        (refine wpAnyH_take (i := 16) (v := ?_) rfl (by kernel_rfl) (by kernel_rfl) (by kernel_rfl) (fun _ _ _ h => h) (Or.inl ⟨by rfl, ?_⟩) (by assumption) ?_; rotate_left; (intro w hSw; (try dsimp only at hSw); go_simp; try with_reducible rfl); ((try simp only [List.getElem_toArray]); (try simp only [List.getElem_cons_succ]); (try simp only [List.getElem_cons_zero]); (try simp only [Act.put]); (try simp only [List.setIfInBounds_toArray]); (try simp only [List.set_cons_succ]); (try simp only [List.set_cons_zero])))
        (refine wpAnyH_take (i := 17) (v := ?_) rfl (by kernel_rfl) (by kernel_rfl) (by kernel_rfl) (fun _ _ _ h => h) (Or.inl ⟨by rfl, ?_⟩) (by assumption) ?_; rotate_left; (intro w hSw; (try dsimp only at hSw); go_simp; try with_reducible rfl); ((try simp only [List.getElem_toArray]); (try simp only [List.getElem_cons_succ]); (try simp only [List.getElem_cons_zero]); (try simp only [Act.put]); (try simp only [List.setIfInBounds_toArray]); (try simp only [List.set_cons_succ]); (try simp only [List.set_cons_zero])))
        refine wpAnyH_ready (rs := [18]) (by kernel_rfl) (by simp) ?_
        refine AllReadyH.cons rfl (fun K2 hK2 => ?_) AllReadyH.nil
        go_simp
        refine (lives_any _).mono ?_
        rintro e wd ⟨rfl, hbd⟩
        have HPd := Lib.hid ((show Has wa.drew w7.heap.size 38 #[.int .i64 2, .int .i64 nn, .string ⟨#[]⟩, .slice none 0 0, .slice none 0 0, .int .i64 0, .string ⟨#[]⟩, .slice none 0 0, .int .i64 0, .string ⟨#[]⟩, .int .i64 0, .bool false] from HPa.out).below hbd.out (show w7.heap.size < wa.drew.heap.size from HPa.out.lt))
        go_wp2_with fail
        refine hK2.out _ _ (by (try dsimp only); exact HPd.out.cell 1) (fun _ => ?_)
        clear hK2 K2
        (try simp only [List.getElem_toArray]); (try simp only [List.getElem_cons_succ]); (try simp only [List.getElem_cons_zero]); (try simp only [Act.put]); (try simp only [List.setIfInBounds_toArray]); (try simp only [List.set_cons_succ]); (try simp only [List.set_cons_zero])
        (refine wpAnyH_take (i := 19) (v := ?_) rfl (by kernel_rfl) (by kernel_rfl) (by kernel_rfl) (fun _ _ _ h => h) (Or.inl ⟨by rfl, ?_⟩) (by assumption) ?_; rotate_left; (intro w hSw; (try dsimp only at hSw); go_simp; try with_reducible rfl); ((try simp only [List.getElem_toArray]); (try simp only [List.getElem_cons_succ]); (try simp only [List.getElem_cons_zero]); (try simp only [Act.put]); (try simp only [List.setIfInBounds_toArray]); (try simp only [List.set_cons_succ]); (try simp only [List.set_cons_zero])))
        (refine wpAnyH_take (i := 20) (v := ?_) rfl (by kernel_rfl) (by kernel_rfl) (by kernel_rfl) (fun _ _ _ h => h) (Or.inl ⟨by rfl, ?_⟩) (by assumption) ?_; rotate_left; (intro w hSw; (try dsimp only at hSw); go_simp; try with_reducible rfl); ((try simp only [List.getElem_toArray]); (try simp only [List.getElem_cons_succ]); (try simp only [List.getElem_cons_zero]); (try simp only [Act.put]); (try simp only [List.setIfInBounds_toArray]); (try simp only [List.set_cons_succ]); (try simp only [List.set_cons_zero])))
        refine wpAnyH_done (by kernel_rfl) ?_ _
        have HF := Lib.hid ((show Below w.heap.size w wa.drew from HBa.out.drew).trans (hbd.out.mono (show w.heap.size ≤ wa.drew.heap.size from HBa.out.size)))
        go_wp2_with fail
        go_ret
        exact ⟨by rfl, HF.out⟩
      · have g1 : ¬ (i : Int) < (n : Int) := by omega
        have HCL := Lib.hid (clear_any HT.out hlm1)
        go_wp2_with fail
        refine HCL.out.mono ?_
        rintro e w6 ⟨rfl, k6, t6⟩
        have HB6 : Hid (Below w.heap.size w w6) := HBr.out.trans (t6.out.below (fun k hk => by simp at hk; omega) HBr.out.size)
        clear HCL HT HBr t6
        have HOP := Lib.hid (open_any k6.out)
        have HLE := Lib.hid (len_any k6.out)
        have HNU := Lib.hid (number_any k6.out)
        go_wp2_with fail
        refine HOP.out.mono ?_
        rintro e w6b ⟨rfl, rfl⟩
        go_wp2_with fail
        refine HLE.out.mono ?_
        rintro e w6c ⟨rfl, rfl⟩
        go_wp2_with fail
        refine HNU.out.mono ?_
        rintro e w6d ⟨rfl, rfl⟩
        clear HOP HLE HNU
        have HRG := Lib.hid (right_any (er0 2 c ⟨#[]⟩ 0 ⟨#[]⟩) w6d hc0)
        have hnn := rgt_n (r := er0 2 c ⟨#[]⟩ 0 ⟨#[]⟩) hc0
        obtain ⟨nn, hnx⟩ : ∃ nn, (if c < 0 then -(c + 1) else c) = nn := ⟨_, rfl⟩
        unfold rgt er0 Er.val at HRG
        unfold rgt er0 at hnn
        dsimp only at HRG hnn
        rw [hnx] at HRG hnn
        clear hnx
        go_wp2_with fail
        refine HRG.out.mono ?_
        rintro e w7 ⟨rfl, hb7⟩
        have HB7 : Hid (Below w.heap.size w w7) := HB6.out.trans (hb7.out.mono HB6.out.size)
        have K7 := Lib.hid (k6.out.below hb7.out)
        clear HRG hb7 k6 HB6
        obtain ⟨w8, hw8⟩ : ∃ W, W = w7.alloc (.cells #[.int .i64 0, .int .i64 0, .string ⟨#[]⟩, .slice none 0 0, .slice none 0 0, .int .i64 0, .string ⟨#[]⟩, .slice none 0 0, .int .i64 0, .string ⟨#[]⟩, .int .i64 0, .bool false] 38) := ⟨_, rfl⟩
        have HZ : Hid (Has w8 w7.heap.size 38 #[.int .i64 0, .int .i64 0, .string ⟨#[]⟩, .slice none 0 0, .slice none 0 0, .int .i64 0, .string ⟨#[]⟩, .slice none 0 0, .int .i64 0, .string ⟨#[]⟩, .int .i64 0, .bool false]) := by rw [hw8]; exact Has.new _ _ _
        have hb8 : Below w7.heap.size w7 w8 := by rw [hw8]; exact (Below.refl _ _).alloc (Nat.le_refl _) _
        have HB8 : Hid (Below w.heap.size w w8) := HB7.out.trans (hb8.mono HB7.out.size)
        have K8 := Lib.hid (K7.out.below hb8)
        replace hw8 : w7.alloc (.cells #[.int .i64 0, .int .i64 0, .string ⟨#[]⟩, .slice none 0 0, .slice none 0 0, .int .i64 0, .string ⟨#[]⟩, .slice none 0 0, .int .i64 0, .string ⟨#[]⟩, .int .i64 0, .bool false] 38) = w8 := hw8.symm
        have h78 : w7.heap.size < w8.heap.size := HZ.out.lt
        have v0 := HZ.out.cell 0
        have g0' := HZ.out.free 0
        have v1 := HZ.out.cell 1
        have g1' := HZ.out.free 1
        have v2 := HZ.out.cell 2
        have g2' := HZ.out.free 2
        have v3 := HZ.out.cell 3
        have g3' := HZ.out.free 3
        have v4 := HZ.out.cell 4
        have g4' := HZ.out.free 4
        have v5 := HZ.out.cell 5
        have g5' := HZ.out.free 5
        have v6 := HZ.out.cell 6
        have g6' := HZ.out.free 6
        have v7 := HZ.out.cell 7
        have g7' := HZ.out.free 7
        have v8 := HZ.out.cell 8
        have g8' := HZ.out.free 8
        have v9 := HZ.out.cell 9
        have g9' := HZ.out.free 9
        have v10 := HZ.out.cell 10
        have g10' := HZ.out.free 10
        have v11 := HZ.out.cell 11
        have g11' := HZ.out.free 11
        simp only [List.getElem?_toArray, List.getElem?_cons_zero, List.getElem?_cons_succ] at v0 v1 v2 v3 v4 v5 v6 v7 v8 v9 v10 v11
        have HP : Hid (Has (put12 w8 w7.heap.size (.int .i64 2) (.int .i64 nn) (.string ⟨#[]⟩) (.slice none 0 0) (.slice none 0 0) (.int .i64 0) (.string ⟨#[]⟩) (.slice none 0 0) (.int .i64 0) (.string ⟨#[]⟩) (.int .i64 0) (.bool false)) w7.heap.size 38 #[.int .i64 2, .int .i64 nn, .string ⟨#[]⟩, .slice none 0 0, .slice none 0 0, .int .i64 0, .string ⟨#[]⟩, .slice none 0 0, .int .i64 0, .string ⟨#[]⟩, .int .i64 0, .bool false]) := put12_has HZ.out (.int .i64 2) (.int .i64 nn) (.string ⟨#[]⟩) (.slice none 0 0) (.slice none 0 0) (.int .i64 0) (.string ⟨#[]⟩) (.slice none 0 0) (.int .i64 0) (.string ⟨#[]⟩) (.int .i64 0) (.bool false)
        have htp : Tur [w7.heap.size] w8 (put12 w8 w7.heap.size (.int .i64 2) (.int .i64 nn) (.string ⟨#[]⟩) (.slice none 0 0) (.slice none 0 0) (.int .i64 0) (.string ⟨#[]⟩) (.slice none 0 0) (.int .i64 0) (.string ⟨#[]⟩) (.int .i64 0) (.bool false)) := put12_tur _ _ (.int .i64 2) (.int .i64 nn) (.string ⟨#[]⟩) (.slice none 0 0) (.slice none 0 0) (.int .i64 0) (.string ⟨#[]⟩) (.slice none 0 0) (.int .i64 0) (.string ⟨#[]⟩) (.int .i64 0) (.bool false)
        have K9 := Lib.hid (K8.out.tur htp (fun z hz hf => by simp at hz; have := K7.out.lt z hf; omega))
        have HB9 : Hid (Below w.heap.size w (put12 w8 w7.heap.size (.int .i64 2) (.int .i64 nn) (.string ⟨#[]⟩) (.slice none 0 0) (.slice none 0 0) (.int .i64 0) (.string ⟨#[]⟩) (.slice none 0 0) (.int .i64 0) (.string ⟨#[]⟩) (.int .i64 0) (.bool false))) := (HB8.out.trans (htp.below (B := w.heap.size) (fun k hk => by simp at hk; have := HB7.out.size; omega) HB8.out.size))
        have hlt9 : w7.heap.size < (put12 w8 w7.heap.size (.int .i64 2) (.int .i64 nn) (.string ⟨#[]⟩) (.slice none 0 0) (.slice none 0 0) (.int .i64 0) (.string ⟨#[]⟩) (.slice none 0 0) (.int .i64 0) (.string ⟨#[]⟩) (.int .i64 0) (.bool false)).heap.size := HP.out.lt
        obtain ⟨w9, hw9⟩ : ∃ W, (put12 w8 w7.heap.size (.int .i64 2) (.int .i64 nn) (.string ⟨#[]⟩) (.slice none 0 0) (.slice none 0 0) (.int .i64 0) (.string ⟨#[]⟩) (.slice none 0 0) (.int .i64 0) (.string ⟨#[]⟩) (.int .i64 0) (.bool false)) = W := ⟨_, rfl⟩
        rw [hw9] at HP K9 HB9 hlt9
        have hw9' : ((((((((((((w8.setCell ⟨w7.heap.size, 0, none⟩ (.int .i64 2)).setCell ⟨w7.heap.size, 1, none⟩ (.int .i64 nn)).setCell ⟨w7.heap.size, 2, none⟩ (.string ⟨#[]⟩)).setCell ⟨w7.heap.size, 3, none⟩ (.slice none 0 0)).setCell ⟨w7.heap.size, 4, none⟩ (.slice none 0 0)).setCell ⟨w7.heap.size, 5, none⟩ (.int .i64 0)).setCell ⟨w7.heap.size, 6, none⟩ (.string ⟨#[]⟩)).setCell ⟨w7.heap.size, 7, none⟩ (.slice none 0 0)).setCell ⟨w7.heap.size, 8, none⟩ (.int .i64 0)).setCell ⟨w7.heap.size, 9, none⟩ (.string ⟨#[]⟩)).setCell ⟨w7.heap.size, 10, none⟩ (.int .i64 0)).setCell ⟨w7.heap.size, 11, none⟩ (.bool false)) = w9 := hw9
        clear hw9 htp HZ K8 HB8 hb8 HB7 h78
        have HPP := Lib.hid (put_is K9.out hlm1 (er0 2 nn ⟨#[]⟩ 0 ⟨#[]⟩) (er0_ok ..) (by simp) (num' := nn) (E' := []) (L := []) (s := false) (er := 0) (by simp [putF, er0]))
        have u0 := HP.out.cell 0
        have u1 := HP.out.cell 1
        have u2 := HP.out.cell 2
        have u3 := HP.out.cell 3
        have u4 := HP.out.cell 4
        have u5 := HP.out.cell 5
        have u6 := HP.out.cell 6
        have u7 := HP.out.cell 7
        have u8 := HP.out.cell 8
        have u9 := HP.out.cell 9
        have u10 := HP.out.cell 10
        have u11 := HP.out.cell 11
        simp only [List.getElem?_toArray, List.getElem?_cons_zero, List.getElem?_cons_succ] at u0 u1 u2 u3 u4 u5 u6 u7 u8 u9 u10 u11
        go_wp2_with fail
        refine HPP.out.mono ?_
        rintro e wa ⟨tv, F9, rfl, t9, k9, tt9, f9⟩
        have HPa := Lib.hid (HP.out.tur tt9.out (fun hf => by simp at hf; have := K7.out.size_lt; omega))
        have HBa : Hid (Below w.heap.size w wa) := HB9.out.trans (tt9.out.below (fun k hk => K9.out.low k hk) HB9.out.size)
        clear HPP u0 v0 g0' u1 v1 g1' u2 v2 g2' u3 v3 g3' u4 v4 g4' u5 v5 g5' u6 v6 g6' u7 v7 g7' u8 v8 g8' u9 v9 g9' u10 v10 g10' u11 v11 g11' hw8 hw9' HP K9 HB9 tt9 f9 t9
        have hq9 : (nn != -1) = true := by simp; omega
        go_wp2_with fail
        refine wp_region_held_drew (S := (fun X => X.cell? ⟨w7.heap.size, 1, none⟩ = some (.int .i64 nn))) (by kernel_rfl) (HPa.out.cell 1) (fun _ => ?_)
        (refine wpAnyH_take (i := 0) (v := ?_) rfl (by kernel_rfl) (by kernel_rfl) (by kernel_rfl) (fun _ _ _ h => h) (Or.inl ⟨by rfl, ?_⟩) (by assumption) ?_; rotate_left; (intro w hSw; (try dsimp only at hSw); go_simp; try with_reducible rfl); ((try simp only [List.getElem_toArray]); (try simp only [List.getElem_cons_succ]); (try simp only [List.getElem_cons_zero]); (try simp only [Act.put]); (try simp only [List.setIfInBounds_toArray]); (try simp only [List.set_cons_succ]); (try simp only [List.set_cons_zero])))
        (refine wpAnyH_take (i := 1) (v := ?_) rfl (by kernel_rfl) (by kernel_rfl) (by kernel_rfl) (fun _ _ _ h => h) (Or.inl ⟨by rfl, ?_⟩) (by assumption) ?_; rotate_left; (intro w hSw; (try dsimp only at hSw); go_simp; try with_reducible rfl); ((try simp only [List.getElem_toArray]); (try simp only [List.getElem_cons_succ]); (try simp only [List.getElem_cons_zero]); (try simp only [Act.put]); (try simp only [List.setIfInBounds_toArray]); (try simp only [List.set_cons_succ]); (try simp only [List.set_cons_zero])))
        (refine wpAnyH_take (i := 2) (v := ?_) rfl (by kernel_rfl) (by kernel_rfl) (by kernel_rfl) (fun _ _ _ h => h) (Or.inl ⟨by rfl, ?_⟩) (by assumption) ?_; rotate_left; (intro w hSw; (try dsimp only at hSw); go_simp; try with_reducible rfl); ((try simp only [List.getElem_toArray]); (try simp only [List.getElem_cons_succ]); (try simp only [List.getElem_cons_zero]); (try simp only [Act.put]); (try simp only [List.setIfInBounds_toArray]); (try simp only [List.set_cons_succ]); (try simp only [List.set_cons_zero])))
        (refine wpAnyH_take (i := 3) (v := ?_) rfl (by kernel_rfl) (by kernel_rfl) (by kernel_rfl) (fun _ _ _ h => h) (Or.inl ⟨by rfl, ?_⟩) (by assumption) ?_; rotate_left; (intro w hSw; (try dsimp only at hSw); go_simp; try with_reducible rfl); ((try simp only [List.getElem_toArray]); (try simp only [List.getElem_cons_succ]); (try simp only [List.getElem_cons_zero]); (try simp only [Act.put]); (try simp only [List.setIfInBounds_toArray]); (try simp only [List.set_cons_succ]); (try simp only [List.set_cons_zero])))
        (refine wpAnyH_take (i := 4) (v := ?_) rfl (by kernel_rfl) (by kernel_rfl) (by kernel_rfl) (fun _ _ _ h => h) (Or.inl ⟨by rfl, ?_⟩) (by assumption) ?_; rotate_left; (intro w hSw; (try dsimp only at hSw); go_simp; try with_reducible rfl); ((try simp only [List.getElem_toArray]); (try simp only [List.getElem_cons_succ]); (try simp only [List.getElem_cons_zero]); (try simp only [Act.put]); (try simp only [List.setIfInBounds_toArray]); (try simp only [List.set_cons_succ]); (try simp only [List.set_cons_zero])))
        (refine wpAnyH_take (i := 5) (v := ?_) rfl (by kernel_rfl) (by kernel_rfl) (by kernel_rfl) (fun _ _ _ h => h) (Or.inl ⟨by rfl, ?_⟩) (by assumption) ?_; rotate_left; (intro w hSw; (try dsimp only at hSw); go_simp; try with_reducible rfl); ((try simp only [List.getElem_toArray]); (try simp only [List.getElem_cons_succ]); (try simp only [List.getElem_cons_zero]); (try simp only [Act.put]); (try simp only [List.setIfInBounds_toArray]); (try simp only [List.set_cons_succ]); (try simp only [List.set_cons_zero])))
        (refine wpAnyH_take (i := 6) (v := ?_) rfl (by kernel_rfl) (by kernel_rfl) (by kernel_rfl) (fun _ _ _ h => h) (Or.inl ⟨by rfl, ?_⟩) (by assumption) ?_; rotate_left; (intro w hSw; (try dsimp only at hSw); go_simp; try with_reducible rfl); ((try simp only [List.getElem_toArray]); (try simp only [List.getElem_cons_succ]); (try simp only [List.getElem_cons_zero]); (try simp only [Act.put]); (try simp only [List.setIfInBounds_toArray]); (try simp only [List.set_cons_succ]); (try simp only [List.set_cons_zero])))
        (refine wpAnyH_take (i := 7) (v := ?_) rfl (by kernel_rfl) (by kernel_rfl) (by kernel_rfl) (fun _ _ _ h => h) (Or.inl ⟨by rfl, ?_⟩) (by assumption) ?_; rotate_left; (intro w hSw; (try dsimp only at hSw); go_simp; try with_reducible rfl); ((try simp only [List.getElem_toArray]); (try simp only [List.getElem_cons_succ]); (try simp only [List.getElem_cons_zero]); (try simp only [Act.put]); (try simp only [List.setIfInBounds_toArray]); (try simp only [List.set_cons_succ]); (try simp only [List.set_cons_zero])))
        have HOP := Lib.hid (open_any (k9.out.below (w' := wa.drew) (below_drewN (Below.refl _ _) 1)))
        rw [hq9] at HOP
        refine wpAnyH_ready (rs := [8]) (by kernel_rfl) (by simp) ?_
        refine AllReadyH.cons rfl (fun K2 hK2 => ?_) AllReadyH.nil
        go_simp
        refine (HOP.out).mono ?_
        rintro e wb ⟨rfl, rfl⟩
        go_wp2_with fail
        refine hK2.out _ _ (by (try dsimp only); exact HPa.out.cell 1) (fun _ => ?_)
        clear hK2 K2
        (try simp only [List.getElem_toArray]); (try simp only [List.getElem_cons_succ]); (try simp only [List.getElem_cons_zero]); (try simp only [Act.put]); (try simp only [List.setIfInBounds_toArray]); (try simp only [List.set_cons_succ]); (try simp only [List.set_cons_zero])
        (refine wpAnyH_take (i := 9) (v := ?_) rfl (by kernel_rfl) (by kernel_rfl) (by kernel_rfl) (fun _ _ _ h => h) (Or.inl ⟨by rfl, ?_⟩) (by assumption) ?_; rotate_left; (intro w hSw; (try dsimp only at hSw); go_simp; try with_reducible rfl); ((try simp only [List.getElem_toArray]); (try simp only [List.getElem_cons_succ]); (try simp only [List.getElem_cons_zero]); (try simp only [Act.put]); (try simp only [List.setIfInBounds_toArray]); (try simp only [List.set_cons_succ]); (try simp only [List.set_cons_zero])))
        (refine wpAnyH_take (i := 10) (v := ?_) rfl (by kernel_rfl) (by kernel_rfl) (by kernel_rfl) (fun _ _ _ h => h) (Or.inl ⟨by rfl, ?_⟩) (by assumption) ?_; rotate_left; (intro w hSw; (try dsimp only at hSw); go_simp; try with_reducible rfl); ((try simp only [List.getElem_toArray]); (try simp only [List.getElem_cons_succ]); (try simp only [List.getElem_cons_zero]); (try simp only [Act.put]); (try simp only [List.setIfInBounds_toArray]); (try simp only [List.set_cons_succ]); (try simp only [List.set_cons_zero])))
        (refine wpAnyH_take (i := 11) (v := ?_) rfl (by kernel_rfl) (by kernel_rfl) (by kernel_rfl) (fun _ _ _ h => h) (Or.inl ⟨by rfl, ?_⟩) (by assumption) ?_; rotate_left; (intro w hSw; (try dsimp only at hSw); go_simp; try with_reducible rfl); ((try simp only [List.getElem_toArray]); (try simp only [List.getElem_cons_succ]); (try simp only [List.getElem_cons_zero]); (try simp only [Act.put]); (try simp only [List.setIfInBounds_toArray]); (try simp only [List.set_cons_succ]); (try simp only [List.set_cons_zero])))
        (refine wpAnyH_take (i := 13) (v := ?_) rfl (by kernel_rfl) (by kernel_rfl) (by kernel_rfl) (fun _ _ _ h => h) (Or.inl ⟨by rfl, ?_⟩) (by assumption) ?_; rotate_left; (intro w hSw; (try dsimp only at hSw); go_simp; try with_reducible rfl); ((try simp only [List.getElem_toArray]); (try simp only [List.getElem_cons_succ]); (try simp only [List.getElem_cons_zero]); (try simp only [Act.put]); (try simp only [List.setIfInBounds_toArray]); (try simp only [List.set_cons_succ]); (try simp only [List.set_cons_zero])))
        (refine wpAnyH_take (i := 14) (v := ?_) rfl (by kernel_rfl) (by kernel_rfl) (by kernel_rfl) (fun _ _ _ h => h) (Or.inl ⟨by rfl, ?_⟩) (by assumption) ?_; rotate_left; (intro w hSw; (try dsimp only at hSw); go_simp; try with_reducible rfl); ((try simp only [List.getElem_toArray]); (try simp only [List.getElem_cons_succ]); (try simp only [List.getElem_cons_zero]); (try simp only [Act.put]); (try simp only [List.setIfInBounds_toArray]); (try simp only [List.set_cons_succ]); (try simp only [List.set_cons_zero])))
        have HNU := Lib.hid (number_any (k9.out.below (w' := wa.drew) (below_drewN (Below.refl _ _) 1)))
        refine wpAnyH_ready (rs := [12]) (by kernel_rfl) (by simp) ?_
        refine AllReadyH.cons rfl (fun K2 hK2 => ?_) AllReadyH.nil
        go_simp
        refine (HNU.out).mono ?_
        rintro e wc ⟨rfl, rfl⟩
        go_wp2_with fail
        refine hK2.out _ _ (by (try dsimp only); exact HPa.out.cell 1) (fun _ => ?_)
        clear hK2 K2
        (try simp only [List.getElem_toArray]); (try simp only [List.getElem_cons_succ]); (try simp only [List.getElem_cons_zero]); (try simp only [Act.put]); (try simp only [List.setIfInBounds_toArray]); (try simp only [List.set_cons_succ]); (try simp only [List.set_cons_zero])
        (refine wpAnyH_take (i := 15) (v := ?_) rfl (by kernel_rfl) (by kernel_rfl) (by kernel_rfl) (fun _ _ _ h => h) (Or.inl ⟨by rfl, ?_⟩) (by assumption) ?_; rotate_left; (intro w hSw; (try dsimp only at hSw); go_simp; try with_reducible rfl); ((try simp only [List.getElem_toArray]); (try simp only [List.getElem_cons_succ]); (try simp only [List.getElem_cons_zero]); (try simp only [Act.put]); (try simp only [List.setIfInBounds_toArray]); (try simp only [List.set_cons_succ]); (try simp only [List.set_cons_zero])))
        (refine wpAnyH_take (i := 16) (v := ?_) rfl (by kernel_rfl) (by kernel_rfl) (by kernel_rfl) (fun _ _ _ h => h) (Or.inl ⟨by rfl, ?_⟩) (by assumption) ?_; rotate_left; (intro w hSw; (try dsimp only at hSw); go_simp; try with_reducible rfl); ((try simp only [List.getElem_toArray]); (try simp only [List.getElem_cons_succ]); (try simp only [List.getElem_cons_zero]); (try simp only [Act.put]); (try simp only [List.setIfInBounds_toArray]); (try simp only [List.set_cons_succ]); (try simp only [List.set_cons_zero])))
        (refine wpAnyH_take (i := 17) (v := ?_) rfl (by kernel_rfl) (by kernel_rfl) (by kernel_rfl) (fun _ _ _ h => h) (Or.inl ⟨by rfl, ?_⟩) (by assumption) ?_; rotate_left; (intro w hSw; (try dsimp only at hSw); go_simp; try with_reducible rfl); ((try simp only [List.getElem_toArray]); (try simp only [List.getElem_cons_succ]); (try simp only [List.getElem_cons_zero]); (try simp only [Act.put]); (try simp only [List.setIfInBounds_toArray]); (try simp only [List.set_cons_succ]); (try simp only [List.set_cons_zero])))
        refine wpAnyH_ready (rs := [18]) (by kernel_rfl) (by simp) ?_
        refine AllReadyH.cons rfl (fun K2 hK2 => ?_) AllReadyH.nil
        go_simp
        refine (lives_any _).mono ?_
        rintro e wd ⟨rfl, hbd⟩
        have HPd := Lib.hid ((show Has wa.drew w7.heap.size 38 #[.int .i64 2, .int .i64 nn, .string ⟨#[]⟩, .slice none 0 0, .slice none 0 0, .int .i64 0, .string ⟨#[]⟩, .slice none 0 0, .int .i64 0, .string ⟨#[]⟩, .int .i64 0, .bool false] from HPa.out).below hbd.out (show w7.heap.size < wa.drew.heap.size from HPa.out.lt))
        go_wp2_with fail
        refine hK2.out _ _ (by (try dsimp only); exact HPd.out.cell 1) (fun _ => ?_)
        clear hK2 K2
        (try simp only [List.getElem_toArray]); (try simp only [List.getElem_cons_succ]); (try simp only [List.getElem_cons_zero]); (try simp only [Act.put]); (try simp only [List.setIfInBounds_toArray]); (try simp only [List.set_cons_succ]); (try simp only [List.set_cons_zero])
        (refine wpAnyH_take (i := 19) (v := ?_) rfl (by kernel_rfl) (by kernel_rfl) (by kernel_rfl) (fun _ _ _ h => h) (Or.inl ⟨by rfl, ?_⟩) (by assumption) ?_; rotate_left; (intro w hSw; (try dsimp only at hSw); go_simp; try with_reducible rfl); ((try simp only [List.getElem_toArray]); (try simp only [List.getElem_cons_succ]); (try simp only [List.getElem_cons_zero]); (try simp only [Act.put]); (try simp only [List.setIfInBounds_toArray]); (try simp only [List.set_cons_succ]); (try simp only [List.set_cons_zero])))
        (refine wpAnyH_take (i := 20) (v := ?_) rfl (by kernel_rfl) (by kernel_rfl) (by kernel_rfl) (fun _ _ _ h => h) (Or.inl ⟨by rfl, ?_⟩) (by assumption) ?_; rotate_left; (intro w hSw; (try dsimp only at hSw); go_simp; try with_reducible rfl); ((try simp only [List.getElem_toArray]); (try simp only [List.getElem_cons_succ]); (try simp only [List.getElem_cons_zero]); (try simp only [Act.put]); (try simp only [List.setIfInBounds_toArray]); (try simp only [List.set_cons_succ]); (try simp only [List.set_cons_zero])))
        refine wpAnyH_done (by kernel_rfl) ?_ _
        have HF := Lib.hid ((show Below w.heap.size w wa.drew from HBa.out.drew).trans (hbd.out.mono (show w.heap.size ≤ wa.drew.heap.size from HBa.out.size)))
        go_wp2_with fail
        go_ret
        exact ⟨by rfl, HF.out⟩
end Go.Proofs.Ytjkmbggaoinkdaa.txbufClears
