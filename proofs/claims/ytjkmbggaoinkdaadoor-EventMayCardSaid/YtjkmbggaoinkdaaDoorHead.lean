/-
  What the program takes keys apart with: head.
-/
import Derived.Test.YtjkmbggaoinkdaaDoorDecW
import Derived.RegionTactic
import Derived.Laws.ResultCell
import Derived.Deep.RegionHeld3
namespace Go.Proofs.YtjkmbggaoinkdaaDoor
open Go.RowKit Dg
def headV : Option (Vl × Nat) → Value
  | none => .tuple #[Vl.val ⟨0, 0, ⟨#[]⟩⟩, .int .i64 0]
  | some x => .tuple #[x.1.val, .int .i64 (x.2 : Int)]
theorem sb_ext (s : ByteArray) (k : Nat) : sb (s.extract k s.size) = (sb s).drop k := by
  simp only [sb, Lib.ext_list, List.map_drop]
theorem headEnd (w' : World) (g : Nat) (c0 c1 c2 : Value) (tmps : Array Value) (hp : tmps.getD 2 undef = .pointer (some ⟨g, 0, none⟩)) (hh : Has w' g 101 #[c0, c1, c2]) :
    (results Tryd.f133 tmps).run Tryd.prog w' = .ok (.tuple #[.agg #[c0, c1, c2], tmps.getD 3 undef]) w' := by
  rw [results_cell_tmp (p := 2) (u := 3) (ty := 101) rfl, hp]
  simp only [asAddr, Sem.run_pure, Result.andThen_ok]
  rw [run_loadVar_row w' g 101 101 #[c0, c1, c2] (0, 0) _ hh Tryd.underlying101 rfl (by kernel_rfl)]
  rfl
set_option maxHeartbeats 4000000 in
set_option maxRecDepth 100000 in
theorem head_any (s : ByteArray) (w : World) (h0 : 0 < s.size) (hs : s.size ≤ 100000) (hT : Tabs w) :
    Calls Tryd.prog 133 #[.string s] w fun e w' => e = .returned (headV (headF (sb s))) ∧ Hid (Below w.heap.size w w') := by
  have hz : (0 : Int) < (s.size : Int) := by omega
  have hb := s[0].toNat_lt
  have HF : Hid (headF (sb s) = match headR s[0].toNat (sb (s.extract 1 s.size)) with | none => none | some (v, n) => if v.may then some (v, n + 1) else none) := by
    show _ = _
    have h := sb_drop s 0 h0
    rw [List.drop_zero] at h
    rw [sb_ext, h]; rfl
  have hes : (s.extract 1 s.size).size = s.size - 1 := by simp
  have HT := Lib.hid hT
  clear hT
  obtain ⟨r, hr⟩ : ∃ r, r = s.extract 1 s.size := ⟨_, rfl⟩
  have HR : Hid (s.extract 1 s.size = r) := hr.symm
  rw [← hr] at HF hes
  clear hr
  have hrs : r.size ≤ 100000 := by omega
  clear hes
  by_cases k1 : s[0].toNat = 1
  · rw [k1] at HF
    have HR' := HR.out
    by_cases hl : r.size < 1
    · have HN := Lib.hid (fun w => number_any r 1 w hrs (by omega) (by omega))
      rw [if_pos hl] at HN
      have HX : Hid (headF (sb s) = none) := by
        show _ = _
        rw [HF.out]
        have : headR 1 (sb r) = none := by unfold headR; simp [sb_length, hl]
        rw [this]
      go_enter Tryd.func133, Tryd.ntmps133
      go_wp2_with fail
      go_region
      all_goals
        clear HR'
        go_wp2_with fail
        refine (HN.out _).mono ?_
        rintro e w1 ⟨rfl, rfl⟩
        go_wp2_with fail
        exact bodyPost_ret (headEnd _ w.heap.size _ _ _ _ rfl ((Has.new w _ _).alloc _).drew) rfl ⟨by rw [HX.out]; rfl, (((Below.refl _ w).alloc (Nat.le_refl _) _).alloc (by simp) _).drew⟩
    · have HN := Lib.hid (fun w => number_any r 1 w hrs (by omega) (by omega))
      rw [if_neg hl] at HN
      have HSG : Hid (sg (beN ((sb r).take 1)) = (beN ((sb r).take 1) : Int)) := by
        have h := be_lt ((sb r).take 1) (fun x hx => sb_byte r x (List.mem_of_mem_take hx))
        have e : ((sb r).take 1).length = 1 := by rw [List.length_take, sb_length]; omega
        rw [e] at h
        show _ = _; unfold sg; rw [if_pos (by omega)]
      rw [HSG.out] at HN
      clear HSG
      go_enter Tryd.func133, Tryd.ntmps133
      go_wp2_with fail
      go_region
      all_goals
        clear HR'
        go_wp2_with fail
        refine (HN.out _).mono ?_
        rintro e w1 ⟨rfl, rfl⟩
        go_wp2_with fail
        have HH1 : Hid (Has (((w.alloc (.cells #[.int .i64 0, .int .i64 0, .string ⟨#[]⟩] 101)).alloc (.cells #[.int .i64 1, .int .i64 (beN ((sb r).take 1) : Int), .string ⟨#[]⟩] 101)).drew) w.heap.size 101 #[.int .i64 0, .int .i64 0, .string ⟨#[]⟩]) := ((Has.new w _ _).alloc _).drew
        have HH2 : Hid (Has (((w.alloc (.cells #[.int .i64 0, .int .i64 0, .string ⟨#[]⟩] 101)).alloc (.cells #[.int .i64 1, .int .i64 (beN ((sb r).take 1) : Int), .string ⟨#[]⟩] 101)).drew) (w.heap.size + 1) 101 #[.int .i64 1, .int .i64 (beN ((sb r).take 1) : Int), .string ⟨#[]⟩]) := (by have h := Has.new (w.alloc (.cells #[.int .i64 0, .int .i64 0, .string ⟨#[]⟩] 101)) 101 #[.int .i64 1, .int .i64 (beN ((sb r).take 1) : Int), .string ⟨#[]⟩]; rw [show (w.alloc (.cells #[.int .i64 0, .int .i64 0, .string ⟨#[]⟩] 101)).heap.size = w.heap.size + 1 by simp] at h; exact h.drew)
        have HB1 : Hid (Below w.heap.size w (((w.alloc (.cells #[.int .i64 0, .int .i64 0, .string ⟨#[]⟩] 101)).alloc (.cells #[.int .i64 1, .int .i64 (beN ((sb r).take 1) : Int), .string ⟨#[]⟩] 101)).drew)) := (((Below.refl _ w).alloc (Nat.le_refl _) _).alloc (by simp) _).drew
        have HHR : Hid (headR 1 (sb r) = some (⟨1, (beN ((sb r).take 1) : Int), ⟨#[]⟩⟩, 1)) := by show _ = _; unfold headR; rw [if_pos rfl, if_neg (by rw [sb_length]; exact hl)]
        refine (may_any 1 ((beN ((sb r).take 1) : Int)) (⟨#[]⟩) _ (by simp [ByteArray.size]) (HT.out.below HB1.out)).mono ?_
        rintro e w2 ⟨rfl, hb2⟩
        have HB2 := Lib.hid (HB1.out.trans (hb2.out.mono HB1.out.size))
        have HG1 := Lib.hid (HH1.out.below hb2.out HH1.out.lt)
        have HG2 := Lib.hid (HH2.out.below hb2.out HH2.out.lt)
        have d0 := HG2.out.cell 0
        have d1 := HG2.out.cell 1
        have d2 := HG2.out.cell 2
        simp at d0 d1 d2
        clear hb2 HH1 HH2 HB1
        cases hm : mayF 1 ((beN ((sb r).take 1) : Int)) (⟨#[]⟩)
        · have HX : Hid (headF (sb s) = none) := by
            show _ = _
            rw [HF.out, HHR.out]
            simp only [Vl.may, hm]
            rfl
          have c0 := HG1.out.cell 0
          have c1 := HG1.out.cell 1
          have c2 := HG1.out.cell 2
          have e0 := HG1.out.free 0
          have e1 := HG1.out.free 1
          have e2 := HG1.out.free 2
          simp at c0 c1 c2
          have HP := Lib.hid (((HG1.out.put 0 (.int .i64 0)).put 1 (.int .i64 0)).put 2 (.string ⟨#[]⟩))
          go_wp2_with fail
          exact bodyPost_ret (headEnd _ w.heap.size _ _ _ _ rfl HP.out) rfl ⟨by rw [HX.out]; rfl, (((HB2.out).setCell (by simp) _).setCell (by simp) _).setCell (by simp) _⟩
        · have HX : Hid (headF (sb s) = some (⟨1, (beN ((sb r).take 1) : Int), ⟨#[]⟩⟩, 1 + 1)) := by
            show _ = _
            rw [HF.out, HHR.out]
            simp only [Vl.may, hm]
            rfl
          have c0 := HG1.out.cell 0
          have c1 := HG1.out.cell 1
          have c2 := HG1.out.cell 2
          have e0 := HG1.out.free 0
          have e1 := HG1.out.free 1
          have e2 := HG1.out.free 2
          simp at c0 c1 c2
          have HP := Lib.hid (((HG1.out.put 0 (.int .i64 1)).put 1 (.int .i64 (beN ((sb r).take 1) : Int))).put 2 (.string ⟨#[]⟩))
          go_wp2_with fail
          exact bodyPost_ret (headEnd _ w.heap.size _ _ _ _ rfl HP.out) rfl ⟨by rw [HX.out]; first | rfl | (simp [headV, Vl.val]; omega), (((HB2.out).setCell (by simp) _).setCell (by simp) _).setCell (by simp) _⟩
  by_cases k2 : s[0].toNat = 2
  · rw [k2] at HF
    have HR' := HR.out
    by_cases hl : r.size < 8
    · have HN := Lib.hid (fun w => number_any r 8 w hrs (by omega) (by omega))
      rw [if_pos hl] at HN
      have HX : Hid (headF (sb s) = none) := by
        show _ = _
        rw [HF.out]
        have : headR 2 (sb r) = none := by unfold headR; simp [sb_length, hl]
        rw [this]
      go_enter Tryd.func133, Tryd.ntmps133
      go_wp2_with fail
      go_region
      all_goals
        clear HR'
        go_wp2_with fail
        refine (HN.out _).mono ?_
        rintro e w1 ⟨rfl, rfl⟩
        go_wp2_with fail
        exact bodyPost_ret (headEnd _ w.heap.size _ _ _ _ rfl ((Has.new w _ _).alloc _).drew) rfl ⟨by rw [HX.out]; rfl, (((Below.refl _ w).alloc (Nat.le_refl _) _).alloc (by simp) _).drew⟩
    · have HN := Lib.hid (fun w => number_any r 8 w hrs (by omega) (by omega))
      rw [if_neg hl] at HN
      have HSG : Hid (bits .xor .i64 (sg (beN ((sb r).take 8))) (-9223372036854775808) = (beN ((sb r).take 8) : Int) - 9223372036854775808) := by
        have h := be_lt ((sb r).take 8) (fun x hx => sb_byte r x (List.mem_of_mem_take hx))
        have e : ((sb r).take 8).length = 8 := by rw [List.length_take, sb_length]; omega
        rw [e] at h
        generalize beN ((sb r).take 8) = m at *
        have h2 : m < 18446744073709551616 := by rw [show (18446744073709551616 : Nat) = 256 ^ 8 by decide]; exact h
        show _ = _
        rw [flip_bits _ (by unfold sg; split <;> omega) (by unfold sg; split <;> omega)]
        unfold flip sg
        split <;> split <;> omega
      go_enter Tryd.func133, Tryd.ntmps133
      go_wp2_with fail
      go_region
      all_goals
        clear HR'
        go_wp2_with fail
        refine (HN.out _).mono ?_
        rintro e w1 ⟨rfl, rfl⟩
        go_wp2_with fail
        rw [HSG.out]
        have HH1 : Hid (Has (((w.alloc (.cells #[.int .i64 0, .int .i64 0, .string ⟨#[]⟩] 101)).alloc (.cells #[.int .i64 2, .int .i64 ((beN ((sb r).take 8) : Int) - 9223372036854775808), .string ⟨#[]⟩] 101)).drew) w.heap.size 101 #[.int .i64 0, .int .i64 0, .string ⟨#[]⟩]) := ((Has.new w _ _).alloc _).drew
        have HH2 : Hid (Has (((w.alloc (.cells #[.int .i64 0, .int .i64 0, .string ⟨#[]⟩] 101)).alloc (.cells #[.int .i64 2, .int .i64 ((beN ((sb r).take 8) : Int) - 9223372036854775808), .string ⟨#[]⟩] 101)).drew) (w.heap.size + 1) 101 #[.int .i64 2, .int .i64 ((beN ((sb r).take 8) : Int) - 9223372036854775808), .string ⟨#[]⟩]) := (by have h := Has.new (w.alloc (.cells #[.int .i64 0, .int .i64 0, .string ⟨#[]⟩] 101)) 101 #[.int .i64 2, .int .i64 ((beN ((sb r).take 8) : Int) - 9223372036854775808), .string ⟨#[]⟩]; rw [show (w.alloc (.cells #[.int .i64 0, .int .i64 0, .string ⟨#[]⟩] 101)).heap.size = w.heap.size + 1 by simp] at h; exact h.drew)
        have HB1 : Hid (Below w.heap.size w (((w.alloc (.cells #[.int .i64 0, .int .i64 0, .string ⟨#[]⟩] 101)).alloc (.cells #[.int .i64 2, .int .i64 ((beN ((sb r).take 8) : Int) - 9223372036854775808), .string ⟨#[]⟩] 101)).drew)) := (((Below.refl _ w).alloc (Nat.le_refl _) _).alloc (by simp) _).drew
        have HHR : Hid (headR 2 (sb r) = some (⟨2, ((beN ((sb r).take 8) : Int) - 9223372036854775808), ⟨#[]⟩⟩, 8)) := by show _ = _; unfold headR; rw [if_neg (by omega), if_pos rfl, if_neg (by rw [sb_length]; exact hl)]
        refine (may_any 2 (((beN ((sb r).take 8) : Int) - 9223372036854775808)) (⟨#[]⟩) _ (by simp [ByteArray.size]) (HT.out.below HB1.out)).mono ?_
        rintro e w2 ⟨rfl, hb2⟩
        have HB2 := Lib.hid (HB1.out.trans (hb2.out.mono HB1.out.size))
        have HG1 := Lib.hid (HH1.out.below hb2.out HH1.out.lt)
        have HG2 := Lib.hid (HH2.out.below hb2.out HH2.out.lt)
        have d0 := HG2.out.cell 0
        have d1 := HG2.out.cell 1
        have d2 := HG2.out.cell 2
        simp at d0 d1 d2
        clear hb2 HH1 HH2 HB1
        cases hm : mayF 2 (((beN ((sb r).take 8) : Int) - 9223372036854775808)) (⟨#[]⟩)
        · have HX : Hid (headF (sb s) = none) := by
            show _ = _
            rw [HF.out, HHR.out]
            simp only [Vl.may, hm]
            rfl
          have c0 := HG1.out.cell 0
          have c1 := HG1.out.cell 1
          have c2 := HG1.out.cell 2
          have e0 := HG1.out.free 0
          have e1 := HG1.out.free 1
          have e2 := HG1.out.free 2
          simp at c0 c1 c2
          have HP := Lib.hid (((HG1.out.put 0 (.int .i64 0)).put 1 (.int .i64 0)).put 2 (.string ⟨#[]⟩))
          go_wp2_with fail
          exact bodyPost_ret (headEnd _ w.heap.size _ _ _ _ rfl HP.out) rfl ⟨by rw [HX.out]; rfl, (((HB2.out).setCell (by simp) _).setCell (by simp) _).setCell (by simp) _⟩
        · have HX : Hid (headF (sb s) = some (⟨2, ((beN ((sb r).take 8) : Int) - 9223372036854775808), ⟨#[]⟩⟩, 8 + 1)) := by
            show _ = _
            rw [HF.out, HHR.out]
            simp only [Vl.may, hm]
            rfl
          have c0 := HG1.out.cell 0
          have c1 := HG1.out.cell 1
          have c2 := HG1.out.cell 2
          have e0 := HG1.out.free 0
          have e1 := HG1.out.free 1
          have e2 := HG1.out.free 2
          simp at c0 c1 c2
          have HP := Lib.hid (((HG1.out.put 0 (.int .i64 2)).put 1 (.int .i64 ((beN ((sb r).take 8) : Int) - 9223372036854775808))).put 2 (.string ⟨#[]⟩))
          go_wp2_with fail
          exact bodyPost_ret (headEnd _ w.heap.size _ _ _ _ rfl HP.out) rfl ⟨by rw [HX.out]; first | rfl | (simp [headV, Vl.val]; omega), (((HB2.out).setCell (by simp) _).setCell (by simp) _).setCell (by simp) _⟩
  by_cases k3 : s[0].toNat = 3
  · rw [k3] at HF
    have HR' := HR.out
    cases hd : decS false [] 0 (sb r) with
    | none =>
      have HX : Hid (headF (sb s) = none) := by
        show _ = _
        rw [HF.out]
        have : headR 3 (sb r) = none := by unfold headR; simp [hd]
        rw [this]
      have HN := Lib.hid (fun w => text_any r w hrs none hd)
      clear hd
      go_enter Tryd.func133, Tryd.ntmps133
      go_wp2_with fail
      go_region
      all_goals
        clear HR'
        go_wp2_with fail
        refine (HN.out _).mono ?_
        rintro e w1 ⟨rfl, hb1⟩
        have HH1 := Lib.hid (((Has.new w 101 #[.int .i64 0, .int .i64 0, .string ⟨#[]⟩]).alloc (.cells #[.int .i64 3, .int .i64 0, .string ⟨#[]⟩] 101)).drew)
        have HH2 : Hid (Has (((w.alloc (.cells #[.int .i64 0, .int .i64 0, .string ⟨#[]⟩] 101)).alloc (.cells #[.int .i64 3, .int .i64 0, .string ⟨#[]⟩] 101)).drew) (w.heap.size + 1) 101 #[.int .i64 3, .int .i64 0, .string ⟨#[]⟩]) := (by have h := Has.new (w.alloc (.cells #[.int .i64 0, .int .i64 0, .string ⟨#[]⟩] 101)) 101 #[.int .i64 3, .int .i64 0, .string ⟨#[]⟩]; rw [show (w.alloc (.cells #[.int .i64 0, .int .i64 0, .string ⟨#[]⟩] 101)).heap.size = w.heap.size + 1 by simp] at h; exact h.drew)
        have HB0 : Hid (Below w.heap.size w (((w.alloc (.cells #[.int .i64 0, .int .i64 0, .string ⟨#[]⟩] 101)).alloc (.cells #[.int .i64 3, .int .i64 0, .string ⟨#[]⟩] 101)).drew)) := (((Below.refl _ w).alloc (Nat.le_refl _) _).alloc (by simp) _).drew
        have HB1 := Lib.hid (HB0.out.trans (hb1.out.mono HB0.out.size))
        have HG1 := Lib.hid (HH1.out.below hb1.out HH1.out.lt)
        have HG2 := Lib.hid (HH2.out.below hb1.out HH2.out.lt)
        have d0 := HG2.out.cell 0
        have d1 := HG2.out.cell 1
        have d2 := HG2.out.cell 2
        have e2 := HG2.out.free 2
        simp at d0 d1 d2
        clear hb1 HH1 HH2 HB0
        unfold textR
        have hst : Hid (Has (w1.setCell ⟨w.heap.size + 1, 2, none⟩ (.string ⟨#[]⟩)) w.heap.size 101 #[.int .i64 0, .int .i64 0, .string ⟨#[]⟩]) := HG1.out.far (by simp) _
        have c0 := hst.out.cell 0
        have c1 := hst.out.cell 1
        have c2 := hst.out.cell 2
        have e0 := hst.out.free 0
        have e1 := hst.out.free 1
        have e2 := hst.out.free 2
        simp at c0 c1 c2
        have HP := Lib.hid (((hst.out.put 0 (.int .i64 0)).put 1 (.int .i64 0)).put 2 (.string ⟨#[]⟩))
        go_wp2_with fail
        exact bodyPost_ret (headEnd _ w.heap.size _ _ _ _ rfl HP.out) rfl ⟨by rw [HX.out]; rfl, ((((HB1.out.setCell (by simp) _)).setCell (by simp) _).setCell (by simp) _).setCell (by simp) _⟩
    | some q =>
      obtain ⟨t, m⟩ := q
      have hmle : m ≤ 100000 ∧ (bs t).size ≤ 9223372036854775807 := by
        obtain ⟨t', r', h1, h2, h5⟩ := (dec_some (sb r) [] 0 t m).1 hd
        have h3 := congrArg List.length h2
        have h4 := esc_ge t'
        rw [sb_length, List.length_append] at h3
        rw [List.nil_append] at h1
        simp at h3
        rw [bs_size, h1]
        exact ⟨by omega, by omega⟩
      have HTS := Lib.hid hmle.2
      replace hmle := hmle.1
      have HDD := Lib.hid hd
      have HN := Lib.hid (fun w => text_any r w hrs (some (t, m)) hd)
      clear hd
      go_enter Tryd.func133, Tryd.ntmps133
      go_wp2_with fail
      go_region
      all_goals
        clear HR'
        go_wp2_with fail
        refine (HN.out _).mono ?_
        rintro e w1 ⟨rfl, hb1⟩
        have HH1 := Lib.hid (((Has.new w 101 #[.int .i64 0, .int .i64 0, .string ⟨#[]⟩]).alloc (.cells #[.int .i64 3, .int .i64 0, .string ⟨#[]⟩] 101)).drew)
        have HH2 : Hid (Has (((w.alloc (.cells #[.int .i64 0, .int .i64 0, .string ⟨#[]⟩] 101)).alloc (.cells #[.int .i64 3, .int .i64 0, .string ⟨#[]⟩] 101)).drew) (w.heap.size + 1) 101 #[.int .i64 3, .int .i64 0, .string ⟨#[]⟩]) := (by have h := Has.new (w.alloc (.cells #[.int .i64 0, .int .i64 0, .string ⟨#[]⟩] 101)) 101 #[.int .i64 3, .int .i64 0, .string ⟨#[]⟩]; rw [show (w.alloc (.cells #[.int .i64 0, .int .i64 0, .string ⟨#[]⟩] 101)).heap.size = w.heap.size + 1 by simp] at h; exact h.drew)
        have HB0 : Hid (Below w.heap.size w (((w.alloc (.cells #[.int .i64 0, .int .i64 0, .string ⟨#[]⟩] 101)).alloc (.cells #[.int .i64 3, .int .i64 0, .string ⟨#[]⟩] 101)).drew)) := (((Below.refl _ w).alloc (Nat.le_refl _) _).alloc (by simp) _).drew
        have HB1 := Lib.hid (HB0.out.trans (hb1.out.mono HB0.out.size))
        have HG1 := Lib.hid (HH1.out.below hb1.out HH1.out.lt)
        have HG2 := Lib.hid (HH2.out.below hb1.out HH2.out.lt)
        have d0 := HG2.out.cell 0
        have d1 := HG2.out.cell 1
        have d2 := HG2.out.cell 2
        have e2 := HG2.out.free 2
        simp at d0 d1 d2
        clear hb1 HH1 HH2 HB0
        unfold textR
        go_wp2_with fail
        clear d0 d1 d2 e2
        have HH1 : Hid (Has (w1.setCell ⟨w.heap.size + 1, 2, none⟩ (.string (bs t))) w.heap.size 101 #[.int .i64 0, .int .i64 0, .string ⟨#[]⟩]) := HG1.out.far (by simp) _
        have HH2 : Hid (Has (w1.setCell ⟨w.heap.size + 1, 2, none⟩ (.string (bs t))) (w.heap.size + 1) 101 #[.int .i64 3, .int .i64 0, .string (bs t)]) := HG2.out.put 2 _
        have HB1 : Hid (Below w.heap.size w (w1.setCell ⟨w.heap.size + 1, 2, none⟩ (.string (bs t)))) := HB1.out.setCell (by simp) _
        have HHR : Hid (headR 3 (sb r) = some (⟨3, 0, (bs t)⟩, m)) := by show _ = _; unfold headR; rw [HDD.out]; simp
        refine (may_any 3 (0) ((bs t)) _ (HTS.out) (HT.out.below HB1.out)).mono ?_
        rintro e w2 ⟨rfl, hb2⟩
        have HB2 := Lib.hid (HB1.out.trans (hb2.out.mono HB1.out.size))
        have HK1 := Lib.hid (HH1.out.below hb2.out HH1.out.lt)
        have HK2 := Lib.hid (HH2.out.below hb2.out HH2.out.lt)
        have d0 := HK2.out.cell 0
        have d1 := HK2.out.cell 1
        have d2 := HK2.out.cell 2
        simp at d0 d1 d2
        clear hb2 HH1 HH2
        cases hm : mayF 3 (0) ((bs t))
        · have HX : Hid (headF (sb s) = none) := by
            show _ = _
            rw [HF.out, HHR.out]
            simp only [Vl.may, hm]
            rfl
          have c0 := HK1.out.cell 0
          have c1 := HK1.out.cell 1
          have c2 := HK1.out.cell 2
          have e0 := HK1.out.free 0
          have e1 := HK1.out.free 1
          have e2 := HK1.out.free 2
          simp at c0 c1 c2
          have HP := Lib.hid (((HK1.out.put 0 (.int .i64 0)).put 1 (.int .i64 0)).put 2 (.string ⟨#[]⟩))
          go_wp2_with fail
          exact bodyPost_ret (headEnd _ w.heap.size _ _ _ _ rfl HP.out) rfl ⟨by rw [HX.out]; rfl, (((HB2.out).setCell (by simp) _).setCell (by simp) _).setCell (by simp) _⟩
        · have HX : Hid (headF (sb s) = some (⟨3, 0, (bs t)⟩, m + 1)) := by
            show _ = _
            rw [HF.out, HHR.out]
            simp only [Vl.may, hm]
            rfl
          have c0 := HK1.out.cell 0
          have c1 := HK1.out.cell 1
          have c2 := HK1.out.cell 2
          have e0 := HK1.out.free 0
          have e1 := HK1.out.free 1
          have e2 := HK1.out.free 2
          simp at c0 c1 c2
          have HP := Lib.hid (((HK1.out.put 0 (.int .i64 3)).put 1 (.int .i64 0)).put 2 (.string (bs t)))
          go_wp2_with fail
          exact bodyPost_ret (headEnd _ w.heap.size _ _ _ _ rfl HP.out) rfl ⟨by rw [HX.out]; first | rfl | (simp [headV, Vl.val]; omega), (((HB2.out).setCell (by simp) _).setCell (by simp) _).setCell (by simp) _⟩
  by_cases k4 : s[0].toNat = 4
  · rw [k4] at HF
    have HR' := HR.out
    cases hd : decS false [] 0 (sb r) with
    | none =>
      have HX : Hid (headF (sb s) = none) := by
        show _ = _
        rw [HF.out]
        have : headR 4 (sb r) = none := by unfold headR; simp [hd]
        rw [this]
      have HN := Lib.hid (fun w => text_any r w hrs none hd)
      clear hd
      go_enter Tryd.func133, Tryd.ntmps133
      go_wp2_with fail
      go_region
      all_goals
        clear HR'
        go_wp2_with fail
        refine (HN.out _).mono ?_
        rintro e w1 ⟨rfl, hb1⟩
        have HH1 := Lib.hid (((Has.new w 101 #[.int .i64 0, .int .i64 0, .string ⟨#[]⟩]).alloc (.cells #[.int .i64 4, .int .i64 0, .string ⟨#[]⟩] 101)).drew)
        have HH2 : Hid (Has (((w.alloc (.cells #[.int .i64 0, .int .i64 0, .string ⟨#[]⟩] 101)).alloc (.cells #[.int .i64 4, .int .i64 0, .string ⟨#[]⟩] 101)).drew) (w.heap.size + 1) 101 #[.int .i64 4, .int .i64 0, .string ⟨#[]⟩]) := (by have h := Has.new (w.alloc (.cells #[.int .i64 0, .int .i64 0, .string ⟨#[]⟩] 101)) 101 #[.int .i64 4, .int .i64 0, .string ⟨#[]⟩]; rw [show (w.alloc (.cells #[.int .i64 0, .int .i64 0, .string ⟨#[]⟩] 101)).heap.size = w.heap.size + 1 by simp] at h; exact h.drew)
        have HB0 : Hid (Below w.heap.size w (((w.alloc (.cells #[.int .i64 0, .int .i64 0, .string ⟨#[]⟩] 101)).alloc (.cells #[.int .i64 4, .int .i64 0, .string ⟨#[]⟩] 101)).drew)) := (((Below.refl _ w).alloc (Nat.le_refl _) _).alloc (by simp) _).drew
        have HB1 := Lib.hid (HB0.out.trans (hb1.out.mono HB0.out.size))
        have HG1 := Lib.hid (HH1.out.below hb1.out HH1.out.lt)
        have HG2 := Lib.hid (HH2.out.below hb1.out HH2.out.lt)
        have d0 := HG2.out.cell 0
        have d1 := HG2.out.cell 1
        have d2 := HG2.out.cell 2
        have e2 := HG2.out.free 2
        simp at d0 d1 d2
        clear hb1 HH1 HH2 HB0
        unfold textR
        have hst : Hid (Has (w1.setCell ⟨w.heap.size + 1, 2, none⟩ (.string ⟨#[]⟩)) w.heap.size 101 #[.int .i64 0, .int .i64 0, .string ⟨#[]⟩]) := HG1.out.far (by simp) _
        have c0 := hst.out.cell 0
        have c1 := hst.out.cell 1
        have c2 := hst.out.cell 2
        have e0 := hst.out.free 0
        have e1 := hst.out.free 1
        have e2 := hst.out.free 2
        simp at c0 c1 c2
        have HP := Lib.hid (((hst.out.put 0 (.int .i64 0)).put 1 (.int .i64 0)).put 2 (.string ⟨#[]⟩))
        go_wp2_with fail
        exact bodyPost_ret (headEnd _ w.heap.size _ _ _ _ rfl HP.out) rfl ⟨by rw [HX.out]; rfl, ((((HB1.out.setCell (by simp) _)).setCell (by simp) _).setCell (by simp) _).setCell (by simp) _⟩
    | some q =>
      obtain ⟨t, m⟩ := q
      have hmle : m ≤ 100000 ∧ (bs t).size ≤ 9223372036854775807 := by
        obtain ⟨t', r', h1, h2, h5⟩ := (dec_some (sb r) [] 0 t m).1 hd
        have h3 := congrArg List.length h2
        have h4 := esc_ge t'
        rw [sb_length, List.length_append] at h3
        rw [List.nil_append] at h1
        simp at h3
        rw [bs_size, h1]
        exact ⟨by omega, by omega⟩
      have HTS := Lib.hid hmle.2
      replace hmle := hmle.1
      have HDD := Lib.hid hd
      have HN := Lib.hid (fun w => text_any r w hrs (some (t, m)) hd)
      clear hd
      go_enter Tryd.func133, Tryd.ntmps133
      go_wp2_with fail
      go_region
      all_goals
        clear HR'
        go_wp2_with fail
        refine (HN.out _).mono ?_
        rintro e w1 ⟨rfl, hb1⟩
        have HH1 := Lib.hid (((Has.new w 101 #[.int .i64 0, .int .i64 0, .string ⟨#[]⟩]).alloc (.cells #[.int .i64 4, .int .i64 0, .string ⟨#[]⟩] 101)).drew)
        have HH2 : Hid (Has (((w.alloc (.cells #[.int .i64 0, .int .i64 0, .string ⟨#[]⟩] 101)).alloc (.cells #[.int .i64 4, .int .i64 0, .string ⟨#[]⟩] 101)).drew) (w.heap.size + 1) 101 #[.int .i64 4, .int .i64 0, .string ⟨#[]⟩]) := (by have h := Has.new (w.alloc (.cells #[.int .i64 0, .int .i64 0, .string ⟨#[]⟩] 101)) 101 #[.int .i64 4, .int .i64 0, .string ⟨#[]⟩]; rw [show (w.alloc (.cells #[.int .i64 0, .int .i64 0, .string ⟨#[]⟩] 101)).heap.size = w.heap.size + 1 by simp] at h; exact h.drew)
        have HB0 : Hid (Below w.heap.size w (((w.alloc (.cells #[.int .i64 0, .int .i64 0, .string ⟨#[]⟩] 101)).alloc (.cells #[.int .i64 4, .int .i64 0, .string ⟨#[]⟩] 101)).drew)) := (((Below.refl _ w).alloc (Nat.le_refl _) _).alloc (by simp) _).drew
        have HB1 := Lib.hid (HB0.out.trans (hb1.out.mono HB0.out.size))
        have HG1 := Lib.hid (HH1.out.below hb1.out HH1.out.lt)
        have HG2 := Lib.hid (HH2.out.below hb1.out HH2.out.lt)
        have d0 := HG2.out.cell 0
        have d1 := HG2.out.cell 1
        have d2 := HG2.out.cell 2
        have e2 := HG2.out.free 2
        simp at d0 d1 d2
        clear hb1 HH1 HH2 HB0
        unfold textR
        go_wp2_with fail
        clear d0 d1 d2 e2
        have HH1 : Hid (Has (w1.setCell ⟨w.heap.size + 1, 2, none⟩ (.string (bs t))) w.heap.size 101 #[.int .i64 0, .int .i64 0, .string ⟨#[]⟩]) := HG1.out.far (by simp) _
        have HH2 : Hid (Has (w1.setCell ⟨w.heap.size + 1, 2, none⟩ (.string (bs t))) (w.heap.size + 1) 101 #[.int .i64 4, .int .i64 0, .string (bs t)]) := HG2.out.put 2 _
        have HB1 : Hid (Below w.heap.size w (w1.setCell ⟨w.heap.size + 1, 2, none⟩ (.string (bs t)))) := HB1.out.setCell (by simp) _
        have HHR : Hid (headR 4 (sb r) = some (⟨4, 0, (bs t)⟩, m)) := by show _ = _; unfold headR; rw [HDD.out]; simp
        refine (may_any 4 (0) ((bs t)) _ (HTS.out) (HT.out.below HB1.out)).mono ?_
        rintro e w2 ⟨rfl, hb2⟩
        have HB2 := Lib.hid (HB1.out.trans (hb2.out.mono HB1.out.size))
        have HK1 := Lib.hid (HH1.out.below hb2.out HH1.out.lt)
        have HK2 := Lib.hid (HH2.out.below hb2.out HH2.out.lt)
        have d0 := HK2.out.cell 0
        have d1 := HK2.out.cell 1
        have d2 := HK2.out.cell 2
        simp at d0 d1 d2
        clear hb2 HH1 HH2
        cases hm : mayF 4 (0) ((bs t))
        · have HX : Hid (headF (sb s) = none) := by
            show _ = _
            rw [HF.out, HHR.out]
            simp only [Vl.may, hm]
            rfl
          have c0 := HK1.out.cell 0
          have c1 := HK1.out.cell 1
          have c2 := HK1.out.cell 2
          have e0 := HK1.out.free 0
          have e1 := HK1.out.free 1
          have e2 := HK1.out.free 2
          simp at c0 c1 c2
          have HP := Lib.hid (((HK1.out.put 0 (.int .i64 0)).put 1 (.int .i64 0)).put 2 (.string ⟨#[]⟩))
          go_wp2_with fail
          exact bodyPost_ret (headEnd _ w.heap.size _ _ _ _ rfl HP.out) rfl ⟨by rw [HX.out]; rfl, (((HB2.out).setCell (by simp) _).setCell (by simp) _).setCell (by simp) _⟩
        · have HX : Hid (headF (sb s) = some (⟨4, 0, (bs t)⟩, m + 1)) := by
            show _ = _
            rw [HF.out, HHR.out]
            simp only [Vl.may, hm]
            rfl
          have c0 := HK1.out.cell 0
          have c1 := HK1.out.cell 1
          have c2 := HK1.out.cell 2
          have e0 := HK1.out.free 0
          have e1 := HK1.out.free 1
          have e2 := HK1.out.free 2
          simp at c0 c1 c2
          have HP := Lib.hid (((HK1.out.put 0 (.int .i64 4)).put 1 (.int .i64 0)).put 2 (.string (bs t)))
          go_wp2_with fail
          exact bodyPost_ret (headEnd _ w.heap.size _ _ _ _ rfl HP.out) rfl ⟨by rw [HX.out]; first | rfl | (simp [headV, Vl.val]; omega), (((HB2.out).setCell (by simp) _).setCell (by simp) _).setCell (by simp) _⟩
  · have HR' := HR.out
    have hw : wrap64 (s[0].toNat : Int) = (s[0].toNat : Int) := by unfold wrap64; omega
    have hk1 : ((s[0].toNat : Int) == 1) = false := by simp; omega
    have hk2 : ((s[0].toNat : Int) == 2) = false := by simp; omega
    have hk3 : ((s[0].toNat : Int) == 3) = false := by simp; omega
    have hk4 : ((s[0].toNat : Int) == 4) = false := by simp; omega
    go_enter Tryd.func133, Tryd.ntmps133
    go_wp2_with fail
    go_region
    all_goals
      clear HR'
      go_wp2_with fail
      have HH1 : Hid (Has (((w.alloc (.cells #[.int .i64 0, .int .i64 0, .string ⟨#[]⟩] 101)).alloc (.cells #[.int .i64 (s[0].toNat : Int), .int .i64 0, .string ⟨#[]⟩] 101)).drew) w.heap.size 101 #[.int .i64 0, .int .i64 0, .string ⟨#[]⟩]) := ((Has.new w _ _).alloc _).drew
      have HH2 : Hid (Has (((w.alloc (.cells #[.int .i64 0, .int .i64 0, .string ⟨#[]⟩] 101)).alloc (.cells #[.int .i64 (s[0].toNat : Int), .int .i64 0, .string ⟨#[]⟩] 101)).drew) (w.heap.size + 1) 101 #[.int .i64 (s[0].toNat : Int), .int .i64 0, .string ⟨#[]⟩]) := (by have h := Has.new (w.alloc (.cells #[.int .i64 0, .int .i64 0, .string ⟨#[]⟩] 101)) 101 #[.int .i64 (s[0].toNat : Int), .int .i64 0, .string ⟨#[]⟩]; rw [show (w.alloc (.cells #[.int .i64 0, .int .i64 0, .string ⟨#[]⟩] 101)).heap.size = w.heap.size + 1 by simp] at h; exact h.drew)
      have HB1 : Hid (Below w.heap.size w (((w.alloc (.cells #[.int .i64 0, .int .i64 0, .string ⟨#[]⟩] 101)).alloc (.cells #[.int .i64 (s[0].toNat : Int), .int .i64 0, .string ⟨#[]⟩] 101)).drew)) := (((Below.refl _ w).alloc (Nat.le_refl _) _).alloc (by simp) _).drew
      have HHR : Hid (headR s[0].toNat (sb r) = some (⟨(s[0].toNat : Int), 0, ⟨#[]⟩⟩, 0)) := by show _ = _; unfold headR; rw [if_neg k1, if_neg k2, if_neg (by omega)]
      refine (may_any (s[0].toNat : Int) (0) (⟨#[]⟩) _ (by simp [ByteArray.size]) (HT.out.below HB1.out)).mono ?_
      rintro e w2 ⟨rfl, hb2⟩
      have HB2 := Lib.hid (HB1.out.trans (hb2.out.mono HB1.out.size))
      have HG1 := Lib.hid (HH1.out.below hb2.out HH1.out.lt)
      have HG2 := Lib.hid (HH2.out.below hb2.out HH2.out.lt)
      have d0 := HG2.out.cell 0
      have d1 := HG2.out.cell 1
      have d2 := HG2.out.cell 2
      simp at d0 d1 d2
      clear hb2 HH1 HH2 HB1
      cases hm : mayF (s[0].toNat : Int) (0) (⟨#[]⟩)
      · have HX : Hid (headF (sb s) = none) := by
          show _ = _
          rw [HF.out, HHR.out]
          simp only [Vl.may, hm]
          rfl
        have c0 := HG1.out.cell 0
        have c1 := HG1.out.cell 1
        have c2 := HG1.out.cell 2
        have e0 := HG1.out.free 0
        have e1 := HG1.out.free 1
        have e2 := HG1.out.free 2
        simp at c0 c1 c2
        have HP := Lib.hid (((HG1.out.put 0 (.int .i64 0)).put 1 (.int .i64 0)).put 2 (.string ⟨#[]⟩))
        go_wp2_with fail
        exact bodyPost_ret (headEnd _ w.heap.size _ _ _ _ rfl HP.out) rfl ⟨by rw [HX.out]; rfl, (((HB2.out).setCell (by simp) _).setCell (by simp) _).setCell (by simp) _⟩
      · have HX : Hid (headF (sb s) = some (⟨(s[0].toNat : Int), 0, ⟨#[]⟩⟩, 0 + 1)) := by
          show _ = _
          rw [HF.out, HHR.out]
          simp only [Vl.may, hm]
          rfl
        have c0 := HG1.out.cell 0
        have c1 := HG1.out.cell 1
        have c2 := HG1.out.cell 2
        have e0 := HG1.out.free 0
        have e1 := HG1.out.free 1
        have e2 := HG1.out.free 2
        simp at c0 c1 c2
        have HP := Lib.hid (((HG1.out.put 0 (.int .i64 (s[0].toNat : Int))).put 1 (.int .i64 0)).put 2 (.string ⟨#[]⟩))
        go_wp2_with fail
        exact bodyPost_ret (headEnd _ w.heap.size _ _ _ _ rfl HP.out) rfl ⟨by rw [HX.out]; first | rfl | (simp [headV, Vl.val]; omega), (((HB2.out).setCell (by simp) _).setCell (by simp) _).setCell (by simp) _⟩
end Go.Proofs.YtjkmbggaoinkdaaDoor
