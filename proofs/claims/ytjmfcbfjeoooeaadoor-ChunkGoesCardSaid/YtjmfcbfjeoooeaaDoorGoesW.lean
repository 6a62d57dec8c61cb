/-
  The law ChunkGoes walked.
-/
import Derived.Test.YtjmfcbfjeoooeaaDoorLives11
import Derived.Test.YtjmfcbfjeoooeaaDoorArgsW
namespace Go.Proofs.YtjmfcbfjeoooeaaDoor.chunkGoes
open Go.RowKit Dg
set_option maxRecDepth 100000
theorem add_one : addE [] tB = 0 ∧ addL [] tB = [⟨tB, false, ⟨#[]⟩⟩] := by
  have h : plW [] tB = false := plW_out (by simp)
  constructor
  · simp [addE, tB_name, h]
  · simp [addL, tB_name, h]
theorem go_yes {last k : ByteArray} (hk : isKeyB k = true) (h : Op.bytesLess last.toList k.toList = true) : goE [⟨tB, false, last⟩] tB k false = 0 ∧ goW [⟨tB, false, last⟩] tB k false = [⟨tB, false, k⟩] := by
  obtain ⟨e1, e2⟩ := go_of_key (k := k) (plW_one false last) (wdF_one false last) hk (by rw [wkF_one]; exact h)
  exact ⟨e1, by rw [e2, lbW_one]; rfl⟩
theorem go_no {last k : ByteArray} (hk : isKeyB k = true) (h : Op.bytesLess last.toList k.toList = false) : goE [⟨tB, false, last⟩] tB k false = 14 :=
  (go_of_behind (k := k) (plW_one false last) (wdF_one false last) hk (by rw [wkF_one]; exact h)).1
set_option maxHeartbeats 8000000 in
theorem walk (A : Option Addr) (n c : Nat) (L : List Int) (q : Int) (w : World) (hn : L.length = n) (_hnc : n ≤ c) (_hcm : c ≤ maxLen) (hr : IRow w A L) (hL : ∀ x ∈ L, -9223372036854775808 ≤ x ∧ x ≤ 9223372036854775807) (hq0 : -9223372036854775808 ≤ q) (hq1 : q ≤ 9223372036854775807) (hT : Tabs w) :
    Calls Tryd.prog 9 #[.slice A n c, .int .i64 q] w fun e w' => e = .returned (.bool true) ∧ Below w.heap.size w w' := by
  have HN := Lib.hid hn
  have HR := Lib.hid hr
  have HL := Lib.hid hL
  have HT := Lib.hid hT
  have HQ := Lib.hid (fun W => lawKey_any q W hq0 hq1)
  have HAD := Lib.hid (wadd_any (B := w.heap.size) (v := .slice none 0 0) (T := []) tB w (ownW_nil _ _) (by simp) sortW_nil (by simp [tB, ByteArray.size]))
  rw [add_one.1, add_one.2] at HAD
  clear hn hr hL hT
  go_enter Tryd.func9, Tryd.ntmps9
  go_wp2_with fail
  refine HAD.out.mono ?_
  rintro e w1 ⟨u, rfl, ho1, hb1⟩
  go_wp2_with fail
  go_loopw [5, 7, 8] (fun g lt i wr => ∃ (k : Nat) (last : ByteArray) (u : Value), k ≤ n ∧ k ≤ 10 ∧ i = .int .i64 k ∧ lt = .string last ∧ u = g ∧ last.size ≤ 9 ∧ Hid (OwnW w.heap.size wr u [⟨tB, false, last⟩]) ∧ Hid (Below w.heap.size w wr)) (fun _ _ i _ => 10 - (intOf i).toNat)
  case atStart => exact ⟨0, ⟨#[]⟩, _, by omega, by omega, rfl, rfl, rfl, by simp [ByteArray.size], ho1, hb1⟩
  case round =>
    obtain ⟨k, last, u, hk, hk10, rfl, rfl, rfl, hls, HO, HB⟩ := hrel
    clear ho1 hb1 HAD
    by_cases hlt : k < n
    · by_cases h10 : k < 10
      · have hkl : k < L.length := by rw [HN.out]; exact hlt
        obtain ⟨b, off, rfl, hc⟩ := (HR.out.below HB.out) (by intro e; rw [e] at hkl; simp at hkl)
        have c0 := hc k hkl
        have HRW : Hid (∀ W, Below wr.heap.size wr W → W.cell? ⟨b, off + k, none⟩ = some (.int .i64 L[k])) := fun W hb => keepW hb c0
        have hx := HL.out L[k] (List.getElem_mem hkl)
        clear hc
        have hkz : (k : Int) < (n : Int) := by omega
        have hkz2 : (k : Int) < 10 := by omega
        generalize L[k] = x at *
        have HX := Lib.hid (fun W => lawKey_any x W hx.1 hx.2)
        have HIK : Hid (isKeyB (kI x) = true) := isKeyB_int x hx.1 hx.2
        have HGO := Lib.hid (fun W (h : OwnW w.heap.size W u [⟨tB, false, last⟩]) hW => pgo_any tB (kI x) false W h (by simp) (sortW_one _) (kI_lt x) hW)
        have HSX := kI_size x
        have HCV := Lib.hid (fun (v : Value) (l2 : ByteArray) W (h : OwnW w.heap.size W v [⟨tB, false, l2⟩]) => cov_any tB (kI q) W h (by simp) (sortW_one _))
        have HCO := Lib.hid (fun l2 => covB_one l2 (kI q))
        generalize kI x = kx at *
        go_wp2_with fail
        refine (HX.out _).mono ?_
        rintro e w2 ⟨rfl, hb2⟩
        have HO2 := Lib.hid (HO.out.below hb2.out)
        have HB2 := Lib.hid (HB.out.trans (hb2.out.mono HB.out.size))
        have hw2 : Hid (Below wr.heap.size wr w2) := hb2
        clear hb2
        go_wp2_with fail
        refine (HGO.out _ HO2.out (HT.out.below HB2.out)).mono ?_
        rintro e w3 ⟨u3, rfl, ho3, hb3⟩
        cases hlk : Op.bytesLess last.toList kx.toList
        · rw [go_no HIK.out hlk]
          rcases leq_is hlk with hq1 | ⟨hq1, hq2⟩
          · clear hlk
            have HB3 := Lib.hid (HB2.out.trans (hb3.out.mono HB2.out.size))
            have HO3 := Lib.hid (HO2.out.below hb3.out)
            have hw3 : Hid (Below wr.heap.size wr w3) := hw2.out.trans (hb3.out.mono hw2.out.size)
            have c3 := HRW.out w3 hw3.out
            clear hb3 ho3 HO2 HO
            go_wp2_with fail
            refine (HX.out _).mono ?_
            rintro e w4 ⟨rfl, hb4⟩
            have HB4 := Lib.hid (HB3.out.trans (hb4.out.mono HB3.out.size))
            have HO4 := Lib.hid (HO3.out.below hb4.out)
            clear hb4 HO3 c3
            go_wp2_with fail
            by_cases hz0 : last.size = 0
            · have he : last.toList.isEmpty = true := by rw [size_e]; simpa using hz0
              have hcv : covB [⟨tB, false, last⟩] tB (kI q) = false := by rw [HCO.out]; simp [hz0]
              generalize kI q = kq at *
              clear HGO HX
              refine (HQ.out _).mono ?_
              rintro e w8 ⟨rfl, hb8⟩
              have HO8 := Lib.hid (HO4.out.below hb8.out)
              have HB8 := Lib.hid (HB4.out.trans (hb8.out.mono HB4.out.size))
              clear hb8
              go_wp2_with fail
              refine (HCV.out _ last _ HO8.out).mono ?_
              rintro e w9 ⟨rfl, hb9⟩
              rw [hcv]
              have HB9 := Lib.hid (HB8.out.trans (hb9.out.mono HB8.out.size))
              have HO9 := Lib.hid (HO8.out.below hb9.out)
              clear hb9
              go_wp2_with fail
              go_roundw
              case rel => exact ⟨k + 1, last, _, by omega, by omega, by go_num, rfl, rfl, by omega, HO9.out, HB9.out⟩
              case measure => simp [intOf]; omega
            · have he : last.toList.isEmpty = false := by rw [size_e]; simp [hz0]
              cases hq9 : Op.bytesLess last.toList (kI q).toList
              · have hcv : covB [⟨tB, false, last⟩] tB (kI q) = true := by rw [HCO.out, hq9]; simp [hz0]
                generalize kI q = kq at *
                clear HGO HX
                rcases leq_is hq9 with hq8 | ⟨hq8, hq7⟩
                · clear hq9
                  refine (HQ.out _).mono ?_
                  rintro e w8 ⟨rfl, hb8⟩
                  have HO8 := Lib.hid (HO4.out.below hb8.out)
                  have HB8 := Lib.hid (HB4.out.trans (hb8.out.mono HB4.out.size))
                  clear hb8
                  go_wp2_with fail
                  refine (HCV.out _ last _ HO8.out).mono ?_
                  rintro e w9 ⟨rfl, hb9⟩
                  rw [hcv]
                  have HB9 := Lib.hid (HB8.out.trans (hb9.out.mono HB8.out.size))
                  have HO9 := Lib.hid (HO8.out.below hb9.out)
                  clear hb9
                  go_wp2_with fail
                  refine (HQ.out _).mono ?_
                  rintro e w10 ⟨rfl, hb10⟩
                  have HB10 := Lib.hid (HB9.out.trans (hb10.out.mono HB9.out.size))
                  have HO10 := Lib.hid (HO9.out.below hb10.out)
                  clear hb10
                  go_wp2_with fail
                  go_roundw
                  case rel => exact ⟨k + 1, last, _, by omega, by omega, by go_num, rfl, rfl, by omega, HO10.out, HB10.out⟩
                  case measure => simp [intOf]; omega
                · clear hq9
                  refine (HQ.out _).mono ?_
                  rintro e w8 ⟨rfl, hb8⟩
                  have HO8 := Lib.hid (HO4.out.below hb8.out)
                  have HB8 := Lib.hid (HB4.out.trans (hb8.out.mono HB4.out.size))
                  clear hb8
                  go_wp2_with fail
                  refine (HCV.out _ last _ HO8.out).mono ?_
                  rintro e w9 ⟨rfl, hb9⟩
                  rw [hcv]
                  have HB9 := Lib.hid (HB8.out.trans (hb9.out.mono HB8.out.size))
                  have HO9 := Lib.hid (HO8.out.below hb9.out)
                  clear hb9
                  go_wp2_with fail
                  refine (HQ.out _).mono ?_
                  rintro e w10 ⟨rfl, hb10⟩
                  have HB10 := Lib.hid (HB9.out.trans (hb10.out.mono HB9.out.size))
                  have HO10 := Lib.hid (HO9.out.below hb10.out)
                  clear hb10
                  go_wp2_with fail
                  go_roundw
                  case rel => exact ⟨k + 1, last, _, by omega, by omega, by go_num, rfl, rfl, by omega, HO10.out, HB10.out⟩
                  case measure => simp [intOf]; omega
              · have hcv : covB [⟨tB, false, last⟩] tB (kI q) = false := by rw [HCO.out, hq9]; simp
                generalize kI q = kq at *
                clear HGO HX
                obtain ⟨hq8, hq7⟩ := leq_not hq9
                clear hq9
                refine (HQ.out _).mono ?_
                rintro e w8 ⟨rfl, hb8⟩
                have HO8 := Lib.hid (HO4.out.below hb8.out)
                have HB8 := Lib.hid (HB4.out.trans (hb8.out.mono HB4.out.size))
                clear hb8
                go_wp2_with fail
                refine (HCV.out _ last _ HO8.out).mono ?_
                rintro e w9 ⟨rfl, hb9⟩
                rw [hcv]
                have HB9 := Lib.hid (HB8.out.trans (hb9.out.mono HB8.out.size))
                have HO9 := Lib.hid (HO8.out.below hb9.out)
                clear hb9
                go_wp2_with fail
                refine (HQ.out _).mono ?_
                rintro e w10 ⟨rfl, hb10⟩
                have HB10 := Lib.hid (HB9.out.trans (hb10.out.mono HB9.out.size))
                have HO10 := Lib.hid (HO9.out.below hb10.out)
                clear hb10
                go_wp2_with fail
                go_roundw
                case rel => exact ⟨k + 1, last, _, by omega, by omega, by go_num, rfl, rfl, by omega, HO10.out, HB10.out⟩
                case measure => simp [intOf]; omega
          · clear hlk
            have HB3 := Lib.hid (HB2.out.trans (hb3.out.mono HB2.out.size))
            have HO3 := Lib.hid (HO2.out.below hb3.out)
            have hw3 : Hid (Below wr.heap.size wr w3) := hw2.out.trans (hb3.out.mono hw2.out.size)
            have c3 := HRW.out w3 hw3.out
            clear hb3 ho3 HO2 HO
            go_wp2_with fail
            refine (HX.out _).mono ?_
            rintro e w4 ⟨rfl, hb4⟩
            have HB4 := Lib.hid (HB3.out.trans (hb4.out.mono HB3.out.size))
            have HO4 := Lib.hid (HO3.out.below hb4.out)
            clear hb4 HO3 c3
            go_wp2_with fail
            by_cases hz0 : last.size = 0
            · have he : last.toList.isEmpty = true := by rw [size_e]; simpa using hz0
              have hcv : covB [⟨tB, false, last⟩] tB (kI q) = false := by rw [HCO.out]; simp [hz0]
              generalize kI q = kq at *
              clear HGO HX
              refine (HQ.out _).mono ?_
              rintro e w8 ⟨rfl, hb8⟩
              have HO8 := Lib.hid (HO4.out.below hb8.out)
              have HB8 := Lib.hid (HB4.out.trans (hb8.out.mono HB4.out.size))
              clear hb8
              go_wp2_with fail
              refine (HCV.out _ last _ HO8.out).mono ?_
              rintro e w9 ⟨rfl, hb9⟩
              rw [hcv]
              have HB9 := Lib.hid (HB8.out.trans (hb9.out.mono HB8.out.size))
              have HO9 := Lib.hid (HO8.out.below hb9.out)
              clear hb9
              go_wp2_with fail
              go_roundw
              case rel => exact ⟨k + 1, last, _, by omega, by omega, by go_num, rfl, rfl, by omega, HO9.out, HB9.out⟩
              case measure => simp [intOf]; omega
            · have he : last.toList.isEmpty = false := by rw [size_e]; simp [hz0]
              cases hq9 : Op.bytesLess last.toList (kI q).toList
              · have hcv : covB [⟨tB, false, last⟩] tB (kI q) = true := by rw [HCO.out, hq9]; simp [hz0]
                generalize kI q = kq at *
                clear HGO HX
                rcases leq_is hq9 with hq8 | ⟨hq8, hq7⟩
                · clear hq9
                  refine (HQ.out _).mono ?_
                  rintro e w8 ⟨rfl, hb8⟩
                  have HO8 := Lib.hid (HO4.out.below hb8.out)
                  have HB8 := Lib.hid (HB4.out.trans (hb8.out.mono HB4.out.size))
                  clear hb8
                  go_wp2_with fail
                  refine (HCV.out _ last _ HO8.out).mono ?_
                  rintro e w9 ⟨rfl, hb9⟩
                  rw [hcv]
                  have HB9 := Lib.hid (HB8.out.trans (hb9.out.mono HB8.out.size))
                  have HO9 := Lib.hid (HO8.out.below hb9.out)
                  clear hb9
                  go_wp2_with fail
                  refine (HQ.out _).mono ?_
                  rintro e w10 ⟨rfl, hb10⟩
                  have HB10 := Lib.hid (HB9.out.trans (hb10.out.mono HB9.out.size))
                  have HO10 := Lib.hid (HO9.out.below hb10.out)
                  clear hb10
                  go_wp2_with fail
                  go_roundw
                  case rel => exact ⟨k + 1, last, _, by omega, by omega, by go_num, rfl, rfl, by omega, HO10.out, HB10.out⟩
                  case measure => simp [intOf]; omega
                · clear hq9
                  refine (HQ.out _).mono ?_
                  rintro e w8 ⟨rfl, hb8⟩
                  have HO8 := Lib.hid (HO4.out.below hb8.out)
                  have HB8 := Lib.hid (HB4.out.trans (hb8.out.mono HB4.out.size))
                  clear hb8
                  go_wp2_with fail
                  refine (HCV.out _ last _ HO8.out).mono ?_
                  rintro e w9 ⟨rfl, hb9⟩
                  rw [hcv]
                  have HB9 := Lib.hid (HB8.out.trans (hb9.out.mono HB8.out.size))
                  have HO9 := Lib.hid (HO8.out.below hb9.out)
                  clear hb9
                  go_wp2_with fail
                  refine (HQ.out _).mono ?_
                  rintro e w10 ⟨rfl, hb10⟩
                  have HB10 := Lib.hid (HB9.out.trans (hb10.out.mono HB9.out.size))
                  have HO10 := Lib.hid (HO9.out.below hb10.out)
                  clear hb10
                  go_wp2_with fail
                  go_roundw
                  case rel => exact ⟨k + 1, last, _, by omega, by omega, by go_num, rfl, rfl, by omega, HO10.out, HB10.out⟩
                  case measure => simp [intOf]; omega
              · have hcv : covB [⟨tB, false, last⟩] tB (kI q) = false := by rw [HCO.out, hq9]; simp
                generalize kI q = kq at *
                clear HGO HX
                obtain ⟨hq8, hq7⟩ := leq_not hq9
                clear hq9
                refine (HQ.out _).mono ?_
                rintro e w8 ⟨rfl, hb8⟩
                have HO8 := Lib.hid (HO4.out.below hb8.out)
                have HB8 := Lib.hid (HB4.out.trans (hb8.out.mono HB4.out.size))
                clear hb8
                go_wp2_with fail
                refine (HCV.out _ last _ HO8.out).mono ?_
                rintro e w9 ⟨rfl, hb9⟩
                rw [hcv]
                have HB9 := Lib.hid (HB8.out.trans (hb9.out.mono HB8.out.size))
                have HO9 := Lib.hid (HO8.out.below hb9.out)
                clear hb9
                go_wp2_with fail
                refine (HQ.out _).mono ?_
                rintro e w10 ⟨rfl, hb10⟩
                have HB10 := Lib.hid (HB9.out.trans (hb10.out.mono HB9.out.size))
                have HO10 := Lib.hid (HO9.out.below hb10.out)
                clear hb10
                go_wp2_with fail
                go_roundw
                case rel => exact ⟨k + 1, last, _, by omega, by omega, by go_num, rfl, rfl, by omega, HO10.out, HB10.out⟩
                case measure => simp [intOf]; omega
        · obtain ⟨hg1, hg2⟩ := go_yes HIK.out hlk
          rw [hg1]
          rw [hg2] at ho3
          obtain ⟨hl1, hl2⟩ := leq_not hlk
          clear hlk hg1 hg2
          have HB3 := Lib.hid (HB2.out.trans (hb3.out.mono HB2.out.size))
          have HO3 := Lib.hid (ownW_down ho3.out HB2.out.size)
          have hw3 : Hid (Below wr.heap.size wr w3) := hw2.out.trans (hb3.out.mono hw2.out.size)
          have c3 := HRW.out w3 hw3.out
          clear hb3 ho3 HO2 HO
          go_wp2_with fail
          refine (HX.out _).mono ?_
          rintro e w4 ⟨rfl, hb4⟩
          have HB4 := Lib.hid (HB3.out.trans (hb4.out.mono HB3.out.size))
          have HO4 := Lib.hid (HO3.out.below hb4.out)
          have hw4 : Hid (Below wr.heap.size wr w4) := hw3.out.trans (hb4.out.mono hw3.out.size)
          have c4 := HRW.out w4 hw4.out
          clear hb4 HO3 c3
          go_wp2_with fail
          refine (HX.out _).mono ?_
          rintro e w5 ⟨rfl, hb5⟩
          have HB5 := Lib.hid (HB4.out.trans (hb5.out.mono HB4.out.size))
          have HO5 := Lib.hid (HO4.out.below hb5.out)
          clear hb5 HO4 c4 hl1 hl2
          go_wp2_with fail
          have he : kx.toList.isEmpty = false := by rw [size_e]; simp [HSX]
          cases hq9 : Op.bytesLess kx.toList (kI q).toList
          · have hcv : covB [⟨tB, false, kx⟩] tB (kI q) = true := by rw [HCO.out, hq9]; simp [HSX]
            generalize kI q = kq at *
            clear HGO HX
            rcases leq_is hq9 with hq8 | ⟨hq8, hq7⟩
            · clear hq9
              refine (HQ.out _).mono ?_
              rintro e w8 ⟨rfl, hb8⟩
              have HO8 := Lib.hid (HO5.out.below hb8.out)
              have HB8 := Lib.hid (HB5.out.trans (hb8.out.mono HB5.out.size))
              clear hb8
              go_wp2_with fail
              refine (HCV.out _ kx _ HO8.out).mono ?_
              rintro e w9 ⟨rfl, hb9⟩
              rw [hcv]
              have HB9 := Lib.hid (HB8.out.trans (hb9.out.mono HB8.out.size))
              have HO9 := Lib.hid (HO8.out.below hb9.out)
              clear hb9
              go_wp2_with fail
              refine (HQ.out _).mono ?_
              rintro e w10 ⟨rfl, hb10⟩
              have HB10 := Lib.hid (HB9.out.trans (hb10.out.mono HB9.out.size))
              have HO10 := Lib.hid (HO9.out.below hb10.out)
              clear hb10
              go_wp2_with fail
              go_roundw
              case rel => exact ⟨k + 1, kx, _, by omega, by omega, by go_num, rfl, rfl, by omega, HO10.out, HB10.out⟩
              case measure => simp [intOf]; omega
            · clear hq9
              refine (HQ.out _).mono ?_
              rintro e w8 ⟨rfl, hb8⟩
              have HO8 := Lib.hid (HO5.out.below hb8.out)
              have HB8 := Lib.hid (HB5.out.trans (hb8.out.mono HB5.out.size))
              clear hb8
              go_wp2_with fail
              refine (HCV.out _ kx _ HO8.out).mono ?_
              rintro e w9 ⟨rfl, hb9⟩
              rw [hcv]
              have HB9 := Lib.hid (HB8.out.trans (hb9.out.mono HB8.out.size))
              have HO9 := Lib.hid (HO8.out.below hb9.out)
              clear hb9
              go_wp2_with fail
              refine (HQ.out _).mono ?_
              rintro e w10 ⟨rfl, hb10⟩
              have HB10 := Lib.hid (HB9.out.trans (hb10.out.mono HB9.out.size))
              have HO10 := Lib.hid (HO9.out.below hb10.out)
              clear hb10
              go_wp2_with fail
              go_roundw
              case rel => exact ⟨k + 1, kx, _, by omega, by omega, by go_num, rfl, rfl, by omega, HO10.out, HB10.out⟩
              case measure => simp [intOf]; omega
          · have hcv : covB [⟨tB, false, kx⟩] tB (kI q) = false := by rw [HCO.out, hq9]; simp
            generalize kI q = kq at *
            clear HGO HX
            obtain ⟨hq8, hq7⟩ := leq_not hq9
            clear hq9
            refine (HQ.out _).mono ?_
            rintro e w8 ⟨rfl, hb8⟩
            have HO8 := Lib.hid (HO5.out.below hb8.out)
            have HB8 := Lib.hid (HB5.out.trans (hb8.out.mono HB5.out.size))
            clear hb8
            go_wp2_with fail
            refine (HCV.out _ kx _ HO8.out).mono ?_
            rintro e w9 ⟨rfl, hb9⟩
            rw [hcv]
            have HB9 := Lib.hid (HB8.out.trans (hb9.out.mono HB8.out.size))
            have HO9 := Lib.hid (HO8.out.below hb9.out)
            clear hb9
            go_wp2_with fail
            refine (HQ.out _).mono ?_
            rintro e w10 ⟨rfl, hb10⟩
            have HB10 := Lib.hid (HB9.out.trans (hb10.out.mono HB9.out.size))
            have HO10 := Lib.hid (HO9.out.below hb10.out)
            clear hb10
            go_wp2_with fail
            go_roundw
            case rel => exact ⟨k + 1, kx, _, by omega, by omega, by go_num, rfl, rfl, by omega, HO10.out, HB10.out⟩
            case measure => simp [intOf]; omega
      · obtain rfl : k = 10 := by omega
        have hkz : (10 : Int) < (n : Int) := by omega
        go_wp2_with fail
        refine (lives11_any _ (HT.out.below HB.out)).mono ?_
        rintro e w2 ⟨rfl, hb2⟩
        have HB2 := Lib.hid (HB.out.trans (hb2.mono HB.out.size))
        clear hb2
        go_wp2_with fail
        go_ret
        exact ⟨rfl, HB2.out⟩
    · obtain rfl : k = n := by omega
      go_wp2_with fail
      refine (lives11_any _ (HT.out.below HB.out)).mono ?_
      rintro e w2 ⟨rfl, hb2⟩
      have HB2 := Lib.hid (HB.out.trans (hb2.mono HB.out.size))
      clear hb2
      go_wp2_with fail
      go_ret
      exact ⟨rfl, HB2.out⟩
end Go.Proofs.YtjmfcbfjeoooeaaDoor.chunkGoes
