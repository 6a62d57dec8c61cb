/-
  DiskKeeps, walked.
-/
import Derived.Test.YtfjjmodeeeolkaaFew
import Derived.Test.YtfjjmodeeeolkaaDkH
namespace Go.Proofs.Ytfjjmodeeeolkaa.diskKeeps
open Go.RowKit Go.Maps Go.WideShapes Go.WideMaps
def kS (M : List Nat) (k : Nat) (a : Int) (q : Bool) : Ds := ⟨1000, [⟨[97], M, k⟩], a, q⟩
theorem kfree (M : List Nat) (k : Nat) (a : Int) (q : Bool) : freeD (kS M k a q) = 1000 - M.length := by
  unfold freeD
  show 1000 - tot [⟨[97], M, k⟩] = _
  rw [tot_cons]
  rfl
theorem kp1 (M x : List Nat) (k : Nat) (a : Int) (h : M.length + x.length ≤ 1000) : appendD (kS M k a false) sA x = if a = 0 then (kS (M ++ x) k 0 true, 12) else (kS (M ++ x) k (dec a) false, 0) := by
  unfold appendD
  have h1 : errs (kS M k a false) sA [] = 0 := by rfl
  have h2 : ¬ freeD (kS M k a false) < x.length := by rw [kfree]; omega
  rw [if_pos h1, if_neg h2]
  unfold deedF
  by_cases ha : a = 0
  · subst ha; rfl
  · have ha' : ¬ (moreD (kS M k a false) sA x).armed = 0 := ha
    rw [if_neg ha', if_neg ha]
    rfl
theorem kp2 (M : List Nat) : syncD (kS M 0 (-1) false) sA = (kS M M.length (-1) false, 0) := by rfl
theorem kp4 (M : List Nat) (k : Nat) (q : Bool) : syncD (kS M k 0 q) sA = (kS M k 0 true, 12) := by cases q <;> rfl
theorem kp6 (M : List Nat) (k : Nat) (n : Int) : upD (kS M k 0 true) [n] = kS (M.take (tornK M.length k n)) (tornK M.length k n) (-1) false := by rfl
theorem kp7 (M : List Nat) (k : Nat) : readD (kS M k (-1) false) sA = (M, 0) := by rfl
theorem torn_ge (L k : Nat) (n : Int) : k ≤ tornK L k n := by unfold tornK; omega
theorem bs_take (M : List Nat) (T : Nat) : (bs M).extract 0 T = bs (M.take T) := by
  apply ByteArray.ext
  simp [bs, ByteArray.data_extract]
theorem bs_cat (l m : List Nat) : bs l ++ bs m = bs (l ++ m) := (bs_append l m).symm
/-- A row of bytes, in a later world. -/
theorem row_at {w wr : World} {A : Option Addr} {L : List Br} (hr : Elems w A 1 (L.map fun x => #[Br.v x])) (hI : Below w.heap.size w wr) {i : Nat} (hi : i < L.length) :
    ∃ b off, A = some ⟨b, off, none⟩ ∧ wr.cell? ⟨b, off + i, none⟩ = some (L[i].v) := by
  obtain ⟨b, off, rfl, hc⟩ := hr (by intro e; rw [List.map_eq_nil_iff] at e; rw [e] at hi; simp at hi)
  have h1 := hc i (by rw [List.length_map]; exact hi) 0 (by omega)
  rw [List.getElem_map] at h1
  have h2 : w.cell? ⟨b, off + i, none⟩ = some (L[i].v) := by
    have e : off + i * 1 + 0 = off + i := by omega
    rw [e] at h1
    exact h1
  exact ⟨b, off, rfl, (hI.cell (p := ⟨b, off + i, none⟩) (World.block_lt_of_cell? w _ h2)).trans h2⟩
set_option maxHeartbeats 8000000 in
set_option maxRecDepth 100000 in
theorem walk (Aa : Option Addr) (na ca : Nat) (La : List Br) (Ab : Option Addr) (nb cb : Nat) (Lb : List Br) (n keep : Int) (w : World)
    (hla : La.length = na) (_ : na ≤ ca) (_ : ca ≤ maxLen) (hra : Elems w Aa 1 (La.map fun x => #[Br.v x]) ∧ ∀ v ∈ La, v.ok w)
    (hlb : Lb.length = nb) (_ : nb ≤ cb) (_ : cb ≤ maxLen) (hrb : Elems w Ab 1 (Lb.map fun x => #[Br.v x]) ∧ ∀ v ∈ Lb, v.ok w)
    (hn : -9223372036854775808 ≤ n ∧ n ≤ 9223372036854775807) (hkp : -9223372036854775808 ≤ keep ∧ keep ≤ 9223372036854775807) :
    Calls Try.prog 4 #[.slice Aa na ca, .slice Ab nb cb, .int .i64 n, .int .i64 keep] w fun e w' => e = .returned (.bool true) ∧ Below w.heap.size w w' := by
  have HRA := Lib.hid hra
  have HLA := Lib.hid hla
  have HRB := Lib.hid hrb
  have HLB := Lib.hid hlb
  clear hra hla hrb hlb
  go_enter Try.func4, Try.ntmps4
  go_wp2_with fail
  refine (newP_any w 1000 (by omega)).mono ?_
  rintro e w1 ⟨rfl, hd, hb⟩
  have D := Lib.hid (⟨_, hd.out, hb.out.size⟩ : DK w.heap.size (w.heap.size + 1) w1 (newD 1000))
  have HB := Lib.hid hb.out
  clear hd hb
  go_wp2_with fail
  refine (create_dk D.out sA (by decide) (by decide)).mono ?_
  rintro e w2 ⟨k, rfl, hk, D2, hb⟩
  have D3 : Hid (DK w.heap.size (w.heap.size + 1) w2 (kS [] 0 (-1) false)) := D2
  have HB2 := Lib.hid (HB.out.trans hb.out)
  clear hk hb D HB D2
  go_wp2_with fail
  go_loopw [10, 11] (fun v u wr => ∃ (i : Nat) (K : List Nat), i ≤ na ∧ i ≤ 6 ∧ u = .int .i64 i ∧ v = .string (bs K) ∧ Hid (K.length ≤ 30 * i ∧ ∀ x ∈ K, x < 256) ∧ Hid (DK w.heap.size (w.heap.size + 1) wr (kS K 0 (-1) false)) ∧ Hid (Below w.heap.size w wr)) (fun _ u _ => na - (intOf u).toNat)
  case atStart => exact ⟨0, [], by omega, by omega, rfl, rfl, ⟨by simp, by intro x hx; cases hx⟩, D3, HB2⟩
  case round =>
    obtain ⟨i, K, hi, hi2, rfl, rfl, HK, HD, HI⟩ := hrel
    by_cases hlt : i < na ∧ i < 6
    · obtain ⟨hlt, hlt2⟩ := hlt
      have hil : i < La.length := by rw [HLA.out]; exact hlt
      have hok := HRA.out.2 _ (List.getElem_mem hil)
      obtain ⟨b, off, rfl, c0⟩ := row_at HRA.out.1 HI.out hil
      generalize La[i] = x at *
      obtain ⟨bA, bl, bc⟩ := x
      replace c0 : wr.cell? ⟨b, off + i, none⟩ = some (.slice bA bl.length bc) := c0
      have hbcap : bl.length ≤ bc := hok.cap
      have hbmax : bc ≤ maxLen := hok.max
      have HBD := Lib.hid (few_rd hok.rd)
      have HBB := Lib.hid (few_byte hok.byte)
      have HBL := Lib.hid (few_len bl)
      have hbz : bA = none → bc = 0 := hok.nil
      have hfn0 := (fewN_le bl.length).2
      clear hok
      generalize few bl = fx at *
      generalize bl.length = bn at *
      have hKs : (bs K).size ≤ 200 := by rw [bs_size]; have := HK.out.1; omega
      have hxs : (bs fx).size ≤ 30 := by rw [bs_size, HBL.out]; exact hfn0
      have hcat := bs_cat K fx
      go_wp2_with fail
      refine (few_any bA bn bc wr hbcap hbmax).mono ?_
      rintro e v1 ⟨rfl, rfl⟩
      generalize hfn : fewN bn = fn at *
      go_wp2_with fail
      refine (append_dk HD.out sA (by decide) bA fx fn bc HBL.out (HBD.out.below HI.out) hbz HBB.out).mono ?_
      rintro e v2 ⟨k, rfl, hk, D4, hb⟩
      rw [kp1 K fx 0 (-1) (by have := HK.out.1; rw [HBL.out]; omega), if_neg (by decide)] at D4
      have HI2 := Lib.hid (HI.out.trans hb.out)
      have D5 : Hid (DK w.heap.size (w.heap.size + 1) v2 (kS (K ++ fx) 0 (-1) false)) := D4
      have c2 : v2.cell? ⟨b, off + i, none⟩ = some (.slice bA bn bc) := by
        obtain ⟨b', off', e1, c3⟩ := row_at HRA.out.1 HI2.out hil
        injection e1 with e1
        injection e1 with e1 e2
        subst e1; subst e2
        have h4 : ∀ (y : Value), v1.cell? ⟨b, off + i, none⟩ = some y → v2.cell? ⟨b, off + i, none⟩ = some y := fun y hy => by
          obtain ⟨b'', off'', e1, c4⟩ := row_at HRA.out.1 HI.out hil
          injection e1 with e1
          injection e1 with e1 e2
          subst e1; subst e2
          rw [hy] at c4
          rw [c3, ← c4]
        exact h4 _ c0
      clear hk hb HD HI D4 c0
      have hcvx : Sem.run Try.prog (convert 28 9 (.slice bA fn bc)) v2 = .ok (.string (bs fx)) v2 := conv_len v2 bA fx fn bc HBL.out (HBD.out.below HI2.out)
      have HFW : Hid (Calls Try.prog 16 #[.slice bA bn bc] v2 fun e w' => e = .returned (.slice bA fn bc) ∧ w' = v2) := by rw [← hfn]; exact few_any bA bn bc v2 hbcap hbmax
      have HK2 : Hid ((K ++ fx).length ≤ 30 * (i + 1) ∧ ∀ x ∈ K ++ fx, x < 256) := ⟨by rw [List.length_append, HBL.out]; have := HK.out.1; omega, fun x hx => (List.mem_append.1 hx).elim (HK.out.2 x) (HBB.out x)⟩
      clear hfn
      go_wp2_with fail
      refine HFW.out.mono ?_
      rintro e v3 ⟨rfl, rfl⟩
      go_wp2_with fail
      go_roundw
      case rel => exact ⟨i + 1, K ++ fx, by omega, by omega, by go_num, rfl, HK2, D5, HI2⟩
      case measure => simp [intOf]; omega
    · by_cases h1 : i < na
      · have h2 : i = 6 := by omega
        subst h2
        go_wp2_with fail
        refine (sync_dk HD.out sA (by decide)).mono ?_
        rintro e w4 ⟨k, rfl, hk, D4, hb⟩
        rw [kp2] at D4
        have HI4 := Lib.hid (HI.out.trans hb.out)
        clear hk hb HD HI
        go_wp2_with fail
        refine (arm_dk D4.out n hn).mono ?_
        rintro e w5 ⟨rfl, D5, hb⟩
        have D6 : Hid (DK w.heap.size (w.heap.size + 1) w5 (kS K K.length n false)) := D5
        have HI5 := Lib.hid (HI4.out.trans hb.out)
        clear hb D4 D5 HI4
        have HK0 : Hid (K.length ≤ 200) := by have := HK.out.1; show K.length ≤ 200; omega
        go_wp2_with fail
        go_loopw [12, 13] (fun v u wr => ∃ (j : Nat) (M : List Nat) (a : Int), j ≤ nb ∧ j ≤ 6 ∧ u = .int .i64 j ∧ v = .string (bs M) ∧ Hid (-9223372036854775808 ≤ a ∧ a ≤ 9223372036854775807) ∧ Hid (K.length ≤ M.length ∧ M.length ≤ 200 + 30 * j ∧ ∀ x ∈ M, x < 256) ∧ Hid (DK w.heap.size (w.heap.size + 1) wr (kS M K.length a false)) ∧ Hid (Below w.heap.size w wr)) (fun _ u _ => nb - (intOf u).toNat)
        case atStart => exact ⟨0, K, n, by omega, by omega, rfl, rfl, hn, ⟨Nat.le_refl _, by have := HK0.out; omega, HK.out.2⟩, D6, HI5⟩
        case round =>
          obtain ⟨i, M, a, hi, hi2, rfl, rfl, HAR, HM, HD, HI⟩ := hrel
          by_cases hlt : i < nb ∧ i < 6
          · obtain ⟨hlt, hlt2⟩ := hlt
            have hil : i < Lb.length := by rw [HLB.out]; exact hlt
            have hok := HRB.out.2 _ (List.getElem_mem hil)
            obtain ⟨b, off, rfl, c0⟩ := row_at HRB.out.1 HI.out hil
            generalize Lb[i] = x at *
            obtain ⟨bA, bl, bc⟩ := x
            replace c0 : wr.cell? ⟨b, off + i, none⟩ = some (.slice bA bl.length bc) := c0
            have hbcap : bl.length ≤ bc := hok.cap
            have hbmax : bc ≤ maxLen := hok.max
            have HBD := Lib.hid (few_rd hok.rd)
            have HBB := Lib.hid (few_byte hok.byte)
            have HBL := Lib.hid (few_len bl)
            have hbz : bA = none → bc = 0 := hok.nil
            have hfn0 := (fewN_le bl.length).2
            clear hok
            generalize few bl = fx at *
            generalize bl.length = bn at *
            have hKs : (bs M).size ≤ 400 := by rw [bs_size]; have := HM.out.2.1; omega
            have hxs : (bs fx).size ≤ 30 := by rw [bs_size, HBL.out]; exact hfn0
            have hcat := bs_cat M fx
            go_wp2_with fail
            refine (few_any bA bn bc wr hbcap hbmax).mono ?_
            rintro e v1 ⟨rfl, rfl⟩
            generalize hfn : fewN bn = fn at *
            go_wp2_with fail
            refine (append_dk HD.out sA (by decide) bA fx fn bc HBL.out (HBD.out.below HI.out) hbz HBB.out).mono ?_
            rintro e v2 ⟨k, rfl, hk, D4, hb⟩
            rw [kp1 M fx K.length a (by have := HM.out.2.1; rw [HBL.out]; omega)] at hk D4
            have HI2 := Lib.hid (HI.out.trans hb.out)
            have c2 : v2.cell? ⟨b, off + i, none⟩ = some (.slice bA bn bc) := by
              obtain ⟨b', off', e1, c3⟩ := row_at HRB.out.1 HI2.out hil
              injection e1 with e1
              injection e1 with e1 e2
              subst e1; subst e2
              have h4 : ∀ (y : Value), v1.cell? ⟨b, off + i, none⟩ = some y → v2.cell? ⟨b, off + i, none⟩ = some y := fun y hy => by
                obtain ⟨b'', off'', e1, c4⟩ := row_at HRB.out.1 HI.out hil
                injection e1 with e1
                injection e1 with e1 e2
                subst e1; subst e2
                rw [hy] at c4
                rw [c3, ← c4]
              exact h4 _ c0
            clear hb HD HI c0
            have hcvx : Sem.run Try.prog (convert 28 9 (.slice bA fn bc)) v2 = .ok (.string (bs fx)) v2 := conv_len v2 bA fx fn bc HBL.out (HBD.out.below HI2.out)
            have HFW : Hid (Calls Try.prog 16 #[.slice bA bn bc] v2 fun e w' => e = .returned (.slice bA fn bc) ∧ w' = v2) := by rw [← hfn]; exact few_any bA bn bc v2 hbcap hbmax
            have HM2 : Hid (K.length ≤ (M ++ fx).length ∧ (M ++ fx).length ≤ 200 + 30 * (i + 1) ∧ ∀ x ∈ M ++ fx, x < 256) := ⟨by rw [List.length_append]; have := HM.out.1; omega, by rw [List.length_append, HBL.out]; have := HM.out.2.1; omega, fun x hx => (List.mem_append.1 hx).elim (HM.out.2.2 x) (HBB.out x)⟩
            clear hfn
            by_cases ha : a = 0
            · rw [if_pos ha] at hk D4
              obtain rfl : k = 12 := hk.out
              go_wp2_with fail
              refine HFW.out.mono ?_
              rintro e v3 ⟨rfl, rfl⟩
              go_wp2_with fail
              have HD := D4
              have HI := HI2
              have HM := HM2
              clear D4 HI2 HM2 HFW hcvx hcat hKs hxs HBB HBL HBD
              generalize M ++ fx = M2 at *
              go_wp2_with fail
              refine (arm_dk HD.out 0 (by decide)).mono ?_
              rintro e v4 ⟨rfl, D5, hb⟩
              have D6 : Hid (DK w.heap.size (w.heap.size + 1) v4 (kS M2 K.length 0 true)) := D5
              have HI5 := Lib.hid (HI.out.trans hb.out)
              clear hb HD HI D5
              go_wp2_with fail
              refine (sync_dk D6.out sA (by decide)).mono ?_
              rintro e v5 ⟨k, rfl, hk, D7, hb⟩
              rw [kp4] at D7
              have HI6 := Lib.hid (HI5.out.trans hb.out)
              have HDW := Lib.hid (down_dk D7.out)
              rw [show (kS M2 K.length 0 true).down = true from rfl] at HDW
              clear hk hb D6 HI5
              go_wp2_with fail
              refine HDW.out.mono ?_
              rintro e v6 ⟨rfl, rfl⟩
              clear HDW
              go_wp2_with fail
              refine (up1_dk D7.out (by show 1 ≤ 100000; omega) keep hkp).mono ?_
              rintro e v8 ⟨rfl, D8, hb⟩
              rw [kp6] at D8
              have HI8 := Lib.hid (HI6.out.trans hb.out)
              clear hb D7 HI6
              have hT1 := torn_ge M2.length K.length keep
              have hT2 := tornK_le keep HM.out.1
              have hMl : M2.length ≤ 400 := by have := HM.out.2.1; omega
              generalize tornK M2.length K.length keep = T at *
              go_wp2_with fail
              refine (read_dk D8.out sA (by decide)).mono ?_
              rintro e v9 ⟨A, n9, c9, k, rfl, hk, hn9, _, hr, hb⟩
              rw [kp7] at hk hn9 hr
              obtain rfl : k = 0 := hk.out
              have HI9 := Lib.hid (HI8.out.trans (hb.out.mono HI8.out.size))
              have hcv9 : Sem.run Try.prog (convert 28 9 (.slice A n9 c9)) v9 = .ok (.string (bs (M2.take T))) v9 := conv_len v9 A (M2.take T) n9 c9 hn9.out hr.out
              have hs1 : (bs (M2.take T)).size = T := by rw [bs_size, List.length_take]; omega
              have hs2 : (bs M2).size = M2.length := bs_size _
              have hs3 : (bs K).size = K.length := bs_size _
              have hsub : (bs M2).extract 0 T = bs (M2.take T) := bs_take M2 T
              clear hk hn9 hr hb D8 HI8
              generalize M2.length = ml at *
              generalize K.length = kl at *
              go_wp2_with fail
              refine (lives_any v9).mono ?_
              rintro e v10 ⟨rfl, hb⟩
              have HI10 := Lib.hid (HI9.out.trans (hb.out.mono HI9.out.size))
              clear hb HI9
              go_wp2_with fail
              go_ret
              exact ⟨rfl, HI10.out⟩
            · rw [if_neg ha] at hk D4
              obtain rfl : k = 0 := hk.out
              have HA2 : Hid (-9223372036854775808 ≤ dec a ∧ dec a ≤ 9223372036854775807) := by
                have := HAR.out
                show _ ∧ _
                unfold dec
                split <;> omega
              go_wp2_with fail
              refine HFW.out.mono ?_
              rintro e v3 ⟨rfl, rfl⟩
              go_wp2_with fail
              go_roundw
              case rel => exact ⟨i + 1, M ++ fx, dec a, by omega, by omega, by go_num, rfl, HA2, HM2, D4, HI2⟩
              case measure => simp [intOf]; omega
          · by_cases h1 : i < nb
            · have h2 : i = 6 := by omega
              subst h2
              go_wp2_with fail
              refine (arm_dk HD.out 0 (by decide)).mono ?_
              rintro e v4 ⟨rfl, D5, hb⟩
              have D6 : Hid (DK w.heap.size (w.heap.size + 1) v4 (kS M K.length 0 false)) := D5
              have HI5 := Lib.hid (HI.out.trans hb.out)
              clear hb HD HI D5
              go_wp2_with fail
              refine (sync_dk D6.out sA (by decide)).mono ?_
              rintro e v5 ⟨k, rfl, hk, D7, hb⟩
              rw [kp4] at D7
              have HI6 := Lib.hid (HI5.out.trans hb.out)
              have HDW := Lib.hid (down_dk D7.out)
              rw [show (kS M K.length 0 true).down = true from rfl] at HDW
              clear hk hb D6 HI5
              go_wp2_with fail
              refine HDW.out.mono ?_
              rintro e v6 ⟨rfl, rfl⟩
              clear HDW
              go_wp2_with fail
              refine (up1_dk D7.out (by show 1 ≤ 100000; omega) keep hkp).mono ?_
              rintro e v8 ⟨rfl, D8, hb⟩
              rw [kp6] at D8
              have HI8 := Lib.hid (HI6.out.trans hb.out)
              clear hb D7 HI6
              have hT1 := torn_ge M.length K.length keep
              have hT2 := tornK_le keep HM.out.1
              have hMl : M.length ≤ 400 := by have := HM.out.2.1; omega
              generalize tornK M.length K.length keep = T at *
              go_wp2_with fail
              refine (read_dk D8.out sA (by decide)).mono ?_
              rintro e v9 ⟨A, n9, c9, k, rfl, hk, hn9, _, hr, hb⟩
              rw [kp7] at hk hn9 hr
              obtain rfl : k = 0 := hk.out
              have HI9 := Lib.hid (HI8.out.trans (hb.out.mono HI8.out.size))
              have hcv9 : Sem.run Try.prog (convert 28 9 (.slice A n9 c9)) v9 = .ok (.string (bs (M.take T))) v9 := conv_len v9 A (M.take T) n9 c9 hn9.out hr.out
              have hs1 : (bs (M.take T)).size = T := by rw [bs_size, List.length_take]; omega
              have hs2 : (bs M).size = M.length := bs_size _
              have hs3 : (bs K).size = K.length := bs_size _
              have hsub : (bs M).extract 0 T = bs (M.take T) := bs_take M T
              clear hk hn9 hr hb D8 HI8
              generalize M.length = ml at *
              generalize K.length = kl at *
              go_wp2_with fail
              refine (lives_any v9).mono ?_
              rintro e v10 ⟨rfl, hb⟩
              have HI10 := Lib.hid (HI9.out.trans (hb.out.mono HI9.out.size))
              clear hb HI9
              go_wp2_with fail
              go_ret
              exact ⟨rfl, HI10.out⟩
            · have h2 : i = nb := by omega
              subst h2
              go_wp2_with fail
              refine (arm_dk HD.out 0 (by decide)).mono ?_
              rintro e v4 ⟨rfl, D5, hb⟩
              have D6 : Hid (DK w.heap.size (w.heap.size + 1) v4 (kS M K.length 0 false)) := D5
              have HI5 := Lib.hid (HI.out.trans hb.out)
              clear hb HD HI D5
              go_wp2_with fail
              refine (sync_dk D6.out sA (by decide)).mono ?_
              rintro e v5 ⟨k, rfl, hk, D7, hb⟩
              rw [kp4] at D7
              have HI6 := Lib.hid (HI5.out.trans hb.out)
              have HDW := Lib.hid (down_dk D7.out)
              rw [show (kS M K.length 0 true).down = true from rfl] at HDW
              clear hk hb D6 HI5
              go_wp2_with fail
              refine HDW.out.mono ?_
              rintro e v6 ⟨rfl, rfl⟩
              clear HDW
              go_wp2_with fail
              refine (up1_dk D7.out (by show 1 ≤ 100000; omega) keep hkp).mono ?_
              rintro e v8 ⟨rfl, D8, hb⟩
              rw [kp6] at D8
              have HI8 := Lib.hid (HI6.out.trans hb.out)
              clear hb D7 HI6
              have hT1 := torn_ge M.length K.length keep
              have hT2 := tornK_le keep HM.out.1
              have hMl : M.length ≤ 400 := by have := HM.out.2.1; omega
              generalize tornK M.length K.length keep = T at *
              go_wp2_with fail
              refine (read_dk D8.out sA (by decide)).mono ?_
              rintro e v9 ⟨A, n9, c9, k, rfl, hk, hn9, _, hr, hb⟩
              rw [kp7] at hk hn9 hr
              obtain rfl : k = 0 := hk.out
              have HI9 := Lib.hid (HI8.out.trans (hb.out.mono HI8.out.size))
              have hcv9 : Sem.run Try.prog (convert 28 9 (.slice A n9 c9)) v9 = .ok (.string (bs (M.take T))) v9 := conv_len v9 A (M.take T) n9 c9 hn9.out hr.out
              have hs1 : (bs (M.take T)).size = T := by rw [bs_size, List.length_take]; omega
              have hs2 : (bs M).size = M.length := bs_size _
              have hs3 : (bs K).size = K.length := bs_size _
              have hsub : (bs M).extract 0 T = bs (M.take T) := bs_take M T
              clear hk hn9 hr hb D8 HI8
              generalize M.length = ml at *
              generalize K.length = kl at *
              go_wp2_with fail
              refine (lives_any v9).mono ?_
              rintro e v10 ⟨rfl, hb⟩
              have HI10 := Lib.hid (HI9.out.trans (hb.out.mono HI9.out.size))
              clear hb HI9
              go_wp2_with fail
              go_ret
              exact ⟨rfl, HI10.out⟩
      · have h2 : i = na := by omega
        subst h2
        go_wp2_with fail
        refine (sync_dk HD.out sA (by decide)).mono ?_
        rintro e w4 ⟨k, rfl, hk, D4, hb⟩
        rw [kp2] at D4
        have HI4 := Lib.hid (HI.out.trans hb.out)
        clear hk hb HD HI
        go_wp2_with fail
        refine (arm_dk D4.out n hn).mono ?_
        rintro e w5 ⟨rfl, D5, hb⟩
        have D6 : Hid (DK w.heap.size (w.heap.size + 1) w5 (kS K K.length n false)) := D5
        have HI5 := Lib.hid (HI4.out.trans hb.out)
        clear hb D4 D5 HI4
        have HK0 : Hid (K.length ≤ 200) := by have := HK.out.1; show K.length ≤ 200; omega
        go_wp2_with fail
        go_loopw [12, 13] (fun v u wr => ∃ (j : Nat) (M : List Nat) (a : Int), j ≤ nb ∧ j ≤ 6 ∧ u = .int .i64 j ∧ v = .string (bs M) ∧ Hid (-9223372036854775808 ≤ a ∧ a ≤ 9223372036854775807) ∧ Hid (K.length ≤ M.length ∧ M.length ≤ 200 + 30 * j ∧ ∀ x ∈ M, x < 256) ∧ Hid (DK w.heap.size (w.heap.size + 1) wr (kS M K.length a false)) ∧ Hid (Below w.heap.size w wr)) (fun _ u _ => nb - (intOf u).toNat)
        case atStart => exact ⟨0, K, n, by omega, by omega, rfl, rfl, hn, ⟨Nat.le_refl _, by have := HK0.out; omega, HK.out.2⟩, D6, HI5⟩
        case round =>
          obtain ⟨i, M, a, hi, hi2, rfl, rfl, HAR, HM, HD, HI⟩ := hrel
          by_cases hlt : i < nb ∧ i < 6
          · obtain ⟨hlt, hlt2⟩ := hlt
            have hil : i < Lb.length := by rw [HLB.out]; exact hlt
            have hok := HRB.out.2 _ (List.getElem_mem hil)
            obtain ⟨b, off, rfl, c0⟩ := row_at HRB.out.1 HI.out hil
            generalize Lb[i] = x at *
            obtain ⟨bA, bl, bc⟩ := x
            replace c0 : wr.cell? ⟨b, off + i, none⟩ = some (.slice bA bl.length bc) := c0
            have hbcap : bl.length ≤ bc := hok.cap
            have hbmax : bc ≤ maxLen := hok.max
            have HBD := Lib.hid (few_rd hok.rd)
            have HBB := Lib.hid (few_byte hok.byte)
            have HBL := Lib.hid (few_len bl)
            have hbz : bA = none → bc = 0 := hok.nil
            have hfn0 := (fewN_le bl.length).2
            clear hok
            generalize few bl = fx at *
            generalize bl.length = bn at *
            have hKs : (bs M).size ≤ 400 := by rw [bs_size]; have := HM.out.2.1; omega
            have hxs : (bs fx).size ≤ 30 := by rw [bs_size, HBL.out]; exact hfn0
            have hcat := bs_cat M fx
            go_wp2_with fail
            refine (few_any bA bn bc wr hbcap hbmax).mono ?_
            rintro e v1 ⟨rfl, rfl⟩
            generalize hfn : fewN bn = fn at *
            go_wp2_with fail
            refine (append_dk HD.out sA (by decide) bA fx fn bc HBL.out (HBD.out.below HI.out) hbz HBB.out).mono ?_
            rintro e v2 ⟨k, rfl, hk, D4, hb⟩
            rw [kp1 M fx K.length a (by have := HM.out.2.1; rw [HBL.out]; omega)] at hk D4
            have HI2 := Lib.hid (HI.out.trans hb.out)
            have c2 : v2.cell? ⟨b, off + i, none⟩ = some (.slice bA bn bc) := by
              obtain ⟨b', off', e1, c3⟩ := row_at HRB.out.1 HI2.out hil
              injection e1 with e1
              injection e1 with e1 e2
              subst e1; subst e2
              have h4 : ∀ (y : Value), v1.cell? ⟨b, off + i, none⟩ = some y → v2.cell? ⟨b, off + i, none⟩ = some y := fun y hy => by
                obtain ⟨b'', off'', e1, c4⟩ := row_at HRB.out.1 HI.out hil
                injection e1 with e1
                injection e1 with e1 e2
                subst e1; subst e2
                rw [hy] at c4
                rw [c3, ← c4]
              exact h4 _ c0
            clear hb HD HI c0
            have hcvx : Sem.run Try.prog (convert 28 9 (.slice bA fn bc)) v2 = .ok (.string (bs fx)) v2 := conv_len v2 bA fx fn bc HBL.out (HBD.out.below HI2.out)
            have HFW : Hid (Calls Try.prog 16 #[.slice bA bn bc] v2 fun e w' => e = .returned (.slice bA fn bc) ∧ w' = v2) := by rw [← hfn]; exact few_any bA bn bc v2 hbcap hbmax
            have HM2 : Hid (K.length ≤ (M ++ fx).length ∧ (M ++ fx).length ≤ 200 + 30 * (i + 1) ∧ ∀ x ∈ M ++ fx, x < 256) := ⟨by rw [List.length_append]; have := HM.out.1; omega, by rw [List.length_append, HBL.out]; have := HM.out.2.1; omega, fun x hx => (List.mem_append.1 hx).elim (HM.out.2.2 x) (HBB.out x)⟩
            clear hfn
            by_cases ha : a = 0
            · rw [if_pos ha] at hk D4
              obtain rfl : k = 12 := hk.out
              go_wp2_with fail
              refine HFW.out.mono ?_
              rintro e v3 ⟨rfl, rfl⟩
              go_wp2_with fail
              have HD := D4
              have HI := HI2
              have HM := HM2
              clear D4 HI2 HM2 HFW hcvx hcat hKs hxs HBB HBL HBD
              generalize M ++ fx = M2 at *
              go_wp2_with fail
              refine (arm_dk HD.out 0 (by decide)).mono ?_
              rintro e v4 ⟨rfl, D5, hb⟩
              have D6 : Hid (DK w.heap.size (w.heap.size + 1) v4 (kS M2 K.length 0 true)) := D5
              have HI5 := Lib.hid (HI.out.trans hb.out)
              clear hb HD HI D5
              go_wp2_with fail
              refine (sync_dk D6.out sA (by decide)).mono ?_
              rintro e v5 ⟨k, rfl, hk, D7, hb⟩
              rw [kp4] at D7
              have HI6 := Lib.hid (HI5.out.trans hb.out)
              have HDW := Lib.hid (down_dk D7.out)
              rw [show (kS M2 K.length 0 true).down = true from rfl] at HDW
              clear hk hb D6 HI5
              go_wp2_with fail
              refine HDW.out.mono ?_
              rintro e v6 ⟨rfl, rfl⟩
              clear HDW
              go_wp2_with fail
              refine (up1_dk D7.out (by show 1 ≤ 100000; omega) keep hkp).mono ?_
              rintro e v8 ⟨rfl, D8, hb⟩
              rw [kp6] at D8
              have HI8 := Lib.hid (HI6.out.trans hb.out)
              clear hb D7 HI6
              have hT1 := torn_ge M2.length K.length keep
              have hT2 := tornK_le keep HM.out.1
              have hMl : M2.length ≤ 400 := by have := HM.out.2.1; omega
              generalize tornK M2.length K.length keep = T at *
              go_wp2_with fail
              refine (read_dk D8.out sA (by decide)).mono ?_
              rintro e v9 ⟨A, n9, c9, k, rfl, hk, hn9, _, hr, hb⟩
              rw [kp7] at hk hn9 hr
              obtain rfl : k = 0 := hk.out
              have HI9 := Lib.hid (HI8.out.trans (hb.out.mono HI8.out.size))
              have hcv9 : Sem.run Try.prog (convert 28 9 (.slice A n9 c9)) v9 = .ok (.string (bs (M2.take T))) v9 := conv_len v9 A (M2.take T) n9 c9 hn9.out hr.out
              have hs1 : (bs (M2.take T)).size = T := by rw [bs_size, List.length_take]; omega
              have hs2 : (bs M2).size = M2.length := bs_size _
              have hs3 : (bs K).size = K.length := bs_size _
              have hsub : (bs M2).extract 0 T = bs (M2.take T) := bs_take M2 T
              clear hk hn9 hr hb D8 HI8
              generalize M2.length = ml at *
              generalize K.length = kl at *
              go_wp2_with fail
              refine (lives_any v9).mono ?_
              rintro e v10 ⟨rfl, hb⟩
              have HI10 := Lib.hid (HI9.out.trans (hb.out.mono HI9.out.size))
              clear hb HI9
              go_wp2_with fail
              go_ret
              exact ⟨rfl, HI10.out⟩
            · rw [if_neg ha] at hk D4
              obtain rfl : k = 0 := hk.out
              have HA2 : Hid (-9223372036854775808 ≤ dec a ∧ dec a ≤ 9223372036854775807) := by
                have := HAR.out
                show _ ∧ _
                unfold dec
                split <;> omega
              go_wp2_with fail
              refine HFW.out.mono ?_
              rintro e v3 ⟨rfl, rfl⟩
              go_wp2_with fail
              go_roundw
              case rel => exact ⟨i + 1, M ++ fx, dec a, by omega, by omega, by go_num, rfl, HA2, HM2, D4, HI2⟩
              case measure => simp [intOf]; omega
          · by_cases h1 : i < nb
            · have h2 : i = 6 := by omega
              subst h2
              go_wp2_with fail
              refine (arm_dk HD.out 0 (by decide)).mono ?_
              rintro e v4 ⟨rfl, D5, hb⟩
              have D6 : Hid (DK w.heap.size (w.heap.size + 1) v4 (kS M K.length 0 false)) := D5
              have HI5 := Lib.hid (HI.out.trans hb.out)
              clear hb HD HI D5
              go_wp2_with fail
              refine (sync_dk D6.out sA (by decide)).mono ?_
              rintro e v5 ⟨k, rfl, hk, D7, hb⟩
              rw [kp4] at D7
              have HI6 := Lib.hid (HI5.out.trans hb.out)
              have HDW := Lib.hid (down_dk D7.out)
              rw [show (kS M K.length 0 true).down = true from rfl] at HDW
              clear hk hb D6 HI5
              go_wp2_with fail
              refine HDW.out.mono ?_
              rintro e v6 ⟨rfl, rfl⟩
              clear HDW
              go_wp2_with fail
              refine (up1_dk D7.out (by show 1 ≤ 100000; omega) keep hkp).mono ?_
              rintro e v8 ⟨rfl, D8, hb⟩
              rw [kp6] at D8
              have HI8 := Lib.hid (HI6.out.trans hb.out)
              clear hb D7 HI6
              have hT1 := torn_ge M.length K.length keep
              have hT2 := tornK_le keep HM.out.1
              have hMl : M.length ≤ 400 := by have := HM.out.2.1; omega
              generalize tornK M.length K.length keep = T at *
              go_wp2_with fail
              refine (read_dk D8.out sA (by decide)).mono ?_
              rintro e v9 ⟨A, n9, c9, k, rfl, hk, hn9, _, hr, hb⟩
              rw [kp7] at hk hn9 hr
              obtain rfl : k = 0 := hk.out
              have HI9 := Lib.hid (HI8.out.trans (hb.out.mono HI8.out.size))
              have hcv9 : Sem.run Try.prog (convert 28 9 (.slice A n9 c9)) v9 = .ok (.string (bs (M.take T))) v9 := conv_len v9 A (M.take T) n9 c9 hn9.out hr.out
              have hs1 : (bs (M.take T)).size = T := by rw [bs_size, List.length_take]; omega
              have hs2 : (bs M).size = M.length := bs_size _
              have hs3 : (bs K).size = K.length := bs_size _
              have hsub : (bs M).extract 0 T = bs (M.take T) := bs_take M T
              clear hk hn9 hr hb D8 HI8
              generalize M.length = ml at *
              generalize K.length = kl at *
              go_wp2_with fail
              refine (lives_any v9).mono ?_
              rintro e v10 ⟨rfl, hb⟩
              have HI10 := Lib.hid (HI9.out.trans (hb.out.mono HI9.out.size))
              clear hb HI9
              go_wp2_with fail
              go_ret
              exact ⟨rfl, HI10.out⟩
            · have h2 : i = nb := by omega
              subst h2
              go_wp2_with fail
              refine (arm_dk HD.out 0 (by decide)).mono ?_
              rintro e v4 ⟨rfl, D5, hb⟩
              have D6 : Hid (DK w.heap.size (w.heap.size + 1) v4 (kS M K.length 0 false)) := D5
              have HI5 := Lib.hid (HI.out.trans hb.out)
              clear hb HD HI D5
              go_wp2_with fail
              refine (sync_dk D6.out sA (by decide)).mono ?_
              rintro e v5 ⟨k, rfl, hk, D7, hb⟩
              rw [kp4] at D7
              have HI6 := Lib.hid (HI5.out.trans hb.out)
              have HDW := Lib.hid (down_dk D7.out)
              rw [show (kS M K.length 0 true).down = true from rfl] at HDW
              clear hk hb D6 HI5
              go_wp2_with fail
              refine HDW.out.mono ?_
              rintro e v6 ⟨rfl, rfl⟩
              clear HDW
              go_wp2_with fail
              refine (up1_dk D7.out (by show 1 ≤ 100000; omega) keep hkp).mono ?_
              rintro e v8 ⟨rfl, D8, hb⟩
              rw [kp6] at D8
              have HI8 := Lib.hid (HI6.out.trans hb.out)
              clear hb D7 HI6
              have hT1 := torn_ge M.length K.length keep
              have hT2 := tornK_le keep HM.out.1
              have hMl : M.length ≤ 400 := by have := HM.out.2.1; omega
              generalize tornK M.length K.length keep = T at *
              go_wp2_with fail
              refine (read_dk D8.out sA (by decide)).mono ?_
              rintro e v9 ⟨A, n9, c9, k, rfl, hk, hn9, _, hr, hb⟩
              rw [kp7] at hk hn9 hr
              obtain rfl : k = 0 := hk.out
              have HI9 := Lib.hid (HI8.out.trans (hb.out.mono HI8.out.size))
              have hcv9 : Sem.run Try.prog (convert 28 9 (.slice A n9 c9)) v9 = .ok (.string (bs (M.take T))) v9 := conv_len v9 A (M.take T) n9 c9 hn9.out hr.out
              have hs1 : (bs (M.take T)).size = T := by rw [bs_size, List.length_take]; omega
              have hs2 : (bs M).size = M.length := bs_size _
              have hs3 : (bs K).size = K.length := bs_size _
              have hsub : (bs M).extract 0 T = bs (M.take T) := bs_take M T
              clear hk hn9 hr hb D8 HI8
              generalize M.length = ml at *
              generalize K.length = kl at *
              go_wp2_with fail
              refine (lives_any v9).mono ?_
              rintro e v10 ⟨rfl, hb⟩
              have HI10 := Lib.hid (HI9.out.trans (hb.out.mono HI9.out.size))
              clear hb HI9
              go_wp2_with fail
              go_ret
              exact ⟨rfl, HI10.out⟩
end Go.Proofs.Ytfjjmodeeeolkaa.diskKeeps
