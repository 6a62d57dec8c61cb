/-
  DiskDown, walked.
-/
import Derived.Test.YtfjjmodeeeolkaaFew
import Derived.Test.YtfjjmodeeeolkaaDkH
import Derived.Deep.RegionHeld3
namespace Go.Proofs.Ytfjjmodeeeolkaa.diskDown
open Go.RowKit Go.Maps Go.WideShapes Go.WideMaps
/-- The disk whose power is gone. -/
def SD : Ds := ⟨300, [⟨[97], [97, 98, 99], 0⟩], 0, true⟩
theorem dw1 : createD (newD 300) sA = (⟨300, [⟨[97], [], 0⟩], -1, false⟩, 0) := by rfl
theorem dw2 : appendD ⟨300, [⟨[97], [], 0⟩], -1, false⟩ sA [97, 98, 99] = (⟨300, [⟨[97], [97, 98, 99], 0⟩], -1, false⟩, 0) := by rfl
theorem dw3 : syncD ⟨300, [⟨[97], [97, 98, 99], 0⟩], 0, false⟩ sA = (SD, 12) := by rfl
theorem dw4 : upD SD [1] = ⟨300, [⟨[97], [97], 1⟩], -1, false⟩ := by rfl
theorem dw5 : readD ⟨300, [⟨[97], [97], 1⟩], -1, false⟩ sA = ([97], 0) := by rfl
theorem dw6 : freeD SD = 297 := by rfl
theorem off (s : ByteArray) (L : List ByteArray) : errs SD s L = 12 := by unfold errs; rfl
theorem offC (s : ByteArray) : createD SD s = (SD, 12) := by unfold createD; rw [off]; rfl
theorem offA (s : ByteArray) (b : List Nat) : appendD SD s b = (SD, 12) := by unfold appendD; rw [off]; rfl
theorem offS (s : ByteArray) : syncD SD s = (SD, 12) := by unfold syncD; rw [off]; rfl
theorem offR (s t : ByteArray) : renameD SD s t = (SD, 12) := by unfold renameD; rw [off]; rfl
theorem offX (s : ByteArray) : removeD SD s = (SD, 12) := by unfold removeD; rw [off]; rfl
/-- An append, and a block that is none of the disk's. -/
theorem append_far {B d y : Nat} {w W : World} {S : Ds} (h : DK B d w S) (hb : Below w.heap.size w W) (hy : w.heap.size ≤ y) (hyl : y < W.heap.size) (s : ByteArray) (hs : s.size ≤ 140737488355328) (A : Option Addr) (b : List Nat) (n c : Nat) (hn : b.length = n) (hm : Rd W A b) (hA : A = none → c = 0) (hbb : ∀ x ∈ b, x < 256) :
    Calls Try.prog 15 #[.pointer (some ⟨d, 0, none⟩), .string s, .slice A n c] W fun e w' => ∃ k : Nat, e = .returned (.int .i64 k) ∧ Hid (k = (appendD S s b).2) ∧ Hid (DK B d w' (appendD S s b).1) ∧ Hid (Below B W w') ∧ Hid (w'.heap[y]? = W.heap[y]?) := by
  obtain ⟨X, h, hB⟩ := h
  have h2 := h.below hb
  have hB2 := Nat.le_trans hB hb.size
  refine (append_any B d W S X h2 hB2 s hs A b n c hn hm hA hbb).mono fun e w' ⟨k, he, hk, ho⟩ => ?_
  obtain ⟨X', h3, h4, h5⟩ := ho.out
  exact ⟨k, he, hk, (Out.dk h2 hB2 ho.out).1, (Out.dk h2 hB2 ho.out).2, h4.block y hyl fun hx => by have := h.lt y hx; omega⟩
set_option maxHeartbeats 8000000 in
set_option maxRecDepth 100000 in
theorem walk (Aa : Option Addr) (na ca : Nat) (L : List Ak) (w : World) (hl : L.length = na) (hca : na ≤ ca) (_ : ca ≤ maxLen) (hr : Elems w Aa 6 (L.map Ak.cells) ∧ ∀ v ∈ L, v.ok w) :
    Calls Try.prog 6 #[.slice Aa na ca] w fun e w' => e = .returned (.bool true) ∧ Below w.heap.size w w' := by
  have HR := Lib.hid hr
  have HL := Lib.hid hl
  have hcv : ∀ (W : World) (C : Array Value) (n c : Nat), (convert 28 28 (.slice (some ⟨W.heap.size, 0, none⟩) n c)).run Try.prog (W.alloc (.cells C 5)) = .ok (.slice (some ⟨W.heap.size, 0, none⟩) n c) (W.alloc (.cells C 5 (C.size, C.size + 1))) := fun W C n c => Lib.run_convert_bytes_const W 28 5 C n c Try.underlying28 Try.underlying5

  clear hr hl
  go_enter Try.func6, Try.ntmps6
  go_wp2_with fail
  refine (newP_any w 300 (by omega)).mono ?_
  rintro e w1 ⟨rfl, hd, hb⟩
  have D := Lib.hid (⟨_, hd.out, hb.out.size⟩ : DK w.heap.size (w.heap.size + 1) w1 (newD 300))
  have HB := Lib.hid hb.out
  clear hd hb
  go_wp2_with fail
  refine (create_dk D.out sA (by decide) (by decide)).mono ?_
  rintro e w2 ⟨k, rfl, hk, D2, hb⟩
  rw [dw1] at D2
  have HB2 := Lib.hid (HB.out.trans hb.out)
  clear hk hb D HB
  go_wp2_with fail
  refine (append_dk (D2.out.alloc (.cells #[.int .u8 97, .int .u8 98, .int .u8 99] 5 (3, 4))) sA (by decide) (some ⟨w2.heap.size, 0, none⟩) [97, 98, 99] 3 3 rfl (bytes_new w2 [97, 98, 99] (3, 4)) (fun e => by cases e) (by decide)).mono ?_
  rintro e w3 ⟨k, rfl, hk, D3, hb⟩
  rw [dw2] at D3
  have HB3 := Lib.hid ((HB2.out.alloc HB2.out.size (.cells #[.int .u8 97, .int .u8 98, .int .u8 99] 5 (3, 4))).trans hb.out)
  clear hk hb D2 HB2 hcv
  go_wp2_with fail
  refine (arm_dk D3.out 0 (by decide)).mono ?_
  rintro e w4 ⟨rfl, D4, hb⟩
  have HB4 := Lib.hid (HB3.out.trans hb.out)
  replace D4 : Hid (DK w.heap.size (w.heap.size + 1) w4 ⟨300, [⟨[97], [97, 98, 99], 0⟩], 0, false⟩) := D4
  clear hb D3 HB3
  go_wp2_with fail
  refine (sync_dk D4.out sA (by decide)).mono ?_
  rintro e w5 ⟨k, rfl, hk, D5, hb⟩
  rw [dw3] at D5
  have HB5 := Lib.hid (HB4.out.trans hb.out)
  clear hk hb D4 HB4
  go_wp2_with fail
  go_loopw [4] (fun v wr => ∃ i : Nat, i ≤ na ∧ i ≤ 20 ∧ v = .int .i64 i ∧ Hid (DK w.heap.size (w.heap.size + 1) wr SD) ∧ Hid (Below w.heap.size w wr)) (fun v _ => na - (intOf v).toNat)
  case atStart => exact ⟨0, by omega, by omega, rfl, D5, HB5⟩
  case round =>
    obtain ⟨i, hi, hi2, rfl, HD, HI⟩ := hrel
    by_cases hlt : i < na ∧ i < 20
    · obtain ⟨hlt, hlt2⟩ := hlt
      have hil : i < L.length := by rw [HL.out]; exact hlt
      obtain ⟨b, off, rfl, hc⟩ := HR.out.1 (by intro e; rw [List.map_eq_nil_iff] at e; rw [e] at hil; simp at hil)
      have hok := HR.out.2 _ (List.getElem_mem hil)
      have hci : ∀ j, j < 6 → wr.cell? ⟨b, off + i * 6 + j, none⟩ = (L[i].cells)[j]? := by
        intro j hj
        have h1 := hc i (by rw [List.length_map]; exact hil) j hj
        rw [List.getElem_map] at h1
        have h2 : ∃ u, w.cell? ⟨b, off + i * 6 + j, none⟩ = some u := by
          rw [h1]
          have : j < (L[i].cells).size := by show j < 6; exact hj
          exact ⟨_, Array.getElem?_eq_getElem this⟩
        obtain ⟨u, hu⟩ := h2
        exact (HI.out.cell (p := ⟨b, off + i * 6 + j, none⟩) (World.block_lt_of_cell? w _ hu)).trans h1
      have c0 := hci 0 (by omega)
      have c1 := hci 1 (by omega)
      have c2 := hci 2 (by omega)
      have c3 := hci 3 (by omega)
      have c4 := hci 4 (by omega)
      have c5 := hci 5 (by omega)
      clear hci hc
      generalize L[i] = x at *
      obtain ⟨kd, nm, to, ⟨bA, bl, bc⟩, n, K, keep, ck⟩ := x
      have HX := Lib.hid hok
      have hnm := hok.nm
      have hto := hok.to
      clear hok
      replace c0 : wr.cell? ⟨b, off + i * 6, none⟩ = some (.int .i64 kd) := c0
      replace c1 : wr.cell? ⟨b, off + i * 6 + 1, none⟩ = some (.string nm) := c1
      replace c2 : wr.cell? ⟨b, off + i * 6 + 2, none⟩ = some (.string to) := c2
      replace c3 : wr.cell? ⟨b, off + i * 6 + 3, none⟩ = some (.slice bA bl.length bc) := c3
      replace c4 : wr.cell? ⟨b, off + i * 6 + 4, none⟩ = some (.int .i64 n) := c4
      replace c5 : wr.cell? ⟨b, off + i * 6 + 5, none⟩ = some (.slice K keep.length ck) := c5
      have hA0 := HX.out.b.nil
      have hbcap : bl.length ≤ bc := HX.out.b.cap
      have hbmax : bc ≤ maxLen := HX.out.b.max
      have HBD := Lib.hid HX.out.b.rd
      have HBB := Lib.hid HX.out.b.byte
      have HBL := Lib.hid (few_len bl)
      generalize bl.length = bn at *
      generalize keep.length = kn at *
      have hb1 : Below wr.heap.size wr (wr.alloc (.cells #[.int .i64 kd, .string nm, .string to, .slice bA bn bc, .int .i64 n, .slice K kn ck] 31)) := (Below.refl _ _).alloc (Nat.le_refl _) _
      have HS1 := Lib.hid (Has.new wr 31 #[.int .i64 kd, .string nm, .string to, .slice bA bn bc, .int .i64 n, .slice K kn ck])
      obtain ⟨W, hW⟩ : ∃ W, W = wr.alloc (.cells #[.int .i64 kd, .string nm, .string to, .slice bA bn bc, .int .i64 n, .slice K kn ck] 31) := ⟨_, rfl⟩
      have DW := Lib.hid (HD.out.below (hW ▸ hb1))
      have HIW := Lib.hid (HI.out.trans ((hW ▸ hb1 : Below wr.heap.size wr W).mono HI.out.size))
      have HS := Lib.hid (hW ▸ HS1.out : Has W wr.heap.size 31 #[.int .i64 kd, .string nm, .string to, .slice bA bn bc, .int .i64 n, .slice K kn ck])
      have HBW := Lib.hid (hW ▸ hb1 : Below wr.heap.size wr W)
      have z0 := HS.out.cell 0
      have z1 := HS.out.cell 1
      have z2 := HS.out.cell 2
      have z3 := HS.out.cell 3
      have hsW := HS.out.lt
      clear HS1 hb1
      rw [eq_comm] at hW
      by_cases k0 : kd = 0
      · subst k0
        go_wp2_with fail
        refine (create_dk DW.out nm hnm (by decide)).mono ?_
        rintro e v5 ⟨k, rfl, hk, D6, hb⟩
        rw [offC] at hk D6
        obtain rfl : k = 12 := hk.out
        have HI6 := Lib.hid (HIW.out.trans hb.out)
        clear hk hb DW HIW HS
        have HFR := Lib.hid (free_dk D6.out)
        rw [dw6] at HFR
        have HDW := Lib.hid (down_dk D6.out)
        rw [show SD.down = true from rfl] at HDW
        go_wp2_with fail
        refine HDW.out.mono ?_
        rintro e v6 ⟨rfl, rfl⟩
        go_wp2_with fail
        refine HFR.out.mono ?_
        rintro e v7 ⟨rfl, hb⟩
        have HI7 := Lib.hid (HI6.out.trans (hb.out.mono HI6.out.size))
        have D7 := Lib.hid (D6.out.below hb.out)
        clear hb HFR D6 HI6 HDW
        go_wp2_with fail
        go_roundw
        case rel => exact ⟨i + 1, by omega, by omega, by go_num, D7, HI7⟩
        case measure => simp [intOf]; omega
      by_cases k1 : kd = 1
      · subst k1
        have HFW : Hid (Calls Try.prog 16 #[.slice bA bn bc] W.drew fun e w' => e = .returned (.slice bA (fewN bn) bc) ∧ w' = W.drew) := few_any bA bn bc W.drew hbcap hbmax
        generalize hfn : fewN bn = fn at *
        have hBd : Below wr.heap.size wr W.drew := HBW.out.drew
        have HAP : Hid (Calls Try.prog 15 #[.pointer (some ⟨w.heap.size + 1, 0, none⟩), .string nm, .slice bA fn bc] W.drew fun e w' => ∃ k : Nat, e = .returned (.int .i64 k) ∧ Hid (k = (appendD SD nm (few bl)).2) ∧ Hid (DK w.heap.size (w.heap.size + 1) w' (appendD SD nm (few bl)).1) ∧ Hid (Below w.heap.size W.drew w') ∧ Hid (w'.heap[wr.heap.size]? = W.drew.heap[wr.heap.size]?)) :=
          append_far HD.out hBd (Nat.le_refl _) hsW nm hnm bA (few bl) fn bc HBL.out ((few_rd HBD.out).keep fun p x hp => (HIW.out.cell (World.block_lt_of_cell? w p hp))) hA0 (few_byte HBB.out)
        have HID := Lib.hid (HIW.out.drew)
        have hz : W.drew.cell? ⟨wr.heap.size, 1, none⟩ = some (.string nm) ∧ W.drew.cell? ⟨wr.heap.size, 3, none⟩ = some (.slice bA bn bc) := ⟨z1, z3⟩
        clear hfn
        go_wp2_with fail
        refine wp_region_held_drew (S := fun X => X.cell? ⟨wr.heap.size, 1, none⟩ = some (.string nm) ∧ X.cell? ⟨wr.heap.size, 3, none⟩ = some (.slice bA bn bc)) (by kernel_rfl) hz (fun _ => ?_)
        (refine wpAnyH_take (i := 0) (v := ?_) rfl (by kernel_rfl) (by kernel_rfl) (by kernel_rfl) (fun _ _ _ h => h) (Or.inl ⟨by rfl, ?_⟩) (by assumption) ?_; rotate_left; (intro w hSw; (try dsimp only at hSw); go_simp; try with_reducible rfl); ((try simp only [List.getElem_toArray]); (try simp only [List.getElem_cons_succ]); (try simp only [List.getElem_cons_zero]); (try simp only [Act.put]); (try simp only [List.setIfInBounds_toArray]); (try simp only [List.set_cons_succ]); (try simp only [List.set_cons_zero])))
        (refine wpAnyH_take (i := 1) (v := ?_) rfl (by kernel_rfl) (by kernel_rfl) (by kernel_rfl) (fun _ _ _ h => h) (Or.inl ⟨by rfl, ?_⟩) (by assumption) ?_; rotate_left; (intro w hSw; (try dsimp only at hSw); go_simp; try with_reducible rfl); ((try simp only [List.getElem_toArray]); (try simp only [List.getElem_cons_succ]); (try simp only [List.getElem_cons_zero]); (try simp only [Act.put]); (try simp only [List.setIfInBounds_toArray]); (try simp only [List.set_cons_succ]); (try simp only [List.set_cons_zero])))
        (refine wpAnyH_take (i := 2) (v := ?_) rfl (by kernel_rfl) (by kernel_rfl) (by kernel_rfl) (fun _ _ _ h => h) (Or.inl ⟨by rfl, ?_⟩) (by assumption) ?_; rotate_left; (intro w hSw; (try dsimp only at hSw); have hcv := hSw.1; go_simp; try with_reducible rfl); ((try simp only [List.getElem_toArray]); (try simp only [List.getElem_cons_succ]); (try simp only [List.getElem_cons_zero]); (try simp only [Act.put]); (try simp only [List.setIfInBounds_toArray]); (try simp only [List.set_cons_succ]); (try simp only [List.set_cons_zero])))
        (refine wpAnyH_take (i := 3) (v := ?_) rfl (by kernel_rfl) (by kernel_rfl) (by kernel_rfl) (fun _ _ _ h => h) (Or.inl ⟨by rfl, ?_⟩) (by assumption) ?_; rotate_left; (intro w hSw; (try dsimp only at hSw); go_simp; try with_reducible rfl); ((try simp only [List.getElem_toArray]); (try simp only [List.getElem_cons_succ]); (try simp only [List.getElem_cons_zero]); (try simp only [Act.put]); (try simp only [List.setIfInBounds_toArray]); (try simp only [List.set_cons_succ]); (try simp only [List.set_cons_zero])))
        (refine wpAnyH_take (i := 4) (v := ?_) rfl (by kernel_rfl) (by kernel_rfl) (by kernel_rfl) (fun _ _ _ h => h) (Or.inl ⟨by rfl, ?_⟩) (by assumption) ?_; rotate_left; (intro w hSw; (try dsimp only at hSw); have hcv := hSw.2; go_simp; try with_reducible rfl); ((try simp only [List.getElem_toArray]); (try simp only [List.getElem_cons_succ]); (try simp only [List.getElem_cons_zero]); (try simp only [Act.put]); (try simp only [List.setIfInBounds_toArray]); (try simp only [List.set_cons_succ]); (try simp only [List.set_cons_zero])))
        refine wpAnyH_ready (rs := [5]) (by kernel_rfl) (by simp) ?_
        refine AllReadyH.cons rfl (fun K2 hK2 => ?_) AllReadyH.nil
        go_simp
        refine HFW.out.mono ?_
        rintro e x ⟨rfl, rfl⟩
        go_wp2_with fail
        refine hK2.out _ _ (by (try dsimp only); exact hz) (fun hq => ?_)
        clear hK2 K2
        (try simp only [List.getElem_toArray]); (try simp only [List.getElem_cons_succ]); (try simp only [List.getElem_cons_zero]); (try simp only [Act.put]); (try simp only [List.setIfInBounds_toArray]); (try simp only [List.set_cons_succ]); (try simp only [List.set_cons_zero])
        refine wpAnyH_ready (rs := [6]) (by kernel_rfl) (by simp) ?_
        refine AllReadyH.cons rfl (fun K2 hK2 => ?_) AllReadyH.nil
        go_simp
        refine HAP.out.mono ?_
        rintro e v5 ⟨k, rfl, hk, D6, hb, hkeep⟩
        rw [offA] at hk D6
        obtain rfl : k = 12 := hk.out
        have HI6 := Lib.hid (HID.out.trans hb.out)
        have hz5 : v5.cell? ⟨wr.heap.size, 1, none⟩ = some (.string nm) ∧ v5.cell? ⟨wr.heap.size, 3, none⟩ = some (.slice bA bn bc) := ⟨(World.cell?_of_block (a := ⟨wr.heap.size, 1, none⟩) hkeep.out).trans hz.1, (World.cell?_of_block (a := ⟨wr.heap.size, 3, none⟩) hkeep.out).trans hz.2⟩
        clear hk hb hkeep HAP
        go_wp2_with fail
        refine hK2.out _ _ (by (try dsimp only); exact hz5) (fun hq => ?_)
        clear hK2 K2
        (try simp only [List.getElem_toArray]); (try simp only [List.getElem_cons_succ]); (try simp only [List.getElem_cons_zero]); (try simp only [Act.put]); (try simp only [List.setIfInBounds_toArray]); (try simp only [List.set_cons_succ]); (try simp only [List.set_cons_zero])
        (refine wpAnyH_take (i := 7) (v := ?_) rfl (by kernel_rfl) (by kernel_rfl) (by kernel_rfl) (fun _ _ _ h => h) (Or.inl ⟨by rfl, ?_⟩) (by assumption) ?_; rotate_left; (intro w hSw; (try dsimp only at hSw); go_simp; try with_reducible rfl); ((try simp only [List.getElem_toArray]); (try simp only [List.getElem_cons_succ]); (try simp only [List.getElem_cons_zero]); (try simp only [Act.put]); (try simp only [List.setIfInBounds_toArray]); (try simp only [List.set_cons_succ]); (try simp only [List.set_cons_zero])))
        refine wpAnyH_done (by kernel_rfl) ?_ _
        have HFR := Lib.hid (free_dk D6.out)
        rw [dw6] at HFR
        have HDW := Lib.hid (down_dk D6.out)
        rw [show SD.down = true from rfl] at HDW
        go_wp2_with fail
        refine HDW.out.mono ?_
        rintro e v6 ⟨rfl, rfl⟩
        go_wp2_with fail
        refine HFR.out.mono ?_
        rintro e v7 ⟨rfl, hb⟩
        have HI7 := Lib.hid (HI6.out.trans (hb.out.mono HI6.out.size))
        have D7 := Lib.hid (D6.out.below hb.out)
        clear hb HFR D6 HI6 HDW
        go_wp2_with fail
        go_roundw
        case rel => exact ⟨i + 1, by omega, by omega, by go_num, D7, HI7⟩
        case measure => simp [intOf]; omega
      by_cases k2 : kd = 2
      · subst k2
        go_wp2_with fail
        refine (sync_dk DW.out nm hnm).mono ?_
        rintro e v5 ⟨k, rfl, hk, D6, hb⟩
        rw [offS] at hk D6
        obtain rfl : k = 12 := hk.out
        have HI6 := Lib.hid (HIW.out.trans hb.out)
        clear hk hb DW HIW HS
        have HFR := Lib.hid (free_dk D6.out)
        rw [dw6] at HFR
        have HDW := Lib.hid (down_dk D6.out)
        rw [show SD.down = true from rfl] at HDW
        go_wp2_with fail
        refine HDW.out.mono ?_
        rintro e v6 ⟨rfl, rfl⟩
        go_wp2_with fail
        refine HFR.out.mono ?_
        rintro e v7 ⟨rfl, hb⟩
        have HI7 := Lib.hid (HI6.out.trans (hb.out.mono HI6.out.size))
        have D7 := Lib.hid (D6.out.below hb.out)
        clear hb HFR D6 HI6 HDW
        go_wp2_with fail
        go_roundw
        case rel => exact ⟨i + 1, by omega, by omega, by go_num, D7, HI7⟩
        case measure => simp [intOf]; omega
      by_cases k3 : kd = 3
      · subst k3
        go_wp2_with fail
        refine (rename_dk DW.out nm to hnm hto (by decide)).mono ?_
        rintro e v5 ⟨k, rfl, hk, D6, hb⟩
        rw [offR] at hk D6
        obtain rfl : k = 12 := hk.out
        have HI6 := Lib.hid (HIW.out.trans hb.out)
        clear hk hb DW HIW HS
        have HFR := Lib.hid (free_dk D6.out)
        rw [dw6] at HFR
        have HDW := Lib.hid (down_dk D6.out)
        rw [show SD.down = true from rfl] at HDW
        go_wp2_with fail
        refine HDW.out.mono ?_
        rintro e v6 ⟨rfl, rfl⟩
        go_wp2_with fail
        refine HFR.out.mono ?_
        rintro e v7 ⟨rfl, hb⟩
        have HI7 := Lib.hid (HI6.out.trans (hb.out.mono HI6.out.size))
        have D7 := Lib.hid (D6.out.below hb.out)
        clear hb HFR D6 HI6 HDW
        go_wp2_with fail
        go_roundw
        case rel => exact ⟨i + 1, by omega, by omega, by go_num, D7, HI7⟩
        case measure => simp [intOf]; omega
      by_cases k4 : kd = 4
      · subst k4
        go_wp2_with fail
        refine (remove_dk DW.out nm hnm).mono ?_
        rintro e v5 ⟨k, rfl, hk, D6, hb⟩
        rw [offX] at hk D6
        obtain rfl : k = 12 := hk.out
        have HI6 := Lib.hid (HIW.out.trans hb.out)
        clear hk hb DW HIW HS
        have HFR := Lib.hid (free_dk D6.out)
        rw [dw6] at HFR
        have HDW := Lib.hid (down_dk D6.out)
        rw [show SD.down = true from rfl] at HDW
        go_wp2_with fail
        refine HDW.out.mono ?_
        rintro e v6 ⟨rfl, rfl⟩
        go_wp2_with fail
        refine HFR.out.mono ?_
        rintro e v7 ⟨rfl, hb⟩
        have HI7 := Lib.hid (HI6.out.trans (hb.out.mono HI6.out.size))
        have D7 := Lib.hid (D6.out.below hb.out)
        clear hb HFR D6 HI6 HDW
        go_wp2_with fail
        go_roundw
        case rel => exact ⟨i + 1, by omega, by omega, by go_num, D7, HI7⟩
        case measure => simp [intOf]; omega
      have e0 : (kd == 0) = false := by simpa using k0
      have e1 : (kd == 1) = false := by simpa using k1
      have e2 : (kd == 2) = false := by simpa using k2
      have e3 : (kd == 3) = false := by simpa using k3
      have e4 : (kd == 4) = false := by simpa using k4
      have D6 := DW
      have HI6 := HIW
      clear DW HIW HS
      have HFR := Lib.hid (free_dk D6.out)
      rw [dw6] at HFR
      have HDW := Lib.hid (down_dk D6.out)
      rw [show SD.down = true from rfl] at HDW
      go_wp2_with fail
      refine HDW.out.mono ?_
      rintro e v6 ⟨rfl, rfl⟩
      go_wp2_with fail
      refine HFR.out.mono ?_
      rintro e v7 ⟨rfl, hb⟩
      have HI7 := Lib.hid (HI6.out.trans (hb.out.mono HI6.out.size))
      have D7 := Lib.hid (D6.out.below hb.out)
      clear hb HFR D6 HI6 HDW
      go_wp2_with fail
      go_roundw
      case rel => exact ⟨i + 1, by omega, by omega, by go_num, D7, HI7⟩
      case measure => simp [intOf]; omega
    · by_cases h1 : i < na
      · have h2 : i = 20 := by omega
        subst h2
        go_wp2_with fail
        refine (up1_dk HD.out (by decide) 1 (by decide)).mono ?_
        rintro e v8 ⟨rfl, D8, hb⟩
        rw [dw4] at D8
        have HB8 := Lib.hid (HI.out.trans hb.out)
        clear hb HD HI
        go_wp2_with fail
        refine (read_dk D8.out sA (by decide)).mono ?_
        rintro e v9 ⟨A, n, c, k, rfl, hk, hn, _, hr, hb⟩
        rw [dw5] at hk hn hr
        obtain rfl : k = 0 := hk.out
        have HB9 := Lib.hid (HB8.out.trans (hb.out.mono HB8.out.size))
        have D9 := Lib.hid (D8.out.below hb.out)
        have hc := conv_len v9 A [97] n c hn.out hr.out
        have hbs : bs [97] = ⟨#[97]⟩ := by rfl
        rw [hbs] at hc
        have HLD := Lib.hid (list_dk D9.out (by decide))
        clear hk hn hr hb D8 HB8 hbs D9
        go_wp2_with fail
        refine HLD.out.mono ?_
        rintro e v10 ⟨A10, n10, c10, rfl, hn, _, hb⟩
        obtain rfl : n10 = 1 := hn.out
        have HB10 := Lib.hid (HB9.out.trans (hb.out.mono HB9.out.size))
        clear hn hb HLD HB9
        go_wp2_with fail
        refine (lives_any v10).mono ?_
        rintro e v11 ⟨rfl, hb⟩
        have HB11 := Lib.hid (HB10.out.trans (hb.out.mono HB10.out.size))
        clear hb HB10
        go_wp2_with fail
        go_ret
        exact ⟨rfl, HB11.out⟩
      · have h2 : i = na := by omega
        subst h2
        go_wp2_with fail
        refine (up1_dk HD.out (by decide) 1 (by decide)).mono ?_
        rintro e v8 ⟨rfl, D8, hb⟩
        rw [dw4] at D8
        have HB8 := Lib.hid (HI.out.trans hb.out)
        clear hb HD HI
        go_wp2_with fail
        refine (read_dk D8.out sA (by decide)).mono ?_
        rintro e v9 ⟨A, n, c, k, rfl, hk, hn, _, hr, hb⟩
        rw [dw5] at hk hn hr
        obtain rfl : k = 0 := hk.out
        have HB9 := Lib.hid (HB8.out.trans (hb.out.mono HB8.out.size))
        have D9 := Lib.hid (D8.out.below hb.out)
        have hc := conv_len v9 A [97] n c hn.out hr.out
        have hbs : bs [97] = ⟨#[97]⟩ := by rfl
        rw [hbs] at hc
        have HLD := Lib.hid (list_dk D9.out (by decide))
        clear hk hn hr hb D8 HB8 hbs D9
        go_wp2_with fail
        refine HLD.out.mono ?_
        rintro e v10 ⟨A10, n10, c10, rfl, hn, _, hb⟩
        obtain rfl : n10 = 1 := hn.out
        have HB10 := Lib.hid (HB9.out.trans (hb.out.mono HB9.out.size))
        clear hn hb HLD HB9
        go_wp2_with fail
        refine (lives_any v10).mono ?_
        rintro e v11 ⟨rfl, hb⟩
        have HB11 := Lib.hid (HB10.out.trans (hb.out.mono HB10.out.size))
        clear hb HB10
        go_wp2_with fail
        go_ret
        exact ⟨rfl, HB11.out⟩
end Go.Proofs.Ytfjjmodeeeolkaa.diskDown
