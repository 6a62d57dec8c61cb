/-
  DiskRenames, walked.
-/
import Derived.Test.YtfjjmodeeeolkaaFew
import Derived.Deep.RegionHeld3
namespace Go.Proofs.Ytfjjmodeeeolkaa.diskRenames
open Go.RowKit Go.Maps Go.WideShapes Go.WideMaps
/-- The name b. -/
def sB : ByteArray := ⟨#[98]⟩
theorem rn1 (x : List Nat) (h : x.length ≤ 30) : appendD ⟨100, [⟨[97], [], 0⟩], -1, false⟩ sA x = (⟨100, [⟨[97], x, 0⟩], -1, false⟩, 0) := by
  unfold appendD
  have h1 : errs ⟨100, [⟨[97], [], 0⟩], -1, false⟩ sA [] = 0 := by rfl
  have h2 : ¬ freeD ⟨100, [⟨[97], [], 0⟩], -1, false⟩ < x.length := by show ¬ 100 - 0 < x.length; omega
  rw [if_pos h1, if_neg h2]
  rfl
theorem rn2 (x : List Nat) : createD ⟨100, [⟨[97], x, 0⟩], -1, false⟩ sB = (⟨100, [⟨[97], x, 0⟩, ⟨[98], [], 0⟩], -1, false⟩, 0) := by
  rfl
theorem rn3 (x y : List Nat) (h : x.length ≤ 30) (hy : y.length ≤ 30) : appendD ⟨100, [⟨[97], x, 0⟩, ⟨[98], [], 0⟩], -1, false⟩ sB y = (⟨100, [⟨[97], x, 0⟩, ⟨[98], y, 0⟩], -1, false⟩, 0) := by
  unfold appendD
  have h1 : errs ⟨100, [⟨[97], x, 0⟩, ⟨[98], [], 0⟩], -1, false⟩ sB [] = 0 := by rfl
  have h2 : ¬ freeD ⟨100, [⟨[97], x, 0⟩, ⟨[98], [], 0⟩], -1, false⟩ < y.length := by
    unfold freeD
    show ¬ 100 - tot [⟨[97], x, 0⟩, ⟨[98], [], 0⟩] < y.length
    rw [tot_cons, tot_cons]
    show ¬ 100 - (x.length + (0 + 0)) < y.length
    omega
  rw [if_pos h1, if_neg h2]
  rfl
theorem rn4 (x y : List Nat) : renameD ⟨100, [⟨[97], x, 0⟩, ⟨[98], y, 0⟩], -1, false⟩ sA sB = (⟨100, [⟨[98], x, 0⟩], -1, false⟩, 0) := by
  rfl
theorem rn5 (x : List Nat) : readD ⟨100, [⟨[98], x, 0⟩], -1, false⟩ sB = (x, 0) := by rfl
theorem rn6 (x : List Nat) : readD ⟨100, [⟨[98], x, 0⟩], -1, false⟩ sA = ([], 7) := by rfl
theorem rn7 (x : List Nat) : freeD ⟨100, [⟨[98], x, 0⟩], -1, false⟩ = 100 - x.length := by
  unfold freeD
  show 100 - tot [⟨[98], x, 0⟩] = _
  rw [tot_cons]
  rfl
theorem DK.drew {B d : Nat} {w : World} {S : Ds} (h : DK B d w S) : DK B d w.drew S := h.below ⟨rfl, rfl, rfl, Nat.le_refl _, fun _ _ => rfl⟩
set_option maxHeartbeats 4000000 in
set_option maxRecDepth 100000 in
theorem walk (Aa : Option Addr) (na ca : Nat) (xa : List Nat) (Ab : Option Addr) (nb cb : Nat) (xb : List Nat) (w : World) (hla : xa.length = na) (hca : na ≤ ca) (hma : ca ≤ maxLen) (hba : ∀ x ∈ xa, x < 256) (hra : Rd w Aa xa) (hza : Aa = none → ca = 0)
    (hlb : xb.length = nb) (hcb : nb ≤ cb) (hmb : cb ≤ maxLen) (hbb : ∀ x ∈ xb, x < 256) (hrb : Rd w Ab xb) (hzb : Ab = none → cb = 0) :
    Calls Try.prog 7 #[.slice Aa na ca, .slice Ab nb cb] w fun e w' => e = .returned (.bool true) ∧ Below w.heap.size w w' := by
  have HRA := Lib.hid (few_rd hra)
  have HRB := Lib.hid (few_rd hrb)
  have HBA := Lib.hid (few_byte hba)
  have HBB := Lib.hid (few_byte hbb)
  have HLA : Hid ((few xa).length = fewN na) := by show _ = _; rw [few_len, hla]
  have HLB : Hid ((few xb).length = fewN nb) := by show _ = _; rw [few_len, hlb]
  have hN := fewN_le na
  have hNb := fewN_le nb
  clear hra hrb hba hbb hla hlb
  generalize few xa = fa at *
  generalize few xb = fb at *
  go_enter Try.func7, Try.ntmps7
  go_wp2_with fail
  refine (newP_any w 100 (by omega)).mono ?_
  rintro e w1 ⟨rfl, hd, hb⟩
  have D := Lib.hid (⟨_, hd.out, hb.out.size⟩ : DK w.heap.size (w.heap.size + 1) w1 (newD 100))
  have HB := Lib.hid hb.out
  clear hd hb
  go_wp2_with fail
  refine (create_dk D.out sA (by decide) (by decide)).mono ?_
  rintro e w2 ⟨k, rfl, hk, D2, hb⟩
  rw [ex1] at D2
  have HB2 := Lib.hid (HB.out.trans hb.out)
  clear hk hb D HB
  go_wp2_with fail
  refine (few_any Aa na ca w2 hca hma).mono ?_
  rintro e w2' ⟨rfl, rfl⟩
  generalize hfn : fewN na = fn at *
  go_wp2_with fail
  refine (append_dk D2.out sA (by decide) Aa fa fn ca HLA.out (HRA.out.below HB2.out) hza HBA.out).mono ?_
  rintro e w3 ⟨k, rfl, hk, D3, hb⟩
  rw [rn1 fa (by rw [HLA.out]; exact hN.2)] at D3
  have HB3 := Lib.hid (HB2.out.trans hb.out)
  clear hk hb D2 HB2
  go_wp2_with fail
  refine (create_dk D3.out sB (by decide) (by show 1 ≤ _; omega)).mono ?_
  rintro e w4 ⟨k, rfl, hk, D4, hb⟩
  rw [rn2] at D4
  have HB4 := Lib.hid (HB3.out.trans hb.out)
  clear hk hb D3 HB3
  go_wp2_with fail
  refine (few_any Ab nb cb w4 hcb hmb).mono ?_
  rintro e w4' ⟨rfl, rfl⟩
  generalize hfm : fewN nb = fm at *
  go_wp2_with fail
  refine (append_dk D4.out sB (by decide) Ab fb fm cb HLB.out (HRB.out.below HB4.out) hzb HBB.out).mono ?_
  rintro e w5 ⟨k, rfl, hk, D5, hb⟩
  rw [rn3 fa fb (by rw [HLA.out]; exact hN.2) (by rw [HLB.out]; exact hNb.2)] at D5
  have HB5 := Lib.hid (HB4.out.trans hb.out)
  clear hk hb D4 HB4
  go_wp2_with fail
  refine (rename_dk D5.out sA sB (by decide) (by decide) (by show 2 ≤ _; omega)).mono ?_
  rintro e w6 ⟨k, rfl, hk, D6, hb⟩
  rw [rn4] at hk D6
  obtain rfl : k = 0 := hk.out
  have HB6 := Lib.hid (HB5.out.trans hb.out)
  clear hk hb D5 HB5
  go_wp2_with fail
  refine (read_dk D6.out sB (by decide)).mono ?_
  rintro e w7 ⟨A7, n7, c7, k, rfl, hk, hn, _, hr, hb⟩
  rw [rn5] at hk hn hr
  obtain rfl : k = 0 := hk.out
  have HB7 := Lib.hid (HB6.out.trans (hb.out.mono HB6.out.size))
  have D7 := Lib.hid (D6.out.below hb.out)
  have HN7 := Lib.hid hn.out
  have HR7 := Lib.hid hr.out
  clear hk hb D6 HB6 hn hr
  go_wp2_with fail
  refine (read_dk D7.out sA (by decide)).mono ?_
  rintro e w8 ⟨A8, n8, c8, k, rfl, hk, hn, _, hr, hb⟩
  rw [rn6] at hk
  obtain rfl : k = 7 := hk.out
  have HB8 := Lib.hid (HB7.out.trans (hb.out.mono HB7.out.size))
  have D8 := Lib.hid (D7.out.below hb.out)
  have HR8 := Lib.hid (HR7.out.below hb.out)
  clear hk hb D7 HB7 hn hr HR7
  have hcv1 : ∀ X, Hid (Below w8.heap.size w8 X) → Sem.run Try.prog (convert 28 9 (.slice A7 n7 c7)) X = .ok (.string (bs fa)) X := fun X hX => conv_len X A7 fa n7 c7 HN7.out (HR8.out.below hX.out)
  have hcv2 : ∀ X, Hid (Below w8.heap.size w8 X) → Sem.run Try.prog (convert 28 9 (.slice Aa fn ca)) X = .ok (.string (bs fa)) X := fun X hX => conv_len X Aa fa fn ca HLA.out (HRA.out.below (HB8.out.trans (hX.out.mono HB8.out.size)))
  have HFW : ∀ W, Hid (Calls Try.prog 16 #[.slice Aa na ca] W fun e w' => e = .returned (.slice Aa fn ca) ∧ w' = W) := fun W => by rw [← hfn]; exact few_any Aa na ca W hca hma
  have hfree : ((100 - fn : Nat) : Int) = 100 - (fn : Int) := by omega
  have HFR : ∀ X, Hid (Below w8.heap.size w8 X) → Hid (Calls Try.prog 22 #[.pointer (some ⟨w.heap.size + 1, 0, none⟩)] X fun e w' => e = .returned (.int .i64 (100 - (fn : Int))) ∧ Hid (Below w8.heap.size w8 w')) := fun X hX => by
    have h := free_dk (D8.out.below hX.out)
    rw [rn7, HLA.out, hfree] at h
    exact h.mono fun e w' ⟨he, hb⟩ => ⟨he, hX.out.trans (hb.out.mono hX.out.size)⟩
  have HLV : ∀ X, Hid (Below w8.heap.size w8 X) → Hid (Calls Try.prog 13 #[] X fun e w' => e = .returned (.bool true) ∧ Hid (Below w8.heap.size w8 w')) := fun X hX => (lives_any X).mono fun e w' ⟨he, hb⟩ => ⟨he, hX.out.trans (hb.out.mono hX.out.size)⟩
  have hfn0 : (0 : Int) ≤ 100 - (fn : Int) := by omega
  have hwr : IntKind.i64.wrap (100 - (fn : Int)) = 100 - (fn : Int) := by rw [IntKind.wrap_i64]; omega
  have hd0 : Hid (Below w8.heap.size w8 w8.drew) := (Below.refl _ _).drew
  clear hfree hfn hfm D8 HR8 hN hNb
  go_wp2_with fail
  refine wp_region_held_drew (S := fun X => Hid (Below w8.heap.size w8 X)) (by kernel_rfl) hd0 (fun _ => ?_)
  (refine wpAnyH_take (i := 0) (v := ?_) rfl (by kernel_rfl) (by kernel_rfl) (by kernel_rfl) (fun _ _ _ h => h) (Or.inl ⟨by rfl, ?_⟩) (by assumption) ?_; rotate_left; (intro w hSw; (try dsimp only at hSw); go_simp; try with_reducible rfl); ((try simp only [List.getElem_toArray]); (try simp only [List.getElem_cons_succ]); (try simp only [List.getElem_cons_zero]); (try simp only [Act.put]); (try simp only [List.setIfInBounds_toArray]); (try simp only [List.set_cons_succ]); (try simp only [List.set_cons_zero])))
  (refine wpAnyH_take (i := 1) (v := ?_) rfl (by kernel_rfl) (by kernel_rfl) (by kernel_rfl) (fun _ _ _ h => h) (Or.inl ⟨by rfl, ?_⟩) (by assumption) ?_; rotate_left; (intro w hSw; (try dsimp only at hSw); go_simp; try with_reducible rfl); ((try simp only [List.getElem_toArray]); (try simp only [List.getElem_cons_succ]); (try simp only [List.getElem_cons_zero]); (try simp only [Act.put]); (try simp only [List.setIfInBounds_toArray]); (try simp only [List.set_cons_succ]); (try simp only [List.set_cons_zero])))
  (refine wpAnyH_take (i := 2) (v := ?_) rfl (by kernel_rfl) (by kernel_rfl) (by kernel_rfl) (fun _ _ _ h => h) (Or.inl ⟨by rfl, ?_⟩) (by assumption) ?_; rotate_left; (intro w hSw; (try dsimp only at hSw); go_simp; try with_reducible rfl); ((try simp only [List.getElem_toArray]); (try simp only [List.getElem_cons_succ]); (try simp only [List.getElem_cons_zero]); (try simp only [Act.put]); (try simp only [List.setIfInBounds_toArray]); (try simp only [List.set_cons_succ]); (try simp only [List.set_cons_zero])))
  (refine wpAnyH_take (i := 3) (v := ?_) rfl (by kernel_rfl) (by kernel_rfl) (by kernel_rfl) (fun _ _ _ h => h) (Or.inl ⟨by rfl, ?_⟩) (by assumption) ?_; rotate_left; (intro w hSw; (try dsimp only at hSw); go_simp; try with_reducible rfl); ((try simp only [List.getElem_toArray]); (try simp only [List.getElem_cons_succ]); (try simp only [List.getElem_cons_zero]); (try simp only [Act.put]); (try simp only [List.setIfInBounds_toArray]); (try simp only [List.set_cons_succ]); (try simp only [List.set_cons_zero])))
  (refine wpAnyH_take (i := 4) (v := ?_) rfl (by kernel_rfl) (by kernel_rfl) (by kernel_rfl) (fun _ _ _ h => h) (Or.inl ⟨by rfl, ?_⟩) (by assumption) ?_; rotate_left; (intro w hSw; (try dsimp only at hSw); have hcv := hcv1 w hSw; go_simp; try with_reducible rfl); ((try simp only [List.getElem_toArray]); (try simp only [List.getElem_cons_succ]); (try simp only [List.getElem_cons_zero]); (try simp only [Act.put]); (try simp only [List.setIfInBounds_toArray]); (try simp only [List.set_cons_succ]); (try simp only [List.set_cons_zero])))
  (refine wpAnyH_take (i := 5) (v := ?_) rfl (by kernel_rfl) (by kernel_rfl) (by kernel_rfl) (fun _ _ _ h => h) (Or.inl ⟨by rfl, ?_⟩) (by assumption) ?_; rotate_left; (intro w hSw; (try dsimp only at hSw); go_simp; try with_reducible rfl); ((try simp only [List.getElem_toArray]); (try simp only [List.getElem_cons_succ]); (try simp only [List.getElem_cons_zero]); (try simp only [Act.put]); (try simp only [List.setIfInBounds_toArray]); (try simp only [List.set_cons_succ]); (try simp only [List.set_cons_zero])))
  refine wpAnyH_ready (rs := [6]) (by kernel_rfl) (by simp) ?_
  refine AllReadyH.cons rfl (fun K2 hK2 => ?_) AllReadyH.nil
  go_simp
  refine (HFW _).out.mono ?_
  rintro e x ⟨rfl, rfl⟩
  go_wp2_with fail
  refine hK2.out _ _ (by (try dsimp only); exact hd0) (fun hq => ?_)
  clear hK2 K2
  (try simp only [List.getElem_toArray]); (try simp only [List.getElem_cons_succ]); (try simp only [List.getElem_cons_zero]); (try simp only [Act.put]); (try simp only [List.setIfInBounds_toArray]); (try simp only [List.set_cons_succ]); (try simp only [List.set_cons_zero])
  (refine wpAnyH_take (i := 7) (v := ?_) rfl (by kernel_rfl) (by kernel_rfl) (by kernel_rfl) (fun _ _ _ h => h) (Or.inl ⟨by rfl, ?_⟩) (by assumption) ?_; rotate_left; (intro w hSw; (try dsimp only at hSw); have hcv := hcv2 w hSw; go_simp; try with_reducible rfl); ((try simp only [List.getElem_toArray]); (try simp only [List.getElem_cons_succ]); (try simp only [List.getElem_cons_zero]); (try simp only [Act.put]); (try simp only [List.setIfInBounds_toArray]); (try simp only [List.set_cons_succ]); (try simp only [List.set_cons_zero])))
  (refine wpAnyH_take (i := 8) (v := ?_) rfl (by kernel_rfl) (by kernel_rfl) (by kernel_rfl) (fun _ _ _ h => h) (Or.inl ⟨by rfl, ?_⟩) (by assumption) ?_; rotate_left; (intro w hSw; (try dsimp only at hSw); go_simp; try with_reducible rfl); ((try simp only [List.getElem_toArray]); (try simp only [List.getElem_cons_succ]); (try simp only [List.getElem_cons_zero]); (try simp only [Act.put]); (try simp only [List.setIfInBounds_toArray]); (try simp only [List.set_cons_succ]); (try simp only [List.set_cons_zero])))
  (refine wpAnyH_take (i := 9) (v := ?_) rfl (by kernel_rfl) (by kernel_rfl) (by kernel_rfl) (fun _ _ _ h => h) (Or.inl ⟨by rfl, ?_⟩) (by assumption) ?_; rotate_left; (intro w hSw; (try dsimp only at hSw); go_simp; try with_reducible rfl); ((try simp only [List.getElem_toArray]); (try simp only [List.getElem_cons_succ]); (try simp only [List.getElem_cons_zero]); (try simp only [Act.put]); (try simp only [List.setIfInBounds_toArray]); (try simp only [List.set_cons_succ]); (try simp only [List.set_cons_zero])))
  (refine wpAnyH_take (i := 10) (v := ?_) rfl (by kernel_rfl) (by kernel_rfl) (by kernel_rfl) (fun _ _ _ h => h) (Or.inl ⟨by rfl, ?_⟩) (by assumption) ?_; rotate_left; (intro w hSw; (try dsimp only at hSw); go_simp; try with_reducible rfl); ((try simp only [List.getElem_toArray]); (try simp only [List.getElem_cons_succ]); (try simp only [List.getElem_cons_zero]); (try simp only [Act.put]); (try simp only [List.setIfInBounds_toArray]); (try simp only [List.set_cons_succ]); (try simp only [List.set_cons_zero])))
  (refine wpAnyH_take (i := 11) (v := ?_) rfl (by kernel_rfl) (by kernel_rfl) (by kernel_rfl) (fun _ _ _ h => h) (Or.inl ⟨by rfl, ?_⟩) (by assumption) ?_; rotate_left; (intro w hSw; (try dsimp only at hSw); go_simp; try with_reducible rfl); ((try simp only [List.getElem_toArray]); (try simp only [List.getElem_cons_succ]); (try simp only [List.getElem_cons_zero]); (try simp only [Act.put]); (try simp only [List.setIfInBounds_toArray]); (try simp only [List.set_cons_succ]); (try simp only [List.set_cons_zero])))
  (refine wpAnyH_take (i := 12) (v := ?_) rfl (by kernel_rfl) (by kernel_rfl) (by kernel_rfl) (fun _ _ _ h => h) (Or.inl ⟨by rfl, ?_⟩) (by assumption) ?_; rotate_left; (intro w hSw; (try dsimp only at hSw); go_simp; try with_reducible rfl); ((try simp only [List.getElem_toArray]); (try simp only [List.getElem_cons_succ]); (try simp only [List.getElem_cons_zero]); (try simp only [Act.put]); (try simp only [List.setIfInBounds_toArray]); (try simp only [List.set_cons_succ]); (try simp only [List.set_cons_zero])))
  (refine wpAnyH_take (i := 13) (v := ?_) rfl (by kernel_rfl) (by kernel_rfl) (by kernel_rfl) (fun _ _ _ h => h) (Or.inl ⟨by rfl, ?_⟩) (by assumption) ?_; rotate_left; (intro w hSw; (try dsimp only at hSw); go_simp; try with_reducible rfl); ((try simp only [List.getElem_toArray]); (try simp only [List.getElem_cons_succ]); (try simp only [List.getElem_cons_zero]); (try simp only [Act.put]); (try simp only [List.setIfInBounds_toArray]); (try simp only [List.set_cons_succ]); (try simp only [List.set_cons_zero])))
  (refine wpAnyH_take (i := 14) (v := ?_) rfl (by kernel_rfl) (by kernel_rfl) (by kernel_rfl) (fun _ _ _ h => h) (Or.inl ⟨by rfl, ?_⟩) (by assumption) ?_; rotate_left; (intro w hSw; (try dsimp only at hSw); go_simp; try with_reducible rfl); ((try simp only [List.getElem_toArray]); (try simp only [List.getElem_cons_succ]); (try simp only [List.getElem_cons_zero]); (try simp only [Act.put]); (try simp only [List.setIfInBounds_toArray]); (try simp only [List.set_cons_succ]); (try simp only [List.set_cons_zero])))
  (refine wpAnyH_take (i := 15) (v := ?_) rfl (by kernel_rfl) (by kernel_rfl) (by kernel_rfl) (fun _ _ _ h => h) (Or.inl ⟨by rfl, ?_⟩) (by assumption) ?_; rotate_left; (intro w hSw; (try dsimp only at hSw); go_simp; try with_reducible rfl); ((try simp only [List.getElem_toArray]); (try simp only [List.getElem_cons_succ]); (try simp only [List.getElem_cons_zero]); (try simp only [Act.put]); (try simp only [List.setIfInBounds_toArray]); (try simp only [List.set_cons_succ]); (try simp only [List.set_cons_zero])))
  (refine wpAnyH_take (i := 16) (v := ?_) rfl (by kernel_rfl) (by kernel_rfl) (by kernel_rfl) (fun _ _ _ h => h) (Or.inl ⟨by rfl, ?_⟩) (by assumption) ?_; rotate_left; (intro w hSw; (try dsimp only at hSw); go_simp; try with_reducible rfl); ((try simp only [List.getElem_toArray]); (try simp only [List.getElem_cons_succ]); (try simp only [List.getElem_cons_zero]); (try simp only [Act.put]); (try simp only [List.setIfInBounds_toArray]); (try simp only [List.set_cons_succ]); (try simp only [List.set_cons_zero])))
  (refine wpAnyH_take (i := 17) (v := ?_) rfl (by kernel_rfl) (by kernel_rfl) (by kernel_rfl) (fun _ _ _ h => h) (Or.inl ⟨by rfl, ?_⟩) (by assumption) ?_; rotate_left; (intro w hSw; (try dsimp only at hSw); go_simp; try with_reducible rfl); ((try simp only [List.getElem_toArray]); (try simp only [List.getElem_cons_succ]); (try simp only [List.getElem_cons_zero]); (try simp only [Act.put]); (try simp only [List.setIfInBounds_toArray]); (try simp only [List.set_cons_succ]); (try simp only [List.set_cons_zero])))
  (refine wpAnyH_take (i := 18) (v := ?_) rfl (by kernel_rfl) (by kernel_rfl) (by kernel_rfl) (fun _ _ _ h => h) (Or.inl ⟨by rfl, ?_⟩) (by assumption) ?_; rotate_left; (intro w hSw; (try dsimp only at hSw); go_simp; try with_reducible rfl); ((try simp only [List.getElem_toArray]); (try simp only [List.getElem_cons_succ]); (try simp only [List.getElem_cons_zero]); (try simp only [Act.put]); (try simp only [List.setIfInBounds_toArray]); (try simp only [List.set_cons_succ]); (try simp only [List.set_cons_zero])))
  (refine wpAnyH_take (i := 19) (v := ?_) rfl (by kernel_rfl) (by kernel_rfl) (by kernel_rfl) (fun _ _ _ h => h) (Or.inl ⟨by rfl, ?_⟩) (by assumption) ?_; rotate_left; (intro w hSw; (try dsimp only at hSw); go_simp; try with_reducible rfl); ((try simp only [List.getElem_toArray]); (try simp only [List.getElem_cons_succ]); (try simp only [List.getElem_cons_zero]); (try simp only [Act.put]); (try simp only [List.setIfInBounds_toArray]); (try simp only [List.set_cons_succ]); (try simp only [List.set_cons_zero])))
  (refine wpAnyH_take (i := 21) (v := ?_) rfl (by kernel_rfl) (by kernel_rfl) (by kernel_rfl) (fun _ _ _ h => h) (Or.inl ⟨by rfl, ?_⟩) (by assumption) ?_; rotate_left; (intro w hSw; (try dsimp only at hSw); go_simp; try with_reducible rfl); ((try simp only [List.getElem_toArray]); (try simp only [List.getElem_cons_succ]); (try simp only [List.getElem_cons_zero]); (try simp only [Act.put]); (try simp only [List.setIfInBounds_toArray]); (try simp only [List.set_cons_succ]); (try simp only [List.set_cons_zero])))
  refine wpAnyH_ready (rs := [20]) (by kernel_rfl) (by simp) ?_
  refine AllReadyH.cons rfl (fun K2 hK2 => ?_) AllReadyH.nil
  go_simp
  refine (HFR _ hd0).out.mono ?_
  rintro e x9 ⟨rfl, hd9⟩
  go_wp2_with fail
  refine hK2.out _ _ (by (try dsimp only); exact hd9) (fun hq => ?_)
  clear hK2 K2
  (try simp only [List.getElem_toArray]); (try simp only [List.getElem_cons_succ]); (try simp only [List.getElem_cons_zero]); (try simp only [Act.put]); (try simp only [List.setIfInBounds_toArray]); (try simp only [List.set_cons_succ]); (try simp only [List.set_cons_zero])
  refine wpAnyH_ready (rs := [22]) (by kernel_rfl) (by simp) ?_
  refine AllReadyH.cons rfl (fun K2 hK2 => ?_) AllReadyH.nil
  go_simp
  refine (HFW _).out.mono ?_
  rintro e x ⟨rfl, rfl⟩
  go_wp2_with fail
  refine hK2.out _ _ (by (try dsimp only); exact hd9) (fun hq => ?_)
  clear hK2 K2
  (try simp only [List.getElem_toArray]); (try simp only [List.getElem_cons_succ]); (try simp only [List.getElem_cons_zero]); (try simp only [Act.put]); (try simp only [List.setIfInBounds_toArray]); (try simp only [List.set_cons_succ]); (try simp only [List.set_cons_zero])
  (refine wpAnyH_take (i := 23) (v := ?_) rfl (by kernel_rfl) (by kernel_rfl) (by kernel_rfl) (fun _ _ _ h => h) (Or.inl ⟨by rfl, ?_⟩) (by assumption) ?_; rotate_left; (intro w hSw; (try dsimp only at hSw); go_simp; try with_reducible rfl); ((try simp only [List.getElem_toArray]); (try simp only [List.getElem_cons_succ]); (try simp only [List.getElem_cons_zero]); (try simp only [Act.put]); (try simp only [List.setIfInBounds_toArray]); (try simp only [List.set_cons_succ]); (try simp only [List.set_cons_zero])))
  (refine wpAnyH_take (i := 24) (v := ?_) rfl (by kernel_rfl) (by kernel_rfl) (by kernel_rfl) (fun _ _ _ h => h) (Or.inl ⟨by rfl, ?_⟩) (by assumption) ?_; rotate_left; (intro w hSw; (try dsimp only at hSw); go_simp; try with_reducible rfl); ((try simp only [List.getElem_toArray]); (try simp only [List.getElem_cons_succ]); (try simp only [List.getElem_cons_zero]); (try simp only [Act.put]); (try simp only [List.setIfInBounds_toArray]); (try simp only [List.set_cons_succ]); (try simp only [List.set_cons_zero])))
  (refine wpAnyH_take (i := 25) (v := ?_) rfl (by kernel_rfl) (by kernel_rfl) (by kernel_rfl) (fun _ _ _ h => h) (Or.inl ⟨by rfl, ?_⟩) (by assumption) ?_; rotate_left; (intro w hSw; (try dsimp only at hSw); go_simp; try with_reducible rfl); ((try simp only [List.getElem_toArray]); (try simp only [List.getElem_cons_succ]); (try simp only [List.getElem_cons_zero]); (try simp only [Act.put]); (try simp only [List.setIfInBounds_toArray]); (try simp only [List.set_cons_succ]); (try simp only [List.set_cons_zero])))
  (refine wpAnyH_take (i := 26) (v := ?_) rfl (by kernel_rfl) (by kernel_rfl) (by kernel_rfl) (fun _ _ _ h => h) (Or.inl ⟨by rfl, ?_⟩) (by assumption) ?_; rotate_left; (intro w hSw; (try dsimp only at hSw); go_simp; try with_reducible rfl); ((try simp only [List.getElem_toArray]); (try simp only [List.getElem_cons_succ]); (try simp only [List.getElem_cons_zero]); (try simp only [Act.put]); (try simp only [List.setIfInBounds_toArray]); (try simp only [List.set_cons_succ]); (try simp only [List.set_cons_zero])))
  (refine wpAnyH_take (i := 27) (v := ?_) rfl (by kernel_rfl) (by kernel_rfl) (by kernel_rfl) (fun _ _ _ h => h) (Or.inl ⟨by rfl, ?_⟩) (by assumption) ?_; rotate_left; (intro w hSw; (try dsimp only at hSw); go_simp; try with_reducible rfl); ((try simp only [List.getElem_toArray]); (try simp only [List.getElem_cons_succ]); (try simp only [List.getElem_cons_zero]); (try simp only [Act.put]); (try simp only [List.setIfInBounds_toArray]); (try simp only [List.set_cons_succ]); (try simp only [List.set_cons_zero])))
  refine wpAnyH_ready (rs := [28]) (by kernel_rfl) (by simp) ?_
  refine AllReadyH.cons rfl (fun K2 hK2 => ?_) AllReadyH.nil
  go_simp
  refine (HLV _ hd9).out.mono ?_
  rintro e x10 ⟨rfl, hd10⟩
  go_wp2_with fail
  refine hK2.out _ _ (by (try dsimp only); exact hd10) (fun hq => ?_)
  clear hK2 K2
  (try simp only [List.getElem_toArray]); (try simp only [List.getElem_cons_succ]); (try simp only [List.getElem_cons_zero]); (try simp only [Act.put]); (try simp only [List.setIfInBounds_toArray]); (try simp only [List.set_cons_succ]); (try simp only [List.set_cons_zero])
  (refine wpAnyH_take (i := 29) (v := ?_) rfl (by kernel_rfl) (by kernel_rfl) (by kernel_rfl) (fun _ _ _ h => h) (Or.inl ⟨by rfl, ?_⟩) (by assumption) ?_; rotate_left; (intro w hSw; (try dsimp only at hSw); go_simp; try with_reducible rfl); ((try simp only [List.getElem_toArray]); (try simp only [List.getElem_cons_succ]); (try simp only [List.getElem_cons_zero]); (try simp only [Act.put]); (try simp only [List.setIfInBounds_toArray]); (try simp only [List.set_cons_succ]); (try simp only [List.set_cons_zero])))
  (refine wpAnyH_take (i := 30) (v := ?_) rfl (by kernel_rfl) (by kernel_rfl) (by kernel_rfl) (fun _ _ _ h => h) (Or.inl ⟨by rfl, ?_⟩) (by assumption) ?_; rotate_left; (intro w hSw; (try dsimp only at hSw); go_simp; try with_reducible rfl); ((try simp only [List.getElem_toArray]); (try simp only [List.getElem_cons_succ]); (try simp only [List.getElem_cons_zero]); (try simp only [Act.put]); (try simp only [List.setIfInBounds_toArray]); (try simp only [List.set_cons_succ]); (try simp only [List.set_cons_zero])))
  refine wpAnyH_done (by kernel_rfl) ?_ _
  go_wp2_with fail
  go_ret
  exact ⟨rfl, HB8.out.trans (hd10.out.mono HB8.out.size)⟩
end Go.Proofs.Ytfjjmodeeeolkaa.diskRenames
