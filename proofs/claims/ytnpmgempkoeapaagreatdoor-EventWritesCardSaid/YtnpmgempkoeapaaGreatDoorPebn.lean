/-
  Put together, as far as it is used: ImgR4.
-/
import Derived.Test.YtnpmgempkoeapaaGreatDoorPebm
import Derived.Test.YtnpmgempkoeapaaGreatDoorPeap
set_option linter.unusedVariables false
set_option linter.unusedSimpArgs false
set_option linter.defProp false
namespace Go.Proofs.YtnpmgempkoeapaaGreatDoor
open Go.RowKit Dg
set_option maxRecDepth 100000
def readV (k : Int) (l : List Nat) (e : Nat) : Vl × List Nat × Nat :=
 if k = 1 then (⟨1, (byteF l e).1, ⟨#[]⟩⟩, (byteF l e).2) else if k = 2 then (⟨2, zag (numF 18446744073709551615 l e).1, ⟨#[]⟩⟩, (numF 18446744073709551615 l e).2) else (⟨k, 0, bs (textF 4096 l e).1⟩, (textF 4096 l e).2)
def readC (b : Bool) (k : Int) (l : List Nat) (e : Nat) : Vl × List Nat × Nat := if b then (vlNil, l, e) else readV k l e
def readTo (M : List Cl) (bits : List Bool) (l : List Nat) (e : Nat) : Nat → List Vl × List Nat × Nat
 | 0 => ([], l, e)
 | k + 1 => ((readTo M bits l e k).1 ++ [(readC (bits.getD k false) (M.getD k ⟨⟨#[]⟩, 0, false⟩).k (readTo M bits l e k).2.1 (readTo M bits l e k).2.2).1], (readC (bits.getD k false) (M.getD k ⟨⟨#[]⟩, 0, false⟩).k (readTo M bits l e k).2.1 (readTo M bits l e k).2.2).2)
theorem readTo_len (M : List Cl) (bits : List Bool) (l : List Nat) (e : Nat) (k : Nat) : (readTo M bits l e k).1.length = k := by
 induction k with
 | zero => rfl
 | succ k ih => simp [readTo, ih]
def readF (M : List Cl) (l : List Nat) (e : Nat) : Option (List Vl) × List Nat × Nat :=
 if ((bitsTo (byteF l e).1 8).drop M.length).any id = true then (none, (byteF l e).2.1, (byteF l e).2.2)
 else if (readTo M (bitsTo (byteF l e).1 8) (byteF l e).2.1 (byteF l e).2.2 M.length).2.2 = 0 ∧ fitsF M (readTo M (bitsTo (byteF l e).1 8) (byteF l e).2.1 (byteF l e).2.2 M.length).1 = true then (some (readTo M (bitsTo (byteF l e).1 8) (byteF l e).2.1 (byteF l e).2.2 M.length).1, (readTo M (bitsTo (byteF l e).1 8) (byteF l e).2.1 (byteF l e).2.2 M.length).2)
 else (none, (readTo M (bitsTo (byteF l e).1 8) (byteF l e).2.1 (byteF l e).2.2 M.length).2)
theorem byteF_drop (l : List Nat) (e : Nat) : ∃ j, (byteF l e).2.1 = l.drop j := by
 unfold byteF
 split
 ·exact ⟨0, rfl⟩
 ·cases l with
  | nil => exact ⟨0, rfl⟩
  | cons x t => exact ⟨1, rfl⟩
theorem numF_drop (m : Nat) (l : List Nat) (e : Nat) : ∃ j, (numF m l e).2.1 = l.drop j := by
 unfold numF
 split
 ·exact ⟨0, rfl⟩
 ·split
  ·exact ⟨0, rfl⟩
  ·exact ⟨_, rfl⟩
theorem textF_drop (m : Int) (l : List Nat) (e : Nat) : ∃ j, (textF m l e).2.1 = l.drop j := by
 unfold textF
 split
 ·exact ⟨0, rfl⟩
 ·simp only
  split
  ·exact ⟨0, rfl⟩
  ·split
   ·exact ⟨0, rfl⟩
   ·split
    ·exact ⟨0, rfl⟩
    ·exact ⟨_, rfl⟩
theorem readC_drop (b : Bool) (k : Int) (l : List Nat) (e : Nat) : ∃ j, (readC b k l e).2.1 = l.drop j := by
 unfold readC readV
 split
 ·exact ⟨0, rfl⟩
 ·split
  ·exact byteF_drop l e
  ·split
   ·exact numF_drop _ l e
   ·exact textF_drop _ l e
theorem readTo_drop (M : List Cl) (bits : List Bool) (l : List Nat) (e : Nat) (k : Nat) : ∃ j, (readTo M bits l e k).2.1 = l.drop j := by
 induction k with
 | zero => exact ⟨0, rfl⟩
 | succ k ih =>
   obtain ⟨j, hj⟩ := ih
   obtain ⟨i, hi⟩ := readC_drop (bits.getD k false) (M.getD k ⟨⟨#[]⟩, 0, false⟩).k (readTo M bits l e k).2.1 (readTo M bits l e k).2.2
   refine ⟨j + i, ?_⟩
   show (readC _ _ _ _).2.1 = _
   rw [hi, hj, List.drop_drop]
theorem readTo_ok (M : List Cl) (bits : List Bool) (l : List Nat) (e : Nat) (k : Nat) (hl : ∀ x ∈ l, x < 256) (hb : l.length ≤ 100000) : (∀ x ∈ (readTo M bits l e k).2.1, x < 256) ∧ (readTo M bits l e k).2.1.length ≤ 100000 := by
 obtain ⟨j, hj⟩ := readTo_drop M bits l e k
 rw [hj]
 exact ⟨fun x hx => hl x (List.mem_of_mem_drop hx), by rw [List.length_drop]; omega⟩
theorem byteF_lt (l : List Nat) (e : Nat) (hl : ∀ x ∈ l, x < 256) : (byteF l e).1 < 256 := by
 unfold byteF
 split
 ·simp
 ·cases l with
  | nil => simp
  | cons x t => exact hl x (by simp)
theorem zag_in (r : Nat) (h : r ≤ 18446744073709551615) : -9223372036854775808 ≤ zag r ∧ zag r ≤ 9223372036854775807 := by
 unfold zag; split <;> omega
theorem textF_len (m : Int) (l : List Nat) (e : Nat) : (textF m l e).1.length ≤ l.length := by
 unfold textF
 split
 ·simp
 ·simp only
  split
  ·simp
  ·split
   ·simp
   ·split
    ·simp
    ·simp only; rw [List.length_take, List.length_drop]; omega
theorem readC_fit (b : Bool) (k : Int) (l : List Nat) (e : Nat) (hl : ∀ x ∈ l, x < 256) (hb : l.length ≤ 100000) : (readC b k l e).1.fit := by
 unfold readC readV
 split
 ·exact nil_fits.1
 ·split
  ·have := byteF_lt l e hl
   exact ⟨by simp only; omega, by simp only; omega, by simp [empty_zero]⟩
  ·split
   ·have := zag_in _ (numF_le 18446744073709551615 l e)
    exact ⟨this.1, this.2, by simp [empty_zero]⟩
   ·have := textF_len 4096 l e
    exact ⟨by simp only; omega, by simp only; omega, by simp only [bs_size]; omega⟩
theorem readTo_fit (M : List Cl) (bits : List Bool) (l : List Nat) (e : Nat) (k : Nat) (hl : ∀ x ∈ l, x < 256) (hb : l.length ≤ 100000) : ∀ x ∈ (readTo M bits l e k).1, x.fit := by
 induction k with
 | zero => intro x hx; cases hx
 | succ k ih =>
   intro x hx
   have h := readTo_ok M bits l e k hl hb
   rcases List.mem_append.1 hx with h1 | h1
   ·exact ih x h1
   ·rw [List.mem_singleton.1 h1]
    exact readC_fit _ _ _ _ h.1 h.2
theorem CRow.grown {w w' : World} {g : Nat} {l : List Nat} {e : Nat} {A : Option Addr} {L : List Cl} (h : CRow w A L) (hr : Rdr w g l e) (hg : w.grownBy w' (some g)) : CRow w' A L := fun hne => by
 obtain ⟨b, off, ea, hc⟩ := h hne
 have hb : b ≠ g := by
  rintro rfl
  obtain ⟨R, c, hh, _, _⟩ := hr
  have h0 := (hc 0 (List.length_pos_iff.2 hne)).1
  rw [hh.cell] at h0
  generalize off + 0 * 3 = o at h0
  rcases o with _ | _ | o <;> simp at h0
 exact ⟨b, off, ea, fun i hi => ⟨cell_grown hg (hc i hi).1 hb, cell_grown hg (hc i hi).2.1 hb, cell_grown hg (hc i hi).2.2 hb⟩⟩
theorem BRow.grown {w w' : World} {g : Nat} {l : List Nat} {e : Nat} {A : Option Addr} {L : List Bool} (h : BRow w A L) (hr : Rdr w g l e) (hg : w.grownBy w' (some g)) : BRow w' A L := fun hne => by
 obtain ⟨b, off, ea, hc⟩ := h hne
 have hb : b ≠ g := by
  rintro rfl
  obtain ⟨R, c, hh, _, _⟩ := hr
  have h0 := hc 0 (List.length_pos_iff.2 hne)
  rw [hh.cell] at h0
  generalize off + 0 = o at h0
  rcases o with _ | _ | o <;> simp at h0
 exact ⟨b, off, ea, fun i hi => cell_grown hg (hc i hi) hb⟩
theorem appVR (w : World) (g : Nat) (hg0 : g = w.heap.size) (B : Nat) (v : Value) (L : List Vl) (x : Vl) (h : OwnV B w v L) (hB : B ≤ w.heap.size) (hl : L.length ≤ 1000) :
 ∃ R W', (Builtin.append_ #[24, 24] 24 #[v, .slice (some ⟨g, 0, none⟩) 1 1]).run Tryz.prog (w.alloc (.cells #[.int .i64 x.k, .int .i64 x.n, .string x.s] 87)) = .ok R W' ∧ OwnV B W' R (L ++ [x]) ∧ Below B w W' := by
 subst hg0
 obtain ⟨i0, hi, hz0, hz1, hz2⟩ := info_parts infoV
 obtain ⟨R, W', hrun, hown, hg, _⟩ := run_append_own (P := Tryz.prog) (w.alloc (.cells x.cells.toArray 87)) B 24 24 87 i0 _ 3 32 Tryz.underlying24 hi hz0 hz1 hz2 rfl (by decide) v L.length (L.flatMap Vl.cells) (h.alloc _)
  ⟨w.heap.size, 0, none⟩ 1 1 x.cells rfl (fun j u hj => by
    have := (Has.new w 87 x.cells.toArray).cell j
    rw [List.getElem?_toArray] at this
    rw [Addr.add_lit, Nat.zero_add]
    exact this.trans hj) (fun u hu => by simp [Vl.cells] at hu; rcases hu with rfl | rfl | rfl <;> rfl) (by unfold maxLen; omega) (by omega) (by simp; omega)
 refine ⟨R, W', hrun, ?_, ?_⟩
 ·unfold OwnV; rw [List.flatMap_append, List.length_append]; simpa using hown
 ·exact ((Below.refl B w).alloc hB _).grown hg (by simp; omega) fun k hk => (World.ownsRow.lt h k hk).1
theorem OwnV.grown {B : Nat} {w w' : World} {g : Nat} {v : Value} {L : List Vl} (h : OwnV B w v L) (hg : w.grownBy w' (some g)) (hlt : g < B) : OwnV B w' v L := by
 rcases h.2 with ⟨hv, hn⟩ | ⟨p, cap, cur, hv, hp, hh, hc, hcm, hsz, ht⟩
 ·exact ⟨h.1, .inl ⟨hv, hn⟩⟩
 ·exact ⟨h.1, .inr ⟨p, cap, cur, hv, hp, Has.grown (t := 87) (cs := cur) hh hg (by omega), hc, hcm, hsz, ht⟩⟩
theorem ownV_row' {B : Nat} {w : World} {A : Option Addr} {n c : Nat} {L : List Vl} (h : OwnV B w (.slice A n c) L) : VRow w A L := by
 obtain ⟨A2, n2, c2, e, _, _, _, hr, _⟩ := ownV_open h
 injection e with e1 _ _
 rw [e1]; exact hr.out
theorem ownV_nc {B : Nat} {w : World} {A : Option Addr} {n c : Nat} {L : List Vl} (h : OwnV B w (.slice A n c) L) : n ≤ c := by
 obtain ⟨A2, n2, c2, e, _, h3, _⟩ := ownV_open h
 injection e with _ e2 e3
 omega
theorem ownV_lo {B : Nat} {w : World} {A : Option Addr} {n c : Nat} {L : List Vl} (h : OwnV B w (.slice A n c) L) : ∀ a, A = some a → B ≤ a.block := by
 rcases h.2 with ⟨hv, _⟩ | ⟨g, cap, cur, hv, hg, _⟩
 ·injection hv with e1
  intro a e
  rw [e1] at e; cases e
 ·injection hv with e1
  intro a e
  rw [e1] at e
  injection e with e
  rw [← e]; exact hg
theorem readC_true (k : Int) (l : List Nat) (e : Nat) : readC true k l e = (vlNil, l, e) := rfl
theorem readC_one (l : List Nat) (e : Nat) : readC false 1 l e = (⟨1, (byteF l e).1, ⟨#[]⟩⟩, (byteF l e).2) := rfl
theorem readC_two (l : List Nat) (e : Nat) : readC false 2 l e = (⟨2, zag (numF 18446744073709551615 l e).1, ⟨#[]⟩⟩, (numF 18446744073709551615 l e).2) := rfl
theorem readC_three (l : List Nat) (e : Nat) : readC false 3 l e = (⟨3, 0, bs (textF 4096 l e).1⟩, (textF 4096 l e).2) := rfl
theorem readC_four (l : List Nat) (e : Nat) : readC false 4 l e = (⟨4, 0, bs (textF 4096 l e).1⟩, (textF 4096 l e).2) := rfl
set_option maxHeartbeats 4000000 in
theorem iread_any {D : Nat} (g : Nat) (l : List Nat) (e : Nat) (A : Option Addr) (M : List Cl) (n c : Nat) (K : Int) (w : World) (h : RdrD D w g l e) (hgD : g < D) (hD : D ≤ w.heap.size) (hl : ∀ x ∈ l, x < 256) (hb : l.length ≤ 100000) (hM : M.length = n) (h1 : 1 ≤ n) (h8 : n ≤ 8) (hA : CRow w A M) (hk : ∀ x ∈ M, 1 ≤ x.k ∧ x.k ≤ 4) (hT : Tabs w) :
 Calls Tryz.prog 99 #[.pointer (some ⟨g, 0, none⟩), .agg #[.slice A n c, .int .i64 K]] w fun x w' => (∃ A' n' c', x = .returned (.tuple #[.slice A' n' c', .bool (readF M l e).1.isSome]) ∧ Hid (((readF M l e).1.getD []).length = n') ∧ Hid (VRow w' A' ((readF M l e).1.getD [])) ∧ Hid (n' ≤ c' ∧ ∀ a, A' = some a → w.heap.size ≤ a.block)) ∧ Hid (RdrD D w' g (readF M l e).2.1 (readF M l e).2.2) ∧ Hid (w.grownBy w' (some g)) := by
 have HR := Lib.hid h
 have HM := Lib.hid hM
 have HK := Lib.hid hk
 have HTB := Lib.hid hT
 have HB1 := Lib.hid ((Below.refl w.heap.size w).alloc (Nat.le_refl _) (.cells #[.slice A n c, .int .i64 K] 27))
 have HS := Lib.hid (Has.new w 27 #[.slice A n c, .int .i64 K])
 have HR0 := Lib.hid (HR.out.keep hgD (HB1.out.mono hD))
 have HA0 := Lib.hid (hA.below HB1.out)
 have HNU := Lib.hid (nulls_any g l e n (w.alloc (.cells #[.slice A n c, .int .i64 K] 27)) HR0.out hgD (by simp; omega) hl (by omega) h1 h8)
 have HL1 : Hid ((∀ x ∈ (byteF l e).2.1, x < 256) ∧ (byteF l e).2.1.length ≤ 100000) := by
  obtain ⟨j, hj⟩ := byteF_drop l e
  show _ ∧ _
  rw [hj]
  exact ⟨fun x hx => hl x (List.mem_of_mem_drop hx), by rw [List.length_drop]; omega⟩
 have hbl : Hid ((bitsTo (byteF l e).1 8).length = 8) := bitsTo_len _ _
 have HRF : Hid (readF M l e = if ((bitsTo (byteF l e).1 8).drop n).any id = true then (none, (byteF l e).2.1, (byteF l e).2.2)
  else if (readTo M (bitsTo (byteF l e).1 8) (byteF l e).2.1 (byteF l e).2.2 n).2.2 = 0 ∧ fitsF M (readTo M (bitsTo (byteF l e).1 8) (byteF l e).2.1 (byteF l e).2.2 n).1 = true then (some (readTo M (bitsTo (byteF l e).1 8) (byteF l e).2.1 (byteF l e).2.2 n).1, (readTo M (bitsTo (byteF l e).1 8) (byteF l e).2.1 (byteF l e).2.2 n).2)
  else (none, (readTo M (bitsTo (byteF l e).1 8) (byteF l e).2.1 (byteF l e).2.2 n).2)) := by
  show _ = _
  rw [← HM.out]
  rfl
 obtain ⟨RF, hRF⟩ : ∃ x, readF M l e = x := ⟨_, rfl⟩
 rw [hRF] at HRF
 rw [hRF]
 clear hRF
 clear h hM hA hk hT
 go_enter Tryz.func99, Tryz.ntmps99
 go_wp2_with fail
 refine HNU.out.mono ?_
 rintro x w1 ⟨⟨An, cn, rfl, hbr⟩, hd, hg⟩
 have hgl : g < w.heap.size := Nat.lt_of_lt_of_le hgD hD
 have HBR := Lib.hid hbr.out
 have HR1 := Lib.hid hd.out
 have HS1 := Lib.hid (HS.out.grown hg.out (by omega))
 have HA1 := Lib.hid (HA0.out.grown HR0.out.rdr hg.out)
 have HG1 := Lib.hid (grown_trans (grown_below (grown_refl w g) HB1.out) hg.out)
 clear hbr hd hg HNU HS HB1 HA0 HR0
 generalize bitsTo (byteF l e).1 8 = bits at *
 generalize (byteF l e).2.1 = l1 at *
 generalize (byteF l e).2.2 = e1 at *
 obtain ⟨q, hq⟩ : ∃ q, (bits.drop n).any id = q := ⟨_, rfl⟩
 rw [hq]
 rw [hq] at HRF
 clear hq
 have s0 : w1.cell? ⟨w.heap.size, 0, none⟩ = some (.slice A n c) := HS1.out.cell 0
 cases q
 ·rw [if_neg (by simp)] at HRF
  go_wp2_with fail
  refine (kinds_any g _).mono ?_
  rintro x w2 ⟨rfl, hm, hb2⟩
  have HMP := Lib.hid hm.out
  have HG2 := Lib.hid (grown_below HG1.out hb2.out)
  have HS2 := Lib.hid (HS1.out.below hb2.out HS1.out.lt)
  have HA2 := Lib.hid (HA1.out.below hb2.out)
  have HBR2 := Lib.hid (HBR.out.below hb2.out)
  have hsz2 : w.heap.size ≤ w2.heap.size := HG2.out.size
  have hgm : w1.heap.size + 1 < w2.heap.size := by
   rcases Nat.lt_or_ge (w1.heap.size + 1) w2.heap.size with h | h
   ·exact h
   ·have := hm.out; rw [Array.getElem?_eq_none h] at this; cases this
  have hgm2 : g < w1.heap.size + 1 := Nat.lt_succ_of_lt (Nat.lt_of_lt_of_le hgl HG1.out.size)
  have HR2 := Lib.hid (HR1.out.keep hgD (hb2.out.mono (Nat.le_trans hD HG1.out.size)))
  clear hm hb2 HS1 HA1 HBR HR1 HG1 s0
  generalize w1.heap.size + 1 = gm at *
  have s0 : w2.cell? ⟨w.heap.size, 0, none⟩ = some (.slice A n c) := HS2.out.cell 0
  go_wp2_with fail
  go_loopw [8, 30] (fun v i wr => ∃ k : Nat, k ≤ n ∧ i = .int .i64 k ∧ Hid (OwnV w2.heap.size wr v (readTo M bits l1 e1 k).1) ∧ Hid (RdrD D wr g (readTo M bits l1 e1 k).2.1 (readTo M bits l1 e1 k).2.2) ∧ Hid (w2.grownBy wr (some g))) (fun _ i _ => n - (intOf i).toNat)
  case atStart => exact ⟨0, by omega, rfl, ownV_nil _ _, HR2, grown_refl _ _⟩
  case round =>
   obtain ⟨k, hk, rfl, HO, HRk, HGk⟩ := hrel
   obtain ⟨Ao, no, co, rfl, HNO, hnoc, hcom, _, _⟩ := ownV_open HO.out
   have hlk := Lib.hid (readTo_ok M bits l1 e1 k HL1.out.1 HL1.out.2)
   by_cases hlt : k < n
   ·have hkl : k < M.length := by rw [HM.out]; exact hlt
    have HAk := HA2.out.grown HR2.out.rdr HGk.out
    have HBk := HBR2.out.grown HR2.out.rdr HGk.out
    have hmk : wr.heap[gm]? = some (.map (kindsG g) 4) := (HGk.out.block gm hgm (fun e => by injection e with e; omega)).trans HMP.out
    have HMK := Lib.hid hmk
    obtain ⟨b, off, rfl, hc⟩ := HAk (by intro e; rw [e] at hkl; simp at hkl)
    obtain ⟨c0, c1, c2⟩ := hc k hkl
    obtain ⟨bb, bo, rfl, hbc⟩ := HBk (by intro e; have := congrArg List.length e; rw [List.length_take, hbl.out] at this; simp at this; omega)
    have b0 := hbc k (by rw [List.length_take, hbl.out]; omega)
    rw [List.getElem_take] at b0
    have hkd := HK.out M[k] (List.getElem_mem hkl)
    have HRS : Hid (readTo M bits l1 e1 (k + 1) = ((readTo M bits l1 e1 k).1 ++ [(readC (bits[k]'(by rw [hbl.out]; omega)) M[k].k (readTo M bits l1 e1 k).2.1 (readTo M bits l1 e1 k).2.2).1], (readC (bits[k]'(by rw [hbl.out]; omega)) M[k].k (readTo M bits l1 e1 k).2.1 (readTo M bits l1 e1 k).2.2).2)) := by
     show _ = _
     rw [List.getElem_eq_getD false, List.getElem_eq_getD (⟨⟨#[]⟩, 0, false⟩ : Cl)]
     rfl
    clear hc hbc HAk HBk hmk
    generalize (bits[k]'(by rw [hbl.out]; omega)) = bt at *
    generalize M[k] = x at *
    obtain ⟨xa, xb, xc⟩ := x
    simp only at c0 c1 c2 hkd
    have HBC := Lib.hid ((Below.refl wr.heap.size wr).alloc (Nat.le_refl _) (.cells #[.string xa, .int .i64 xb, .bool xc] 29))
    have b1 : (wr.alloc (.cells #[.string xa, .int .i64 xb, .bool xc] 29)).cell? ⟨bb, bo + k, none⟩ = some (.bool bt) := (HBC.out.cell (World.block_lt_of_cell? _ _ b0)).trans b0
    have HXC := Lib.hid (Has.new wr 29 #[.string xa, .int .i64 xb, .bool xc])
    have d1 : (wr.alloc (.cells #[.string xa, .int .i64 xb, .bool xc] 29)).cell? ⟨wr.heap.size, 1, none⟩ = some (.int .i64 xb) := HXC.out.cell 1
    have HLEN := Lib.hid (readTo_len M bits l1 e1 k)
    generalize readTo M bits l1 e1 k = S at *
    obtain ⟨R, lk, ek⟩ := S
    simp only at HO HRk hlk HNO HRS HLEN
    have hkz : (k : Int) < (n : Int) := by omega
    have hk0 : (0 : Int) ≤ (k : Int) := by omega
    cases bt
    ·have hks : xb = 1 ∨ xb = 2 ∨ xb = 3 ∨ xb = 4 := by omega
     rcases hks with rfl | rfl | rfl | rfl
     ·have hlk2 : (Instr.lookup 146 (.map (some gm)) (.int .i64 1) true).run Tryz.prog (wr.alloc (.cells #[.string xa, .int .i64 1, .bool xc] 29)) = .ok (.tuple #[.func (.func 123) #[.agg #[.pointer (some ⟨g, 0, none⟩)]] #[], .bool true]) (wr.alloc (.cells #[.string xa, .int .i64 1, .bool xc] 29)) := lookM (wr.alloc (.cells #[.string xa, .int .i64 1, .bool xc] 29)) gm (kindsG g) 4 ((HBC.out.block gm (Nat.lt_of_lt_of_le hgm HGk.out.size)).trans HMK.out) 1 0 _ rfl
      have HCR := Lib.hid (flag_any g lk ek (wr.alloc (.cells #[.string xa, .int .i64 1, .bool xc] 29)) (HRk.out.keep hgD (HBC.out.mono (Nat.le_trans hD (Nat.le_trans hsz2 HGk.out.size)))) hgD (Nat.le_trans hD (Nat.le_trans hsz2 (Nat.le_trans HGk.out.size HBC.out.size))) hlk.out.1 (by have := hlk.out.2; omega))
      rw [readC_one] at HRS
      go_wp2_with fail
      go_at_call 123
      refine HCR.out.mono ?_
      rintro x w3 ⟨rfl, hd, hg⟩
      have HR3 := Lib.hid hd.out
      have HG3 := Lib.hid hg.out
      have HO3 := Lib.hid (OwnV.grown (HO.out.below HBC.out) hg.out (by omega))
      have HG4 := Lib.hid (grown_trans (grown_below HGk.out HBC.out) hg.out)
      clear hd hg HCR hlk2
      generalize (byteF lk ek).1 = val at *
      have HAP := Lib.hid (appVR w3 w3.heap.size rfl w2.heap.size (.slice Ao no co) R ⟨1, val, ⟨#[]⟩⟩ HO3.out HG4.out.size (by rw [HLEN.out]; omega))
      go_wp2_with (at_builtin; refine wpList_app rfl _ _ 24 24 rfl (.slice Ao no co) (.slice (some ⟨w3.heap.size, 0, none⟩) 1 1) rfl rfl ?_; obtain ⟨R5, W', hrun, hmade⟩ := HAP.out; refine ⟨R5, W', hrun, ?_⟩; have HO5 := Lib.hid hmade.1; have HB5 := Lib.hid hmade.2; clear hrun hmade HAP)
      go_roundw
      case rel => exact ⟨k + 1, by omega, by go_num, by rw [HRS.out]; exact HO5, by rw [HRS.out]; exact HR3.out.keep hgD (HB5.out.mono (Nat.le_trans hD hsz2)), grown_at HG4.out HB5.out⟩
      case measure => simp [intOf]; omega
     ·have hlk2 : (Instr.lookup 146 (.map (some gm)) (.int .i64 2) true).run Tryz.prog (wr.alloc (.cells #[.string xa, .int .i64 2, .bool xc] 29)) = .ok (.tuple #[.func (.func 124) #[.agg #[.pointer (some ⟨g, 0, none⟩)]] #[], .bool true]) (wr.alloc (.cells #[.string xa, .int .i64 2, .bool xc] 29)) := lookM (wr.alloc (.cells #[.string xa, .int .i64 2, .bool xc] 29)) gm (kindsG g) 4 ((HBC.out.block gm (Nat.lt_of_lt_of_le hgm HGk.out.size)).trans HMK.out) 2 1 _ rfl
      have HCR := Lib.hid (whole_any g lk ek (wr.alloc (.cells #[.string xa, .int .i64 2, .bool xc] 29)) (HRk.out.keep hgD (HBC.out.mono (Nat.le_trans hD (Nat.le_trans hsz2 HGk.out.size)))) hgD (Nat.le_trans hD (Nat.le_trans hsz2 (Nat.le_trans HGk.out.size HBC.out.size))) hlk.out.1 (by have := hlk.out.2; omega))
      rw [readC_two] at HRS
      go_wp2_with fail
      go_at_call 124
      refine HCR.out.mono ?_
      rintro x w3 ⟨rfl, hd, hg⟩
      have HR3 := Lib.hid hd.out
      have HG3 := Lib.hid hg.out
      have HO3 := Lib.hid (OwnV.grown (HO.out.below HBC.out) hg.out (by omega))
      have HG4 := Lib.hid (grown_trans (grown_below HGk.out HBC.out) hg.out)
      clear hd hg HCR hlk2
      generalize zag (numF 18446744073709551615 lk ek).1 = val at *
      have HAP := Lib.hid (appVR w3 w3.heap.size rfl w2.heap.size (.slice Ao no co) R ⟨2, val, ⟨#[]⟩⟩ HO3.out HG4.out.size (by rw [HLEN.out]; omega))
      go_wp2_with (at_builtin; refine wpList_app rfl _ _ 24 24 rfl (.slice Ao no co) (.slice (some ⟨w3.heap.size, 0, none⟩) 1 1) rfl rfl ?_; obtain ⟨R5, W', hrun, hmade⟩ := HAP.out; refine ⟨R5, W', hrun, ?_⟩; have HO5 := Lib.hid hmade.1; have HB5 := Lib.hid hmade.2; clear hrun hmade HAP)
      go_roundw
      case rel => exact ⟨k + 1, by omega, by go_num, by rw [HRS.out]; exact HO5, by rw [HRS.out]; exact HR3.out.keep hgD (HB5.out.mono (Nat.le_trans hD hsz2)), grown_at HG4.out HB5.out⟩
      case measure => simp [intOf]; omega
     ·have hlk2 : (Instr.lookup 146 (.map (some gm)) (.int .i64 3) true).run Tryz.prog (wr.alloc (.cells #[.string xa, .int .i64 3, .bool xc] 29)) = .ok (.tuple #[.func (.func 125) #[.agg #[.pointer (some ⟨g, 0, none⟩)]] #[], .bool true]) (wr.alloc (.cells #[.string xa, .int .i64 3, .bool xc] 29)) := lookM (wr.alloc (.cells #[.string xa, .int .i64 3, .bool xc] 29)) gm (kindsG g) 4 ((HBC.out.block gm (Nat.lt_of_lt_of_le hgm HGk.out.size)).trans HMK.out) 3 2 _ rfl
      have HCR := Lib.hid (itext_any g lk ek (wr.alloc (.cells #[.string xa, .int .i64 3, .bool xc] 29)) (HRk.out.keep hgD (HBC.out.mono (Nat.le_trans hD (Nat.le_trans hsz2 HGk.out.size)))) hgD (Nat.le_trans hD (Nat.le_trans hsz2 (Nat.le_trans HGk.out.size HBC.out.size))) hlk.out.1 (by have := hlk.out.2; omega))
      rw [readC_three] at HRS
      go_wp2_with fail
      go_at_call 125
      refine HCR.out.mono ?_
      rintro x w3 ⟨rfl, hd, hg⟩
      have HR3 := Lib.hid hd.out
      have HG3 := Lib.hid hg.out
      have HO3 := Lib.hid (OwnV.grown (HO.out.below HBC.out) hg.out (by omega))
      have HG4 := Lib.hid (grown_trans (grown_below HGk.out HBC.out) hg.out)
      clear hd hg HCR hlk2
      generalize bs (textF 4096 lk ek).1 = val at *
      have HAP := Lib.hid (appVR w3 w3.heap.size rfl w2.heap.size (.slice Ao no co) R ⟨3, 0, val⟩ HO3.out HG4.out.size (by rw [HLEN.out]; omega))
      go_wp2_with (at_builtin; refine wpList_app rfl _ _ 24 24 rfl (.slice Ao no co) (.slice (some ⟨w3.heap.size, 0, none⟩) 1 1) rfl rfl ?_; obtain ⟨R5, W', hrun, hmade⟩ := HAP.out; refine ⟨R5, W', hrun, ?_⟩; have HO5 := Lib.hid hmade.1; have HB5 := Lib.hid hmade.2; clear hrun hmade HAP)
      go_roundw
      case rel => exact ⟨k + 1, by omega, by go_num, by rw [HRS.out]; exact HO5, by rw [HRS.out]; exact HR3.out.keep hgD (HB5.out.mono (Nat.le_trans hD hsz2)), grown_at HG4.out HB5.out⟩
      case measure => simp [intOf]; omega
     ·have hlk2 : (Instr.lookup 146 (.map (some gm)) (.int .i64 4) true).run Tryz.prog (wr.alloc (.cells #[.string xa, .int .i64 4, .bool xc] 29)) = .ok (.tuple #[.func (.func 126) #[.agg #[.pointer (some ⟨g, 0, none⟩)]] #[], .bool true]) (wr.alloc (.cells #[.string xa, .int .i64 4, .bool xc] 29)) := lookM (wr.alloc (.cells #[.string xa, .int .i64 4, .bool xc] 29)) gm (kindsG g) 4 ((HBC.out.block gm (Nat.lt_of_lt_of_le hgm HGk.out.size)).trans HMK.out) 4 3 _ rfl
      have HCR := Lib.hid (blob_any g lk ek (wr.alloc (.cells #[.string xa, .int .i64 4, .bool xc] 29)) (HRk.out.keep hgD (HBC.out.mono (Nat.le_trans hD (Nat.le_trans hsz2 HGk.out.size)))) hgD (Nat.le_trans hD (Nat.le_trans hsz2 (Nat.le_trans HGk.out.size HBC.out.size))) hlk.out.1 (by have := hlk.out.2; omega))
      rw [readC_four] at HRS
      go_wp2_with fail
      go_at_call 126
      refine HCR.out.mono ?_
      rintro x w3 ⟨rfl, hd, hg⟩
      have HR3 := Lib.hid hd.out
      have HG3 := Lib.hid hg.out
      have HO3 := Lib.hid (OwnV.grown (HO.out.below HBC.out) hg.out (by omega))
      have HG4 := Lib.hid (grown_trans (grown_below HGk.out HBC.out) hg.out)
      clear hd hg HCR hlk2
      generalize bs (textF 4096 lk ek).1 = val at *
      have HAP := Lib.hid (appVR w3 w3.heap.size rfl w2.heap.size (.slice Ao no co) R ⟨4, 0, val⟩ HO3.out HG4.out.size (by rw [HLEN.out]; omega))
      go_wp2_with (at_builtin; refine wpList_app rfl _ _ 24 24 rfl (.slice Ao no co) (.slice (some ⟨w3.heap.size, 0, none⟩) 1 1) rfl rfl ?_; obtain ⟨R5, W', hrun, hmade⟩ := HAP.out; refine ⟨R5, W', hrun, ?_⟩; have HO5 := Lib.hid hmade.1; have HB5 := Lib.hid hmade.2; clear hrun hmade HAP)
      go_roundw
      case rel => exact ⟨k + 1, by omega, by go_num, by rw [HRS.out]; exact HO5, by rw [HRS.out]; exact HR3.out.keep hgD (HB5.out.mono (Nat.le_trans hD hsz2)), grown_at HG4.out HB5.out⟩
      case measure => simp [intOf]; omega
    ·rw [readC_true] at HRS
     have HAP := Lib.hid (appVR (wr.alloc (.cells #[.string xa, .int .i64 xb, .bool xc] 29)) (wr.heap.size + 1) (by simp) w2.heap.size (.slice Ao no co) R vlNil (HO.out.below HBC.out) (Nat.le_trans HGk.out.size HBC.out.size) (by rw [HLEN.out]; omega))
     unfold vlNil at HAP
     go_wp2_with (at_builtin; refine wpList_app rfl _ _ 24 24 rfl (.slice Ao no co) (.slice (some ⟨wr.heap.size + 1, 0, none⟩) 1 1) rfl rfl ?_; obtain ⟨R5, W', hrun, hmade⟩ := HAP.out; refine ⟨R5, W', hrun, ?_⟩; have HO5 := Lib.hid hmade.1; have HB5 := Lib.hid hmade.2; clear hrun hmade HAP)
     have HB6 := Lib.hid ((HBC.out.mono HGk.out.size).trans HB5.out)
     go_roundw
     case rel => exact ⟨k + 1, by omega, by go_num, by rw [HRS.out]; exact HO5, by rw [HRS.out]; exact HRk.out.keep hgD (HB6.out.mono (Nat.le_trans hD hsz2)), grown_at HGk.out HB6.out⟩
     case measure => simp [intOf]; omega
   ·obtain rfl : k = n := by omega
    have HFT := Lib.hid (readTo_fit M bits l1 e1 k HL1.out.1 HL1.out.2)
    generalize readTo M bits l1 e1 k = S at *
    obtain ⟨R, lk, ek⟩ := S
    simp only at HO HRk hlk HNO HRF HFT
    have HSk := Lib.hid (HS2.out.grown HGk.out (by omega))
    have HGw : Hid (w.grownBy wr (some g)) := grown_trans HG2.out HGk.out
    have HAk := Lib.hid (HA2.out.grown HR2.out.rdr HGk.out)
    go_wp2_with fail
    refine (Errno_get g lk ek wr HRk.out.rdr).mono ?_
    rintro x w4 ⟨rfl, rfl⟩
    have t0 : wr.cell? ⟨w.heap.size, 0, none⟩ = some (.slice A k c) := HSk.out.cell 0
    have t1 : wr.cell? ⟨w.heap.size, 1, none⟩ = some (.int .i64 K) := HSk.out.cell 1
    by_cases he : ek = 0
    ·subst he
     have hem : ((0 : Nat) : Int) = 0 := rfl
     rw [hem]
     clear hem
     have HTk := Lib.hid (tabs_grown HTB.out HR.out.rdr HGw.out)
     have HCF := Lib.hid (fits_any A M k c K Ao R no co wr HM.out (by omega) HAk.out HNO.out (ownV_row' HO.out) HFT.out HTk.out)
     obtain ⟨qf, hqf⟩ : ∃ x, fitsF M R = x := ⟨_, rfl⟩
     rw [hqf] at HRF HCF
     clear hqf
     go_wp2_with fail
     refine HCF.out.mono ?_
     rintro x w5 ⟨rfl, hb5⟩
     have HO5 := Lib.hid (HO.out.below hb5.out)
     have HR5 := Lib.hid (HRk.out.keep hgD (hb5.out.mono (Nat.le_trans hD HGw.out.size)))
     have HG5 := Lib.hid (grown_below HGw.out hb5.out)
     clear hb5 t0 t1 HCF
     cases qf
     ·have HRF2 : Hid (RF = (none, lk, 0)) := HRF.out.trans (if_neg (by simp))
      clear HRF
      go_wp2_with fail
      go_ret2
      exact ⟨⟨none, 0, 0, by rw [HRF2.out]; rfl, by rw [HRF2.out]; rfl, by rw [HRF2.out]; exact fun h => absurd rfl h, ⟨Nat.le_refl _, fun a e => by cases e⟩⟩, by rw [HRF2.out]; exact HR5, HG5⟩
     ·have HRF2 : Hid (RF = (some R, lk, 0)) := HRF.out.trans (if_pos (by simp))
      clear HRF
      go_wp2_with fail
      go_ret2
      exact ⟨⟨Ao, no, co, by rw [HRF2.out]; rfl, by rw [HRF2.out]; exact HNO, by rw [HRF2.out]; exact ownV_row' HO5.out, ⟨ownV_nc HO5.out, fun a e => Nat.le_trans (by first | omega | exact HG2.out.size) (ownV_lo HO5.out a e)⟩⟩, by rw [HRF2.out]; exact HR5, HG5⟩
    ·have HRF2 : Hid (RF = (none, lk, ek)) := HRF.out.trans (if_neg (fun h => he h.1))
     have he1 : ((ek : Int) != 0) = true := by simp; omega
     have he2 : ((ek : Int) == 0) = false := by simp; omega
     clear HRF
     go_wp2_with fail
     go_ret2
     exact ⟨⟨none, 0, 0, by rw [HRF2.out]; rfl, by rw [HRF2.out]; rfl, by rw [HRF2.out]; exact fun h => absurd rfl h, ⟨Nat.le_refl _, fun a e => by cases e⟩⟩, by rw [HRF2.out]; exact HRk, HGw⟩
 ·have HRF2 : Hid (RF = (none, l1, e1)) := HRF.out.trans (if_pos rfl)
  clear HRF
  go_wp2_with fail
  go_ret2
  exact ⟨⟨none, 0, 0, by rw [HRF2.out]; rfl, by rw [HRF2.out]; rfl, by rw [HRF2.out]; exact fun h => absurd rfl h, ⟨Nat.le_refl _, fun a e => by cases e⟩⟩, by rw [HRF2.out]; exact HR1, HG1⟩
end Go.Proofs.YtnpmgempkoeapaaGreatDoor
