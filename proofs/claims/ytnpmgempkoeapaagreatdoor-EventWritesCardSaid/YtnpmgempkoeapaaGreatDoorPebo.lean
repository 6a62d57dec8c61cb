/-
  Put together, as far as it is used: ImgRM, ImgR5.
-/
import Derived.Test.YtnpmgempkoeapaaGreatDoorPebn
set_option linter.unusedVariables false
set_option linter.unusedSimpArgs false
set_option linter.defProp false
namespace Go.Proofs.YtnpmgempkoeapaaGreatDoor
open Go.RowKit Dg
set_option maxRecDepth 100000
theorem textF_most (most : Int) (s : ByteArray) (hs : s.size ≤ 1000) (hm : (s.size : Int) ≤ most) (rest : List Nat) : textF most (txt s ++ rest) 0 = (sb s, rest, 0) := by
 have hn : s.size < 18446744073709551616 := by omega
 unfold textF txt
 rw [if_neg (by simp), List.append_assoc, head_whole _ s.size _ hn (by omega)]
 simp only
 rw [if_neg (by simp), if_neg (by omega), if_neg]
 ·have h1 : (digs s.size ++ (sb s ++ rest)).drop (digs s.size).length = sb s ++ rest := List.drop_left
  rw [← List.drop_drop, h1]
  have h2 : (sb s ++ rest).take s.size = sb s := by rw [← sb_length s]; exact List.take_left
  have h3 : (sb s ++ rest).drop s.size = rest := by rw [← sb_length s]; exact List.drop_left
  rw [h2, h3]
 ·rw [List.length_append, List.length_append, sb_length]
  omega
theorem nbits_bit : ∀ (R : List Vl) (i : Nat) (h : i < R.length), decide ((nbits R / 2 ^ i) % 2 = 1) = decide (R[i].k = 0)
 | v :: R, 0, _ => by
   simp only [nbits, Nat.pow_zero, Nat.div_one, zC]
   split <;> simp_all <;> omega
 | v :: R, i + 1, h => by
   have e : nbits (v :: R) / 2 ^ (i + 1) = nbits R / 2 ^ i := by
    rw [Nat.pow_succ, Nat.mul_comm, ← Nat.div_div_eq_div_mul]
    congr 1
    simp only [nbits]
    split <;> omega
   rw [e, List.getElem_cons_succ]
   exact nbits_bit R i (by simpa using h)
theorem nbits_high (R : List Vl) (i : Nat) (h : R.length ≤ i) : decide ((nbits R / 2 ^ i) % 2 = 1) = false := by
 have h1 := nbits_lt R
 have h2 : nbits R / 2 ^ i = 0 := Nat.div_eq_of_lt (Nat.lt_of_lt_of_le h1 (Nat.pow_le_pow_right (by omega) h))
 rw [h2]; rfl
theorem nbits_drop (R : List Vl) : ((bitsTo (nbits R) 8).drop R.length).any id = false := by
 rw [List.any_eq_false]
 intro x hx
 obtain ⟨i, hi, rfl⟩ := List.getElem_of_mem hx
 rw [List.getElem_drop]
 unfold bitsTo
 simp only [List.getElem_map, List.getElem_range]
 rw [nbits_high R _ (by omega)]
 simp
theorem bitsTo_get (b i : Nat) (h : i < 8) : (bitsTo b 8).getD i false = decide ((b / 2 ^ i) % 2 = 1) := by
 rw [List.getD_eq_getElem?_getD, List.getElem?_eq_getElem (by rw [bitsTo_len]; exact h)]
 simp [bitsTo]
theorem readV_pl (v : Vl) (rest : List Nat) (h : v.may = true) (hk : v.k ≠ 0) (hf : v.fits) (hs : v.s.size ≤ 1000) : readV v.k (plB v ++ rest) 0 = (v, rest, 0) := by
 obtain ⟨k, n, s⟩ := v
 rcases may_kind h with rfl | rfl | rfl | rfl | rfl
 ·exact absurd rfl hk
 ·simp only [Vl.may, mayF] at h
  simp at h
  obtain ⟨h1, h2⟩ := h
  have z := toList_nil (s := s) (by simpa using h1)
  subst z
  have e : ((n % 256).toNat : Int) = n := by omega
  have e2 : plB ⟨1, n, ⟨#[]⟩⟩ ++ rest = (n % 256).toNat :: rest := rfl
  rw [e2]
  show ((⟨1, ((byteF ((n % 256).toNat :: rest) 0).1 : Int), ⟨#[]⟩⟩ : Vl), (byteF ((n % 256).toNat :: rest) 0).2) = _
  rw [byteF_go]
  simp only [e]
 ·simp only [Vl.may, mayF] at h
  simp at h
  have z := toList_nil (s := s) (by simpa using h)
  subst z
  have hz : zig n < 18446744073709551616 := zig_lt n hf.1.1 hf.1.2.1
  have e2 : plB ⟨2, n, ⟨#[]⟩⟩ ++ rest = digs (zig n) ++ rest := rfl
  rw [e2]
  show ((⟨2, zag (numF 18446744073709551615 (digs (zig n) ++ rest) 0).1, ⟨#[]⟩⟩ : Vl), (numF 18446744073709551615 (digs (zig n) ++ rest) 0).2) = _
  rw [numF_whole _ _ _ hz (by omega)]
  simp only [zag_zig]
 ·simp only [Vl.may, mayF, short] at h
  simp at h
  have e2 : plB ⟨3, n, s⟩ ++ rest = txt s ++ rest := rfl
  rw [e2]
  show ((⟨3, 0, bs (textF 4096 (txt s ++ rest) 0).1⟩ : Vl), (textF 4096 (txt s ++ rest) 0).2) = _
  rw [textF_most 4096 s hs (by simp only at hs; omega), h.1.1]
  simp only [bs_sb]
 ·simp only [Vl.may, mayF, short] at h
  simp at h
  have e2 : plB ⟨4, n, s⟩ ++ rest = txt s ++ rest := rfl
  rw [e2]
  show ((⟨4, 0, bs (textF 4096 (txt s ++ rest) 0).1⟩ : Vl), (textF 4096 (txt s ++ rest) 0).2) = _
  rw [textF_most 4096 s hs (by simp only at hs; omega), h.1]
  simp only [bs_sb]
theorem readTo_img (M : List Cl) (R : List Vl) (more : List Nat) (h : fitsF M R = true) (h8 : M.length ≤ 8) (hfit : ∀ x ∈ R, x.fits) (hsz : ∀ x ∈ R, x.s.size ≤ 1000) : ∀ k, k ≤ M.length →
 readTo M (bitsTo (nbits R) 8) (R.flatMap plB ++ more) 0 k = (R.take k, (R.drop k).flatMap plB ++ more, 0) := fun k => by
 obtain ⟨hl, hat⟩ := fits_at h
 induction k with
 | zero => intro _; simp [readTo]
 | succ k ih =>
   intro hk
   have h1 := ih (by omega)
   have hkR : k < R.length := by omega
   have hkM : k < M.length := by omega
   obtain ⟨hmay, hkind⟩ := hat k hkM hkR
   have hb : (bitsTo (nbits R) 8).getD k false = decide (R[k].k = 0) := by rw [bitsTo_get _ _ (by omega), nbits_bit R k hkR]
   have hm : M.getD k ⟨⟨#[]⟩, 0, false⟩ = M[k] := by rw [List.getD_eq_getElem?_getD, List.getElem?_eq_getElem hkM]; rfl
   have hd : R.drop k = R[k] :: R.drop (k + 1) := List.drop_eq_getElem_cons hkR
   have hrd : readC (decide (R[k].k = 0)) M[k].k ((R.drop k).flatMap plB ++ more) 0 = (R[k], (R.drop (k + 1)).flatMap plB ++ more, 0) := by
    rw [hd, List.flatMap_cons, List.append_assoc]
    by_cases h0 : R[k].k = 0
    ·have hz := may_zero hmay h0
     rw [hz]
     rfl
    ·rw [decide_eq_false h0]
     have hkk : M[k].k = R[k].k := by
      rcases hkind with hx | hx
      ·exact hx.symm
      ·exact absurd hx h0
     show readV M[k].k _ 0 = _
     rw [hkk]
     exact readV_pl _ _ hmay h0 (hfit _ (List.getElem_mem hkR)) (hsz _ (List.getElem_mem hkR))
   show ((readTo M _ _ 0 k).1 ++ [(readC _ _ (readTo M _ _ 0 k).2.1 (readTo M _ _ 0 k).2.2).1], (readC _ _ (readTo M _ _ 0 k).2.1 (readTo M _ _ 0 k).2.2).2) = _
   rw [h1, hb, hm]
   simp only
   rw [hrd, List.take_succ_eq_append_getElem hkR]
theorem read_img (M : List Cl) (R : List Vl) (more : List Nat) (h : fitsF M R = true) (h8 : M.length ≤ 8) (hfit : ∀ x ∈ R, x.fits) (hsz : ∀ x ∈ R, x.s.size ≤ 1000) : readF M (imgF R ++ more) 0 = (some R, more, 0) := by
 obtain ⟨hl, _⟩ := fits_at h
 have hb : byteF (imgF R ++ more) 0 = (nbits R, R.flatMap plB ++ more, 0) := rfl
 have ht := readTo_img M R more h h8 hfit hsz M.length (Nat.le_refl _)
 have hd : R.drop M.length = [] := List.drop_eq_nil_of_le (by omega)
 rw [List.take_of_length_le (by omega), hd] at ht
 unfold readF
 rw [hb]
 simp only
 rw [← hl, nbits_drop, if_neg (by simp), hl, ht]
 simp [h]
set_option maxHeartbeats 4000000 in
theorem ireadKey_any {D : Nat} (g : Nat) (l : List Nat) (e : Nat) (A : Option Addr) (M : List Cl) (n c kk : Nat) (w : World) (h : RdrD D w g l e) (hgD : g < D) (hD : D ≤ w.heap.size) (hl : ∀ x ∈ l, x < 256) (hb : l.length ≤ 100000) (hM : M.length = n) (h1 : 1 ≤ kk) (hkn : kk ≤ n) (hnc : n ≤ c) (h8 : n ≤ 8) (hA : CRow w A M) (hk : ∀ x ∈ M, 1 ≤ x.k ∧ x.k ≤ 4) (hT : Tabs w) :
 Calls Tryz.prog 101 #[.pointer (some ⟨g, 0, none⟩), .agg #[.slice A n c, .int .i64 kk]] w fun x w' => (∃ A' n' c', x = .returned (.tuple #[.slice A' n' c', .bool (readF (M.take kk) l e).1.isSome]) ∧ Hid (((readF (M.take kk) l e).1.getD []).length = n') ∧ Hid (VRow w' A' ((readF (M.take kk) l e).1.getD [])) ∧ Hid (n' ≤ c' ∧ ∀ a, A' = some a → w.heap.size ≤ a.block)) ∧ Hid (RdrD D w' g (readF (M.take kk) l e).2.1 (readF (M.take kk) l e).2.2) ∧ Hid (w.grownBy w' (some g)) := by
 have HR := Lib.hid h
 have HA := Lib.hid hA
 have HTB := Lib.hid hT
 have HC := Lib.hid (fun (W : World) (hbl : Below w.heap.size w W) => iread_any g l e A (M.take kk) kk c kk W (HR.out.keep hgD (hbl.mono hD)) hgD (Nat.le_trans hD hbl.size) hl hb (by rw [List.length_take]; omega) h1 (by omega) ((HA.out.below hbl).take kk) (fun x hx => hk x (List.mem_of_mem_take hx)) (HTB.out.below hbl))
 generalize readF (M.take kk) l e = RF at *
 clear h hA hT hk hl
 go_enter Tryz.func101, Tryz.ntmps101
 go_wp2_with fail
 refine (keyed_any A n c kk _ hkn (by omega) hnc).mono ?_
 rintro x w1 ⟨rfl, hb1⟩
 have HB1 : Hid (Below w.heap.size w w1) := ((Below.refl w.heap.size w).alloc (Nat.le_refl _) _).trans (hb1.out.mono (by simp))
 clear hb1
 go_wp2_with fail
 refine (HC.out w1 HB1.out).mono ?_
 rintro x w2 ⟨⟨A', n', c', rfl, hn', hv, hnc'⟩, hr, hg⟩
 have HNC2 : Hid (n' ≤ c' ∧ ∀ a, A' = some a → w.heap.size ≤ a.block) := ⟨hnc'.out.1, fun a e => Nat.le_trans HB1.out.size (hnc'.out.2 a e)⟩
 have HN2 := Lib.hid hn'.out
 have HV2 := Lib.hid hv.out
 have HR2 := Lib.hid hr.out
 have HG2 := Lib.hid hg.out
 clear hn' hv hr hg HC hnc'
 go_wp2_with fail
 go_ret2
 exact ⟨⟨A', n', c', rfl, HN2, HV2, HNC2⟩, HR2, grown_trans (grown_below (grown_refl w g) HB1.out) HG2.out⟩
theorem VRow.grown {w w' : World} {g : Nat} {l : List Nat} {e : Nat} {A : Option Addr} {L : List Vl} (h : VRow w A L) (hr : Rdr w g l e) (hg : w.grownBy w' (some g)) : VRow w' A L := fun hne => by
 obtain ⟨b, off, ea, hc⟩ := h hne
 have hb : b ≠ g := by
  rintro rfl
  obtain ⟨R, c, hh, _, _⟩ := hr
  have h0 := (hc 0 (List.length_pos_iff.2 hne)).1
  have h1 := (hc 0 (List.length_pos_iff.2 hne)).2.1
  rw [hh.cell] at h0 h1
  generalize off + 0 * 3 = o at h0 h1
  rcases o with _ | _ | o <;> simp at h0 h1
 exact ⟨b, off, ea, fun i hi => ⟨cell_grown hg (hc i hi).1 hb, cell_grown hg (hc i hi).2.1 hb, cell_grown hg (hc i hi).2.2 hb⟩⟩
end Go.Proofs.YtnpmgempkoeapaaGreatDoor
