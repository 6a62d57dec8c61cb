/-
  A table's schema; whether tables are the same.
-/
import Derived.Test.YtiefogofiajmnaaDoorMg9
import Derived.Test.YtiefogofiajmnaaDoorMg6
import Derived.Test.YtiefogofiajmnaaDoorFw
import Derived.Test.YtiefogofiajmnaaDoorGmath
namespace Go.Proofs.YtiefogofiajmnaaDoor
open Go.RowKit Dg
set_option maxRecDepth 100000
theorem tfV_yes {T : List Tb} {s : ByteArray} (hp : plF T s = true) (hl : lbN T s < T.length) : tfV T s = .tuple #[.agg #[.slice T[lbN T s].A T[lbN T s].n T[lbN T s].c, .int .i64 T[lbN T s].K], .bool true] := by
  unfold tfV
  obtain ⟨_, h2⟩ := plF_tat hp
  rw [h2, List.getElem?_eq_getElem hl]
theorem tfV_no {T : List Tb} {s : ByteArray} (hS : SortT T) (hp : plF T s = false) : tfV T s = .tuple #[.agg #[.slice none 0 0, .int .i64 0], .bool false] := by
  unfold tfV
  rw [List.getElem?_eq_none (by have := plF_tat' hS hp; omega)]
/-- The columns and the keys that are found under a name. -/
def tfL (T : List Tb) (s : ByteArray) : List Cl := match T[tatN T s]? with | some x => x.L | none => []
def tfK (T : List Tb) (s : ByteArray) : Int := match T[tatN T s]? with | some x => x.K | none => 0
theorem tfL_yes {T : List Tb} {s : ByteArray} (hp : plF T s = true) (hl : lbN T s < T.length) : tfL T s = T[lbN T s].L ∧ tfK T s = T[lbN T s].K := by
  obtain ⟨_, h2⟩ := plF_tat hp
  unfold tfL tfK
  rw [h2, List.getElem?_eq_getElem hl]
  exact ⟨rfl, rfl⟩
theorem tfL_no {T : List Tb} {s : ByteArray} (hS : SortT T) (hp : plF T s = false) : tfL T s = [] ∧ tfK T s = 0 := by
  unfold tfL tfK
  rw [List.getElem?_eq_none (by have := plF_tat' hS hp; omega)]
  exact ⟨rfl, rfl⟩
theorem tfV_row {T : List Tb} {s : ByteArray} {w : World} (hS : SortT T) (hI : TOks w T) : ∃ A n c, tfV T s = .tuple #[.agg #[.slice A n c, .int .i64 (tfK T s)], .bool (plF T s)] ∧ (tfL T s).length = n ∧ n ≤ 900 ∧ CRow w A (tfL T s) := by
  rcases hp : plF T s with _ | _
  · obtain ⟨h1, h2⟩ := tfL_no hS hp
    rw [tfV_no hS hp, h1, h2]
    exact ⟨none, 0, 0, rfl, rfl, by omega, fun h => absurd rfl h⟩
  · have hl := plF_lt hp
    obtain ⟨h1, h2⟩ := tfL_yes hp hl
    rw [tfV_yes hp hl, h1, h2]
    have hx := hI _ (List.getElem_mem hl)
    exact ⟨_, _, _, rfl, hx.len, hx.few, hx.row⟩
set_option maxHeartbeats 2000000 in
theorem pfind_any (A : Option Addr) (T : List Tb) (n c : Nat) (s : ByteArray) (w : World) (hn : T.length = n) (hl : n ≤ 1000) (hA : TRow w A T) (hS : SortT T) :
    Calls Tryd.prog 25 #[.slice A n c, .string s] w fun e w' => e = .returned (tfV T s) ∧ Hid (Below w.heap.size w w') := by
  have HG := Lib.hid (Has.new w 28 #[.slice none 0 0, .int .i64 0])
  have HB := Lib.hid ((Below.refl w.heap.size w).alloc (Nat.le_refl _) (.cells #[.slice none 0 0, .int .i64 0] 28))
  have HC := Lib.hid (fun (W : World) (hb : Below w.heap.size w W) => place_any A T n c s W hn hl (hA.below hb) hS)
  have HN := Lib.hid hn
  have HA := Lib.hid hA
  have HS := Lib.hid hS
  clear hn hA hS
  go_enter Tryd.func25, Tryd.ntmps25
  go_wp2_with fail
  refine (HC.out _ HB.out).mono ?_
  rintro e w1 ⟨rfl, hb1⟩
  have HG1 := Lib.hid (HG.out.below hb1.out HG.out.lt)
  have HB1 := Lib.hid (HB.out.trans (hb1.out.mono HB.out.size))
  have f0 := HG1.out.free 0
  have f1 := HG1.out.free 1
  have g0 : w1.cell? ⟨w.heap.size, 0, none⟩ = some (.slice none 0 0) := HG1.out.cell 0
  have g1 : w1.cell? ⟨w.heap.size, 1, none⟩ = some (.int .i64 0) := HG1.out.cell 1
  clear hb1 HC HG HB
  rcases hp : plF T s with _ | _
  · have HV := Lib.hid (tfV_no HS.out hp)
    have HR := Lib.hid ((HG1.out.put 0 (.slice none 0 0)).put 1 (.int .i64 0))
    go_wp2_with fail
    exact bodyPost_ret (schEnd6 rfl _ w.heap.size _ _ _ rfl HR.out) rfl ⟨by rw [HV.out]; rfl, (HB1.out.setCell (by show w.heap.size ≤ w.heap.size; omega) _).setCell (by show w.heap.size ≤ w.heap.size; omega) _⟩
  · have hk := plF_lt hp
    have HV := Lib.hid (tfV_yes hp hk)
    obtain ⟨b, off, rfl, hc⟩ := (HA.out.below HB1.out) (by intro e; rw [e] at hk; simp at hk)
    obtain ⟨c0, c1, c2⟩ := hc _ hk
    have hkz : ((lbN T s : Nat) : Int) < (n : Int) := by rw [← HN.out]; omega
    clear hc c0
    obtain ⟨k, hkk⟩ : ∃ k, lbN T s = k := ⟨_, rfl⟩
    simp only [hkk] at c1 c2 hkz HV ⊢
    generalize T[k]'(by rw [← hkk]; exact hk) = x at *
    obtain ⟨xs, xA, xn, xc, xL, xK⟩ := x
    simp only at c1 c2 HV
    have HR := Lib.hid ((HG1.out.put 0 (.slice xA xn xc)).put 1 (.int .i64 xK))
    go_wp2_with fail
    exact bodyPost_ret (schEnd6 rfl _ w.heap.size _ _ _ rfl HR.out) rfl ⟨by rw [HV.out]; rfl, (HB1.out.setCell (by show w.heap.size ≤ w.heap.size; omega) _).setCell (by show w.heap.size ≤ w.heap.size; omega) _⟩
set_option maxHeartbeats 2000000 in
theorem pFind_any (A : Option Addr) (T : List Tb) (n c : Nat) (s : ByteArray) (w : World) (hn : T.length = n) (hl : n ≤ 1000) (hA : TRow w A T) (hI : TOks w T) (hS : SortT T) :
    Calls Tryd.prog 10 #[.slice A n c, .string s] w fun e w' => ∃ v, e = .returned (.tuple #[.agg #[v, .int .i64 (tfK T s)], .bool (plF T s)]) ∧ Hid (OwnC w.heap.size w' v (tfL T s)) ∧ Hid (Below w.heap.size w w') := by
  have HG := Lib.hid (Has.new w 28 #[.slice none 0 0, .int .i64 0])
  have HB := Lib.hid ((Below.refl w.heap.size w).alloc (Nat.le_refl _) (.cells #[.slice none 0 0, .int .i64 0] 28))
  have HC := Lib.hid (fun (W : World) (hb : Below w.heap.size w W) => pfind_any A T n c s W hn hl (hA.below hb) hS)
  have HI := Lib.hid hI
  have HS := Lib.hid hS
  clear hn hA hS hI
  go_enter Tryd.func10, Tryd.ntmps10
  go_wp2_with fail
  refine (HC.out _ HB.out).mono ?_
  rintro e w1 ⟨rfl, hb1⟩
  have HG1 := Lib.hid (HG.out.below hb1.out HG.out.lt)
  have HB1 := Lib.hid (HB.out.trans (hb1.out.mono HB.out.size))
  have HI1 := Lib.hid (HI.out.below HB1.out)
  clear hb1 HC HG HB HI
  rcases hp : plF T s with _ | _
  · obtain ⟨hL, hK⟩ := tfL_no HS.out hp
    rw [tfV_no HS.out hp]
    have HL := Lib.hid hL
    have HK := Lib.hid hK
    clear hL hK
    have HBa := Lib.hid ((Below.refl w1.heap.size w1).alloc (Nat.le_refl _) (.cells #[.slice none 0 0, .int .i64 0] 28))
    have HCL := Lib.hid (clone4_any none [] 0 0 0 (w1.alloc (.cells #[.slice none 0 0, .int .i64 0] 28)) rfl (by omega) (fun h => absurd rfl h) (fun _ => rfl))
    go_wp2_with fail
    refine HCL.out.mono ?_
    rintro e w2 ⟨v, rfl, ho, hb2⟩
    have HGa := Lib.hid (HG1.out.below HBa.out HG1.out.lt)
    have HBb := Lib.hid (HB1.out.trans (HBa.out.mono HB1.out.size))
    have HG2 := Lib.hid (HGa.out.below hb2.out HGa.out.lt)
    have HB2 := Lib.hid (HBb.out.trans (hb2.out.mono HBb.out.size))
    obtain ⟨A8, n8, c8, rfl, _, _, _, _, _⟩ := ownC_open ho.out
    have HR := Lib.hid ((HG2.out.put 0 (.slice A8 n8 c8)).put 1 (.int .i64 0))
    have HO := Lib.hid (OwnC.far (OwnC.far (ownC_down ho.out (B' := w.heap.size + 1) HGa.out.lt) (p := ⟨w.heap.size, 0, none⟩) (by show w.heap.size < _; omega) (.slice A8 n8 c8)) (p := ⟨w.heap.size, 1, none⟩) (by show w.heap.size < _; omega) (.int .i64 0))
    have f0 := HG2.out.free 0
    have f1 := HG2.out.free 1
    have g0 : w2.cell? ⟨w.heap.size, 0, none⟩ = some (.slice none 0 0) := HG2.out.cell 0
    have g1 : w2.cell? ⟨w.heap.size, 1, none⟩ = some (.int .i64 0) := HG2.out.cell 1
    clear ho hb2 HG1 HGa HBb HBa HCL
    go_wp2_with fail
    exact bodyPost_ret (schEnd6 rfl _ w.heap.size _ _ _ rfl HR.out) rfl ⟨_, by rw [HK.out, hp]; rfl, by rw [HL.out]; exact ownC_down HO.out (by omega), (HB2.out.setCell (by show w.heap.size ≤ w.heap.size; omega) _).setCell (by show w.heap.size ≤ w.heap.size; omega) _⟩
  · have hk := plF_lt hp
    obtain ⟨hL, hK⟩ := tfL_yes hp hk
    rw [tfV_yes hp hk]
    have HL := Lib.hid hL
    have HK := Lib.hid hK
    clear hL hK
    have hx := HI1.out T[lbN T s] (List.getElem_mem hk)
    generalize T[lbN T s] = x at *
    obtain ⟨xs, xA, xn, xc, xL, xK⟩ := x
    have HBa := Lib.hid ((Below.refl w1.heap.size w1).alloc (Nat.le_refl _) (.cells #[.slice xA xn xc, .int .i64 xK] 28))
    have HCL := Lib.hid (clone4_any xA xL xn xc xK (w1.alloc (.cells #[.slice xA xn xc, .int .i64 xK] 28)) hx.len hx.few (hx.row.below HBa.out) hx.nil)
    clear hx
    go_wp2_with fail
    refine HCL.out.mono ?_
    rintro e w2 ⟨v, rfl, ho, hb2⟩
    have HGa := Lib.hid (HG1.out.below HBa.out HG1.out.lt)
    have HBb := Lib.hid (HB1.out.trans (HBa.out.mono HB1.out.size))
    have HG2 := Lib.hid (HGa.out.below hb2.out HGa.out.lt)
    have HB2 := Lib.hid (HBb.out.trans (hb2.out.mono HBb.out.size))
    obtain ⟨A8, n8, c8, rfl, _, _, _, _, _⟩ := ownC_open ho.out
    have HR := Lib.hid ((HG2.out.put 0 (.slice A8 n8 c8)).put 1 (.int .i64 xK))
    have HO := Lib.hid (OwnC.far (OwnC.far (ownC_down ho.out (B' := w.heap.size + 1) HGa.out.lt) (p := ⟨w.heap.size, 0, none⟩) (by show w.heap.size < _; omega) (.slice A8 n8 c8)) (p := ⟨w.heap.size, 1, none⟩) (by show w.heap.size < _; omega) (.int .i64 xK))
    have f0 := HG2.out.free 0
    have f1 := HG2.out.free 1
    have g0 : w2.cell? ⟨w.heap.size, 0, none⟩ = some (.slice none 0 0) := HG2.out.cell 0
    have g1 : w2.cell? ⟨w.heap.size, 1, none⟩ = some (.int .i64 0) := HG2.out.cell 1
    clear ho hb2 HG1 HGa HBb HBa HCL
    go_wp2_with fail
    exact bodyPost_ret (schEnd6 rfl _ w.heap.size _ _ _ rfl HR.out) rfl ⟨_, by rw [HK.out, hp]; rfl, by rw [HL.out]; exact ownC_down HO.out (by omega), (HB2.out.setCell (by show w.heap.size ≤ w.heap.size; omega) _).setCell (by show w.heap.size ≤ w.heap.size; omega) _⟩
end Go.Proofs.YtiefogofiajmnaaDoor
namespace Go.Proofs.YtiefogofiajmnaaDoor
open Go.RowKit Dg
set_option maxRecDepth 100000
theorem lbD_is {D : List Td} {s : ByteArray} {k : Nat} (hk : k < D.length) (h1 : ∀ t (ht : t < k), Op.bytesLess (D[t]'(by omega)).nm.toList s.toList = true) (h2 : Op.bytesLess D[k].nm.toList s.toList = false) : lbD D s = k := by
  unfold lbD
  rw [List.findIdx_eq hk]
  exact ⟨by rw [h2]; rfl, fun j hj => by rw [h1 j hj]; rfl⟩
theorem ins_get (D : List Td) (x : Td) (k : Nat) (hk : k ≤ D.length) : (D.take k ++ [x] ++ D.drop k).length = D.length + 1 ∧ ∀ (h : k < (D.take k ++ [x] ++ D.drop k).length), (D.take k ++ [x] ++ D.drop k)[k] = x := by
  refine ⟨by simp; omega, fun h => ?_⟩
  rw [List.getElem_append_left (by simp; omega), List.getElem_append_right (by simp; omega)]
  simp
theorem ins_lb (D : List Td) (x : Td) : lbD (D.take (lbD D x.nm) ++ [x] ++ D.drop (lbD D x.nm)) x.nm = lbD D x.nm ∧ plD (D.take (lbD D x.nm) ++ [x] ++ D.drop (lbD D x.nm)) x.nm = true := by
  have hle : lbD D x.nm ≤ D.length := List.findIdx_le_length
  obtain ⟨h1, h2⟩ := ins_get D x (lbD D x.nm) hle
  have hk : lbD D x.nm < (D.take (lbD D x.nm) ++ [x] ++ D.drop (lbD D x.nm)).length := by omega
  have e : lbD (D.take (lbD D x.nm) ++ [x] ++ D.drop (lbD D x.nm)) x.nm = lbD D x.nm := by
    refine lbD_is hk (fun t ht => ?_) (by rw [h2 hk]; exact less_irrefl _)
    rw [List.getElem_append_left (by simp; omega), List.getElem_append_left (by simp; omega), List.getElem_take]
    have := List.not_of_lt_findIdx (xs := D) (p := fun y => !Op.bytesLess y.nm.toList x.nm.toList) ht
    simpa using this
  refine ⟨e, ?_⟩
  unfold plD
  rw [e, List.getElem?_eq_getElem hk, h2 hk]
  simp
theorem ins_del (D : List Td) (x : Td) (k : Nat) (hk : k ≤ D.length) : (D.take k ++ [x] ++ D.drop k).take k ++ (D.take k ++ [x] ++ D.drop k).drop (k + 1) = D := by
  have hl : (D.take k).length = k := by rw [List.length_take]; omega
  have hl1 : (D.take k ++ [x]).length = k + 1 := by simp; omega
  rw [List.take_append_of_le_length (by omega), List.take_append_of_le_length (by omega), List.take_of_length_le (by omega), List.drop_append_of_le_length (by omega), List.drop_of_length_le (by omega), List.nil_append, List.take_append_drop]
set_option maxHeartbeats 2000000 in
theorem rst_any (A : Option Addr) (T : List Tb) (n c : Nat) (A' : Option Addr) (T' : List Tb) (n' c' : Nat) (w : World) (hn : T.length = n) (hn' : T'.length = n') (hl : n ≤ 900) (hA : TRow w A T) (hA' : TRow w A' T') (hI : TOks w T) (hI' : TOks w T') (he : tds T = tds T') :
    Calls Tryd.prog 20 #[.slice A n c, .slice A' n' c'] w fun e w' => e = .returned (.bool true) ∧ Hid (Below w.heap.size w w') := by
  obtain rfl : n' = n := by rw [← hn, ← hn', ← tds_len, ← tds_len, he]
  have HN := Lib.hid hn
  have HN' := Lib.hid hn'
  have HA := Lib.hid hA
  have HA' := Lib.hid hA'
  have HI := Lib.hid hI
  have HI' := Lib.hid hI'
  have HE := Lib.hid he
  clear hn hn' hA hA' hI hI' he
  go_enter Tryd.func20, Tryd.ntmps20
  go_wp2_with fail
  go_loopw [5] (fun i wr => ∃ k : Nat, k ≤ n' ∧ i = .int .i64 k ∧ Hid (Below w.heap.size w wr)) (fun i _ => n' - (intOf i).toNat)
  case atStart => exact ⟨0, by omega, rfl, Below.refl _ _⟩
  case round =>
    obtain ⟨k, hk, rfl, HB⟩ := hrel
    by_cases hlt : k < n'
    · have hkl : k < T.length := by rw [HN.out]; exact hlt
      have hkl' : k < T'.length := by rw [HN'.out]; exact hlt
      obtain ⟨b, off, rfl, hc⟩ := (HA.out.below HB.out) (by intro e; rw [e] at hkl; simp at hkl)
      obtain ⟨b', off', rfl, hc'⟩ := (HA'.out.below HB.out) (by intro e; rw [e] at hkl'; simp at hkl')
      obtain ⟨c0, c1, c2⟩ := hc k hkl
      obtain ⟨d0, d1, d2⟩ := hc' k hkl'
      have hx := HI.out T[k] (List.getElem_mem hkl)
      have hx' := HI'.out T'[k] (List.getElem_mem hkl')
      have htd : T[k].td = T'[k].td := by rw [← tds_get T k hkl, ← tds_get T' k hkl']; simp only [HE.out]
      have hkz : (k : Int) < (n' : Int) := by omega
      clear hc hc'
      generalize T[k] = x at *
      generalize T'[k] = y at *
      obtain ⟨xs, xA, xn, xc, xL, xK⟩ := x
      obtain ⟨ys, yA, yn, yc, yL, yK⟩ := y
      simp only [Tb.td, Td.mk.injEq] at htd
      obtain ⟨rfl, rfl, rfl⟩ := htd
      simp only at c0 c1 c2 d0 d1 d2
      have hl1 : xL.length = xn := hx.len
      have hl2 : xL.length = yn := hx'.len
      have hf1 : xn ≤ 900 := hx.few
      have HSM := Lib.hid (fun (W : World) (hb : Below w.heap.size w W) => rsame_any xA xL xn xc xK yA xL yn yc xK W hl1 hl2 (by omega) (by omega) (hx.row.below hb) (hx'.row.below hb))
      have hb0 : Hid (Below w.heap.size w wr.drew) := HB.out.drew
      have e0 : wr.drew.cell? ⟨b, off + k * 3, none⟩ = some (.string xs) := c0
      have e1 : wr.drew.cell? ⟨b, off + k * 3 + 1, none⟩ = some (.slice xA xn xc) := c1
      have e2 : wr.drew.cell? ⟨b, off + k * 3 + 2, none⟩ = some (.int .i64 xK) := c2
      have e3 : wr.drew.cell? ⟨b', off' + k * 3, none⟩ = some (.string xs) := d0
      have e4 : wr.drew.cell? ⟨b', off' + k * 3 + 1, none⟩ = some (.slice yA yn yc) := d1
      have e5 : wr.drew.cell? ⟨b', off' + k * 3 + 2, none⟩ = some (.int .i64 xK) := d2
      clear hx hx' hl1 hl2
      go_wp2_with fail
      clear c0 c1 c2 d0 d1 d2
      go_region_held3 (fun X => Hid (Below w.heap.size w X) ∧ X.cell? ⟨b, off + k * 3, none⟩ = some (.string xs) ∧ X.cell? ⟨b, off + k * 3 + 1, none⟩ = some (.slice xA xn xc) ∧ X.cell? ⟨b, off + k * 3 + 2, none⟩ = some (.int .i64 xK) ∧ X.cell? ⟨b', off' + k * 3, none⟩ = some (.string xs) ∧ X.cell? ⟨b', off' + k * 3 + 1, none⟩ = some (.slice yA yn yc) ∧ X.cell? ⟨b', off' + k * 3 + 2, none⟩ = some (.int .i64 xK)) ((refine ⟨by assumption, ?_⟩; go_keep))
        (first | (go_at_call 12; refine (HSM.out _ (Hid.out (by assumption))).mono ?_; rintro e w1 ⟨rfl, hb1⟩; rw [ssF_refl]; have HB1 : Hid (Below w.heap.size w w1) := hb0.out.trans (hb1.out.mono hb0.out.size); have i0 := keepC hb1.out e0; have i1 := keepC hb1.out e1; have i2 := keepC hb1.out e2; have i3 := keepC hb1.out e3; have i4 := keepC hb1.out e4; have i5 := keepC hb1.out e5; clear hb1))
      all_goals
        go_wp2_with fail
        go_region
        all_goals
          go_wp2_with fail
          go_roundw
          case rel => exact ⟨k + 1, by omega, by go_num, HB1.out.drew⟩
          case measure => simp [intOf]; omega
    · obtain rfl : k = n' := by omega
      have hkz : ¬ (k : Int) < (k : Int) := by omega
      go_wp2_with fail
      go_ret
      exact ⟨rfl, HB⟩
end Go.Proofs.YtiefogofiajmnaaDoor
