/-
  What stands behind a change: the program's put.
-/
import Derived.Test.YtiefogofiajmnaaDoorConcC
import Derived.Deep.RegionHeld3
namespace Go.Proofs.YtiefogofiajmnaaDoor
open Go.RowKit Dg
theorem hid_d1 {w W : World} (h : Hid (Below w.heap.size w W)) (o : Obj) : Hid (Below w.heap.size w (W.alloc o).drew) := (h.out.alloc h.out.size o).drew
theorem hid_d2 {w W : World} (h : Hid (Below w.heap.size w W)) (o o' : Obj) : Hid (Below w.heap.size w ((W.alloc o).alloc o').drew) := ((h.out.alloc h.out.size o).alloc (by have := h.out.size; simp; omega) o').drew
theorem keepC {W W' : World} {a : Addr} {v : Value} (hb : Below W.heap.size W W') (h : W.cell? a = some v) : W'.cell? a = some v := (hb.cell (World.block_lt_of_cell? _ _ h)).trans h
theorem CRow.drop {w : World} {b off : Nat} {L : List Cl} (h : CRow w (some ⟨b, off, none⟩) L) (k : Nat) : CRow w (some ⟨b, off + k * 3, none⟩) (L.drop k) := fun hl => by
  obtain ⟨b', off', e, hc⟩ := h (by rintro rfl; simp at hl)
  injection e with e
  injection e with e1 e2
  subst e1 e2
  refine ⟨b, off + k * 3, rfl, fun i hi => ?_⟩
  rw [List.length_drop] at hi
  obtain ⟨h0, h1, h2⟩ := hc (k + i) (by omega)
  rw [List.getElem_drop]
  have e : off + (k + i) * 3 = off + k * 3 + i * 3 := by omega
  rw [e] at h0 h1 h2
  exact ⟨h0, h1, h2⟩
theorem CRow.take {w : World} {A : Option Addr} {L : List Cl} (h : CRow w A L) (k : Nat) : CRow w A (L.take k) := fun hl => by
  obtain ⟨b, off, e, hc⟩ := h (by rintro rfl; simp at hl)
  refine ⟨b, off, e, fun i hi => ?_⟩
  rw [List.length_take] at hi
  rw [List.getElem_take]
  exact hc i (by omega)
theorem CRow.one (w : World) (x : Cl) : CRow (w.alloc (.cells #[.string x.nm, .int .i64 x.k, .bool x.no] 38)) (some ⟨w.heap.size, 0, none⟩) [x] := fun _ => ⟨w.heap.size, 0, rfl, fun i hi => by
  have hh := Has.new w 38 #[.string x.nm, .int .i64 x.k, .bool x.no]
  obtain rfl : i = 0 := by simpa using hi
  exact ⟨hh.cell 0, hh.cell 1, hh.cell 2⟩⟩
set_option maxHeartbeats 2000000 in
theorem putC_call (w : World) (b off : Nat) (L : List Cl) (n c f t m : Nat) (x : Cl) (hn : L.length = n) (hft : f ≤ t) (htn : t ≤ n) (hm : m ≤ 1) (hl : n ≤ 900) (hA : CRow w (some ⟨b, off, none⟩) L) (D : Option Addr) (q r : Nat) (hq : q = n - t) (hkey : ∀ (V : World), CRow V (some ⟨b, off, none⟩) L → CRow V D (L.drop t)) (hD : D ≠ none) (W : World) (hb : Below w.heap.size w W) :
    Calls Tryd.prog 83 #[.slice (some ⟨W.heap.size + 1, 0, none⟩) 3 3] ((W.alloc (.cells #[.string x.nm, .int .i64 x.k, .bool x.no] 38)).alloc (.cells #[.slice (some ⟨b, off, none⟩) f c, .slice (some ⟨W.heap.size, 0, none⟩) m 1, .slice D q r] 26)).drew
      fun e w' => ∃ v, e = .returned v ∧ Hid (OwnC w.heap.size w' v (L.take f ++ List.replicate m x ++ L.drop t)) ∧ Hid (Below w.heap.size w w') ∧ Hid (Below W.heap.size W w') := by
  have hlt : (L.take f).length = f := by rw [List.length_take]; omega
  have hld : (L.drop t).length = n - t := by rw [List.length_drop, hn]
  have hb2 : Below w.heap.size w ((W.alloc (.cells #[.string x.nm, .int .i64 x.k, .bool x.no] 38)).alloc (.cells #[.slice (some ⟨b, off, none⟩) f c, .slice (some ⟨W.heap.size, 0, none⟩) m 1, .slice D q r] 26)).drew :=
    ((hb.alloc hb.size _).alloc (by have := hb.size; simp; omega) _).drew
  have hr := hA.below hb2
  have hh := (Has.new (W.alloc (.cells #[.string x.nm, .int .i64 x.k, .bool x.no] 38)) 26 #[.slice (some ⟨b, off, none⟩) f c, .slice (some ⟨W.heap.size, 0, none⟩) m 1, .slice D q r]).drew
  rw [show (W.alloc (.cells #[.string x.nm, .int .i64 x.k, .bool x.no] 38)).heap.size = W.heap.size + 1 by simp] at hh
  have ho : CRow ((W.alloc (.cells #[.string x.nm, .int .i64 x.k, .bool x.no] 38)).alloc (.cells #[.slice (some ⟨b, off, none⟩) f c, .slice (some ⟨W.heap.size, 0, none⟩) m 1, .slice D q r] 26)).drew (some ⟨W.heap.size, 0, none⟩) (List.replicate m x) := by
    have h1 := (CRow.one W x).below ((Below.refl _ (W.alloc (.cells #[.string x.nm, .int .i64 x.k, .bool x.no] 38))).alloc (Nat.le_refl _) (.cells #[.slice (some ⟨b, off, none⟩) f c, .slice (some ⟨W.heap.size, 0, none⟩) m 1, .slice D q r] 26)).drew
    have e : List.replicate m x = [x].take m := by
      have : m = 0 ∨ m = 1 := by omega
      rcases this with rfl | rfl <;> rfl
    rw [e]; exact h1.take m
  have hcat : catC [(some ⟨b, off, none⟩, L.take f, c), (some ⟨W.heap.size, 0, none⟩, List.replicate m x, 1), (D, L.drop t, r)] 3 = L.take f ++ List.replicate m x ++ L.drop t := by
    simp [catC]
  have hC := concatC_any (W.heap.size + 1) [(some ⟨b, off, none⟩, L.take f, c), (some ⟨W.heap.size, 0, none⟩, List.replicate m x, 1), (D, L.drop t, r)] 3 3 _ rfl (by omega) (fun i hi => by
    have : i = 0 ∨ i = 1 ∨ i = 2 := by simp at hi; omega
    rcases this with rfl | rfl | rfl
    · exact ⟨by rw [hh.cell 0]; simp [hlt], hr.take f, fun e => by cases e⟩
    · exact ⟨by rw [hh.cell 1]; simp, ho, fun e => by cases e⟩
    · exact ⟨by rw [hh.cell 2]; simp [hld, hq], hkey _ hr, fun e => absurd e hD⟩) (by rw [hcat]; simp; omega)
  rw [hcat] at hC
  refine hC.mono ?_
  rintro e w' ⟨v, rfl, ho', hb'⟩
  exact ⟨v, rfl, ownC_down ho'.out hb2.size, hb2.trans (hb'.out.mono hb2.size), ((((Below.refl W.heap.size W).alloc (Nat.le_refl _) _).alloc (by simp) _).drew).trans (hb'.out.mono (by simp; omega))⟩
set_option maxHeartbeats 4000000 in
set_option maxRecDepth 100000 in
theorem putC_any (A : Option Addr) (L : List Cl) (n c f t m : Nat) (x : Cl) (w : World) (hn : L.length = n) (hp : 0 < n) (hnc : n ≤ c) (hcm : c ≤ maxLen) (hft : f ≤ t) (htn : t ≤ n) (hm : m ≤ 1) (hl : n ≤ 900) (hA : CRow w A L) :
    Calls Tryd.prog 59 #[.slice A n c, .agg #[.int .i64 f, .int .i64 t, .int .i64 m], .agg #[.string x.nm, .int .i64 x.k, .bool x.no]] w fun e w' => ∃ v, e = .returned v ∧ Hid (OwnC w.heap.size w' v (L.take f ++ List.replicate m x ++ L.drop t)) ∧ Hid (Below w.heap.size w w') := by
  obtain ⟨b, off, rfl, _⟩ := hA (by rintro rfl; simp at hn; omega)
  have HC0 := Lib.hid (fun D q r hq hk hD W hb => putC_call w b off L n c f t m x hn hft htn hm hl hA D q r hq hk hD W hb)
  have HN := Lib.hid hn
  have HB := Lib.hid (((Below.refl w.heap.size w).alloc (Nat.le_refl _) (.cells #[.int .i64 f, .int .i64 t, .int .i64 m] 88)).alloc (by simp) (.cells #[.string x.nm, .int .i64 x.k, .bool x.no] 38))
  have HX := Lib.hid ((Has.new w 88 #[.int .i64 f, .int .i64 t, .int .i64 m]).alloc (.cells #[.string x.nm, .int .i64 x.k, .bool x.no] 38))
  have hy := Has.new (w.alloc (.cells #[.int .i64 f, .int .i64 t, .int .i64 m] 88)) 38 #[.string x.nm, .int .i64 x.k, .bool x.no]
  rw [show (w.alloc (.cells #[.int .i64 f, .int .i64 t, .int .i64 m] 88)).heap.size = w.heap.size + 1 by simp] at hy
  have HY := Lib.hid hy
  unfold maxLen at hcm
  clear hy hA hn
  obtain ⟨xa, xb, xc⟩ := x
  by_cases hct : c = t
  · obtain rfl := hct.symm
    have hnt : t = n := by omega
    subst hnt
    have HC := Lib.hid (fun W hb => HC0.out (some ⟨b, off, none⟩) 0 0 (by omega) (fun V _ => by rw [List.drop_eq_nil_of_le (Nat.le_of_eq HN.out)]; exact fun h => absurd rfl h) (fun e => by cases e) W hb)
    clear HC0 HN
    go_enter Tryd.func59, Tryd.ntmps59
    go_wp2_with fail
    obtain ⟨W, hW⟩ : ∃ W, W = (w.alloc (.cells #[.int .i64 f, .int .i64 t, .int .i64 m] 88)).alloc (.cells #[.string xa, .int .i64 xb, .bool xc] 38) := ⟨_, rfl⟩
    simp only [← hW] at HB HX HY ⊢
    clear hW
    have d0 := HX.out.drew.cell 0
    have d1 := HX.out.drew.cell 1
    have d2 := HX.out.drew.cell 2
    have e0 := HY.out.drew.cell 0
    have e1 := HY.out.drew.cell 1
    have e2 := HY.out.drew.cell 2
    have hb0 : Hid (Below w.heap.size w W.drew) := HB.out.drew
    simp at d0 d1 d2 e0 e1 e2
    clear HX HY
    have z0 : (0 : Int) ≤ (f : Int) := by omega
    have z1 : (f : Int) ≤ (t : Int) := by omega
    have z2 : (0 : Int) ≤ (t : Int) := by omega
    have z3 : (t : Int) ≤ (t : Int) := by omega
    have z4 : (0 : Int) ≤ (m : Int) := by omega
    have z5 : (m : Int) ≤ 1 := by omega
    go_region_held3 (fun W => Hid (Below w.heap.size w W) ∧ W.cell? ⟨w.heap.size, 0, none⟩ = some (.int .i64 f) ∧ W.cell? ⟨w.heap.size, 1, none⟩ = some (.int .i64 t) ∧ W.cell? ⟨w.heap.size, 2, none⟩ = some (.int .i64 m) ∧ W.cell? ⟨w.heap.size + 1, 0, none⟩ = some (.string xa) ∧ W.cell? ⟨w.heap.size + 1, 1, none⟩ = some (.int .i64 xb) ∧ W.cell? ⟨w.heap.size + 1, 2, none⟩ = some (.bool xc)) ((refine ⟨by first | assumption | exact hid_d1 (by assumption) _ | exact hid_d2 (by assumption) _ _, ?_⟩; go_keep))
      (first | (go_at_call 83; refine (HC.out _ (Hid.out (by assumption))).mono ?_; rintro e x1 ⟨v, rfl, ho, hbw, hbx⟩; have i0 := keepC hbx.out d0; have i1 := keepC hbx.out d1; have i2 := keepC hbx.out d2; have j0 := keepC hbx.out e0; have j1 := keepC hbx.out e1; have j2 := keepC hbx.out e2))
    all_goals
      go_wp2_with fail
      go_ret
      exact ⟨_, rfl, by assumption, by assumption⟩
  · have HC := Lib.hid (fun W hb => HC0.out (some ⟨b, off + t * 3, none⟩) (n - t) (c - t) rfl (fun V hv => hv.drop t) (fun e => by cases e) W hb)
    clear HC0 HN
    go_enter Tryd.func59, Tryd.ntmps59
    go_wp2_with fail
    obtain ⟨W, hW⟩ : ∃ W, W = (w.alloc (.cells #[.int .i64 f, .int .i64 t, .int .i64 m] 88)).alloc (.cells #[.string xa, .int .i64 xb, .bool xc] 38) := ⟨_, rfl⟩
    simp only [← hW] at HB HX HY ⊢
    clear hW
    have d0 := HX.out.drew.cell 0
    have d1 := HX.out.drew.cell 1
    have d2 := HX.out.drew.cell 2
    have e0 := HY.out.drew.cell 0
    have e1 := HY.out.drew.cell 1
    have e2 := HY.out.drew.cell 2
    have hb0 : Hid (Below w.heap.size w W.drew) := HB.out.drew
    simp at d0 d1 d2 e0 e1 e2
    clear HX HY
    have z0 : (0 : Int) ≤ (f : Int) := by omega
    have z1 : (f : Int) ≤ (c : Int) := by omega
    have z2 : (0 : Int) ≤ (t : Int) := by omega
    have z3 : (t : Int) ≤ (n : Int) := by omega
    have z4 : (0 : Int) ≤ (m : Int) := by omega
    have z5 : (m : Int) ≤ 1 := by omega
    go_region_held3 (fun W => Hid (Below w.heap.size w W) ∧ W.cell? ⟨w.heap.size, 0, none⟩ = some (.int .i64 f) ∧ W.cell? ⟨w.heap.size, 1, none⟩ = some (.int .i64 t) ∧ W.cell? ⟨w.heap.size, 2, none⟩ = some (.int .i64 m) ∧ W.cell? ⟨w.heap.size + 1, 0, none⟩ = some (.string xa) ∧ W.cell? ⟨w.heap.size + 1, 1, none⟩ = some (.int .i64 xb) ∧ W.cell? ⟨w.heap.size + 1, 2, none⟩ = some (.bool xc)) ((refine ⟨by first | assumption | exact hid_d1 (by assumption) _ | exact hid_d2 (by assumption) _ _, ?_⟩; go_keep))
      (first | (go_at_call 83; refine (HC.out _ (Hid.out (by assumption))).mono ?_; rintro e x1 ⟨v, rfl, ho, hbw, hbx⟩; have i0 := keepC hbx.out d0; have i1 := keepC hbx.out d1; have i2 := keepC hbx.out d2; have j0 := keepC hbx.out e0; have j1 := keepC hbx.out e1; have j2 := keepC hbx.out e2))
    all_goals
      go_wp2_with fail
      go_ret
      exact ⟨_, rfl, by assumption, by assumption⟩
end Go.Proofs.YtiefogofiajmnaaDoor
