/-
  A change of its table spoils a window, one of another doesn't: the law's walk.
-/
import Derived.Test.YtcdjeibcnkpadaaDoorWnH
import Derived.Test.YtcdjeibcnkpadaaDoorWxO
import Derived.Test.YtcdjeibcnkpadaaDoorGood4
namespace Go.Proofs.YtcdjeibcnkpadaaDoor.windowSpoils
open Go.RowKit Go.Maps Dg
set_option maxRecDepth 100000
set_option linter.unusedVariables false
/-- An event, as it lies. -/
structure Ee where
  k : Int
  n : Int
  t : ByteArray
  Ab : Option Addr
  nb : Nat
  zb : Nat
  B : List Vl
  Aa : Option Addr
  na : Nat
  za : Nat
  Af : List Vl
  ck : Int
  ct : ByteArray
  Ac : Option Addr
  nc : Nat
  zc : Nat
  K : Int
  cn : ByteArray
  cq : Int
  cb : Bool
def Ee.row (r : Ee) : List Value := [.int .i64 r.k, .int .i64 r.n, .string r.t, .slice r.Ab r.nb r.zb, .slice r.Aa r.na r.za, .int .i64 r.ck, .string r.ct, .slice r.Ac r.nc r.zc, .int .i64 r.K, .string r.cn, .int .i64 r.cq, .bool r.cb]
structure EvIn (w : World) (A : Option Addr) (T : List Ee) : Prop where
  cells : T ≠ [] → ∃ b off, A = some ⟨b, off, none⟩ ∧ ∀ i (h : i < T.length), ∀ j, j < 12 → w.cell? ⟨b, off + i * 12 + j, none⟩ = T[i].row[j]?
  rows : ∀ r ∈ T, RwAt w r.Ab r.nb r.zb r.B ∧ RwAt w r.Aa r.na r.za r.Af
theorem EvIn.below {w w' : World} {A : Option Addr} {T : List Ee} (h : EvIn w A T) (hb : Below w.heap.size w w') : EvIn w' A T :=
  ⟨fun hne => by
    obtain ⟨b, off, e, hc⟩ := h.cells hne
    refine ⟨b, off, e, fun i hi j hj => ?_⟩
    have h1 := hc i hi j hj
    obtain ⟨v, hv⟩ : ∃ v, T[i].row[j]? = some v := ⟨T[i].row[j]'(by simpa [Ee.row] using hj), List.getElem?_eq_getElem _⟩
    rw [hv] at h1
    rw [hv, hb.cell (World.block_lt_of_cell? w _ h1), h1], fun r hr => ⟨(h.rows r hr).1.below hb, (h.rows r hr).2.below hb⟩⟩
theorem goodS_sch {M : List Cl} {k : Nat} (h : GoodS M k) : Sch M k := ⟨⟨h.len.1, by have := h.len.2; omega⟩, ⟨h.keys.1, h.keys.2.1, by have := h.keys.2.2; omega⟩, h.none⟩
theorem goodS_cols {M : List Cl} {k : Nat} (h : GoodS M k) : ColsOk M := ⟨fun x hx => (goodS_fit M k h x hx).2.2.2, fun x hx => ⟨(goodS_fit M k h x hx).2.1, (goodS_fit M k h x hx).2.2.1⟩⟩
theorem rowsR_ok {M : List Cl} {k : Nat} (h : GoodS M k) (L : List (List Vl)) : (∀ r ∈ rowsR M k L, fitsF M r = true ∧ r.length ≤ 16) := fun r hr => by
  obtain ⟨v, _, rfl⟩ := rowsR_mem r hr
  have hf := rowF_fits M v (goodS_cols h).kind
  exact ⟨hf, by rw [fits_len hf]; have := h.len.2; omega⟩
theorem open_ok {M : List Cl} {k : Nat} (h : GoodS M k) (L : List (List Vl)) (hl : L.length ≤ 5) : openE (aShut 9) 1 tT M k ⟨#[]⟩ (rowsR M k L) = 0 := by
  have h1 := rowsR_len M k L
  have hs : stdF M k ⟨#[]⟩ (rowsR M k L) = true := std_rises (fun r hr => (rowsR_ok h L r hr).1) (rowsR_rises _ _ _) (fun r hr => key_pos (goodS_sch h) (goodS_cols h) (rowsR_ok h L r hr).1)
  have h2 : argF (aShut 9) 1 tT M k (rowsR M k L) = true := by
    unfold argF
    rw [show nameF tT = true by decide +kernel, goodS_may M k h]
    have : decide ((aShut 9).sz < ((rowsR M k L).length : Int)) = false := decide_eq_false (by show ¬ ((9 : Int) < _); omega)
    rw [this]
    rfl
  unfold openE
  rw [h2, show (k : Int).toNat = k from rfl, hs]
  rfl
theorem take_u {a : Wa} {k : Nat} (h1 : a.num = 1) (h2 : a.sp = false) (h3 : a.tbl = tT) : takeA a k 6 ⟨#[]⟩ ⟨#[117]⟩ [] [] = a ∧ takeE a k 6 ⟨#[]⟩ ⟨#[117]⟩ [] [] = 0 := by
  unfold takeA takeE
  rw [h1, h2, h3, show ((1 : Int) == -1 || false) = false by rfl, show ((6 : Int) == 6 && sameS ⟨#[117]⟩ tT) = false by decide +kernel, show sameS ⟨#[]⟩ tT = false by decide +kernel]
  exact ⟨rfl, rfl⟩
theorem take_t {a : Wa} {k : Nat} (h1 : a.num = 1) (h2 : a.sp = false) (h3 : a.tbl = tT) : takeA a k 6 ⟨#[]⟩ ⟨#[116]⟩ [] [] = spoilA a ∧ takeE a k 6 ⟨#[]⟩ ⟨#[116]⟩ [] [] = 0 := by
  unfold takeA takeE
  rw [h1, h2, h3, show ((1 : Int) == -1 || false) = false by rfl, show ((6 : Int) == 6 && sameS ⟨#[116]⟩ tT) = true by decide +kernel]
  exact ⟨rfl, rfl⟩
theorem take_sp {a : Wa} {k : Nat} (h2 : a.sp = true) (ek : Int) (t ct : ByteArray) (B Af : List Vl) : takeA a k ek t ct B Af = a ∧ takeE a k ek t ct B Af = 0 := by
  unfold takeA takeE
  rw [h2, show (a.num == -1 || true) = true by simp]
  exact ⟨rfl, rfl⟩
set_option maxHeartbeats 8000000 in
theorem walk (A : Option Addr) (n c : Nat) (L : List Cl) (K : Int) (Av : Option Addr) (nv cv : Nat) (Sv : List Sl) (Lv : List (List Vl)) (ck : Int) (tn : ByteArray) (Ac : Option Addr) (nc zc : Nat) (Kc : Int) (cn : ByteArray) (cq : Int) (cb : Bool) (Ae : Option Addr) (ne ce : Nat) (Te : List Ee) (w : World)
    (hn : L.length = n) (hnc : n ≤ c) (hcm : c ≤ maxLen) (hA : CRow w A L) (hf : ∀ x ∈ L, x.fit) (hk0 : -9223372036854775808 ≤ K) (hk1 : K ≤ 9223372036854775807)
    (hV : VsIn w Av nv cv Sv Lv) (hne : Te.length = ne) (hce : ne ≤ ce) (hE : EvIn w Ae Te) (hT : Tabs w) :
    Calls Tryd.prog 7 #[.agg #[.slice A n c, .int .i64 K], .slice Av nv cv, .agg #[.int .i64 ck, .string tn, .slice Ac nc zc, .int .i64 Kc, .string cn, .int .i64 cq, .bool cb], .slice Ae ne ce] w fun e w' => e = .returned (.bool true) ∧ Below w.heap.size w w' := by
  have HT0 := Lib.hid hT
  have HV0 := Lib.hid hV
  have HE0 := Lib.hid hE
  have HNE := Lib.hid hne
  have HA0 := Lib.hid (And.intro hA hf)
  clear hT hV hE hA hf
  go_enter Tryd.func7, Tryd.ntmps7
  go_wp2_with fail
  have HB1a : Hid (Below w.heap.size w ((w.alloc (.cells #[.slice A n c, .int .i64 K] 24)).alloc (.cells #[.int .i64 ck, .string tn, .slice Ac nc zc, .int .i64 Kc, .string cn, .int .i64 cq, .bool cb] 49))) := ((Below.refl _ w).alloc (Nat.le_refl _) _).alloc (by simp) _
  have HC1a : Hid (Has ((w.alloc (.cells #[.slice A n c, .int .i64 K] 24)).alloc (.cells #[.int .i64 ck, .string tn, .slice Ac nc zc, .int .i64 Kc, .string cn, .int .i64 cq, .bool cb] 49)) (w.heap.size + 1) 49 #[.int .i64 ck, .string tn, .slice Ac nc zc, .int .i64 Kc, .string cn, .int .i64 cq, .bool cb]) := by
    have := Has.new (w.alloc (.cells #[.slice A n c, .int .i64 K] 24)) 49 #[.int .i64 ck, .string tn, .slice Ac nc zc, .int .i64 Kc, .string cn, .int .i64 cq, .bool cb]
    rw [show (w.alloc (.cells #[.slice A n c, .int .i64 K] 24)).heap.size = w.heap.size + 1 by simp] at this
    exact this
  obtain ⟨w1, hw1⟩ : ∃ W, ((w.alloc (.cells #[.slice A n c, .int .i64 K] 24)).alloc (.cells #[.int .i64 ck, .string tn, .slice Ac nc zc, .int .i64 Kc, .string cn, .int .i64 cq, .bool cb] 49)) = W := ⟨_, rfl⟩
  rw [hw1] at HB1a HC1a
  rw [hw1]
  clear hw1
  have HB1 := Lib.hid HB1a.out
  have HC1 := Lib.hid HC1a.out
  clear HB1a HC1a
  obtain ⟨M, hM⟩ : ∃ M, gdC L K = M := ⟨_, rfl⟩
  obtain ⟨k, hk⟩ : ∃ k, gdK L K = k := ⟨_, rfl⟩
  have HG : Hid (GoodS M k) := by rw [← hM, ← hk]; exact goodS_is L K
  have HGd := Lib.hid (rgood_any A L n c K w1 hn hnc hcm (HA0.out.1.below HB1.out) HA0.out.2 hk0 hk1)
  rw [hM, hk] at HGd
  clear hM hk
  refine HGd.out.mono ?_
  rintro e w2 ⟨v, rfl, ho, hb⟩
  have HO2 := Lib.hid ho.out
  obtain ⟨As, ns, cs, rfl, _, _, _, _, _⟩ := ownC_open ho.out
  have HB2 := Lib.hid hb.out
  clear ho hb HGd
  have HBw2 := Lib.hid (HB1.out.trans (HB2.out.mono HB1.out.size))
  go_wp2_with fail
  have HB3a : Hid (Below w2.heap.size w2 (w2.alloc (.cells #[.string tT, .slice As ns cs, .int .i64 k] 26))) := (Below.refl _ w2).alloc (Nat.le_refl _) _
  have HTba : Hid (Has (w2.alloc (.cells #[.string tT, .slice As ns cs, .int .i64 k] 26)) w2.heap.size 26 #[.string tT, .slice As ns cs, .int .i64 k]) := Has.new _ _ _
  obtain ⟨w3, hw3⟩ : ∃ W, w2.alloc (.cells #[.string tT, .slice As ns cs, .int .i64 k] 26) = W := ⟨_, rfl⟩
  rw [hw3] at HB3a HTba
  rw [hw3]
  clear hw3
  have HB3 := Lib.hid HB3a.out
  have HTb := Lib.hid HTba.out
  clear HB3a HTba
  have HBw3 := Lib.hid (HBw2.out.trans (HB3.out.mono HBw2.out.size))
  have HO3 := Lib.hid (HO2.out.below HB3.out)
  obtain ⟨RR, hRR⟩ : ∃ RR, rowsR M k (Lv.take 5) = RR := ⟨_, rfl⟩
  have HRR : Hid (RR.length ≤ 5 ∧ (∀ r ∈ RR, fitsF M r = true ∧ r.length ≤ 16) ∧ (∀ r ∈ RR, ∀ x ∈ r, x.fit) ∧ openE (aShut 9) 1 tT M k ⟨#[]⟩ RR = 0) := by
    rw [← hRR]
    refine ⟨by have := rowsR_len M k (Lv.take 5); rw [List.length_take] at this; omega, rowsR_ok HG.out _, fun r hr x hx => ?_, open_ok HG.out _ (by rw [List.length_take]; omega)⟩
    obtain ⟨v, hv, rfl⟩ := rowsR_mem r hr
    exact (rowF_fit M v (goodS_cols HG.out).kind (HV0.out.fits v (List.mem_of_mem_take hv)) x hx).1
  have HRW := Lib.hid (rrows_any As M ns cs k Av nv cv Sv Lv 5 w3 (goodS_sch HG.out) (clAt_own HO3.out) (goodS_cols HG.out) (HV0.out.below HBw3.out) (by decide))
  rw [hRR] at HRW
  clear hRR
  refine HRW.out.mono ?_
  rintro e w4 ⟨vo, So, rfl, ho, hb⟩
  obtain ⟨Aw, nw, cw, rfl, _, _, _, _⟩ := ownRs_open ho.out.own
  have HOO := Lib.hid ho.out
  have HB4 := Lib.hid hb.out
  clear ho hb HRW
  obtain ⟨A', n', c', e', HRIa⟩ := rsIn_own HOO.out.own HOO.out.rows HRR.out.2.2.1
  injection e' with q1 q2 q3
  subst q1 q2 q3
  have HRI := Lib.hid HRIa
  clear HRIa
  have hnw : nw ≤ 5 := by have := HRI.out.many; have := HRR.out.1; omega
  have hnR : RR.length = nw := HRI.out.many
  have HBw4 := Lib.hid (HBw3.out.trans (HB4.out.mono HBw3.out.size))
  go_wp2_with fail
  refine (wnew_any 9 w4 (by decide) (by decide)).mono ?_
  rintro e w5 ⟨b1, t1, rfl, hw1, hb1⟩
  rw [show max (9 : Int) 1 = 9 by decide] at hw1
  have HW5 : Hid (∀ lo, WinA lo b1 t1 w5 (aShut 9)) := fun lo => ⟨_, _, _, _, hw1.out lo⟩
  have HB5 : Hid (Below w4.heap.size w4 w5) := hb1.out.1
  have hge : w4.heap.size ≤ b1 ∧ w4.heap.size ≤ t1 ∧ b1 ≠ t1 := hb1.out.2
  clear hw1 hb1
  have HBw5 := Lib.hid (HBw4.out.trans (HB5.out.mono HBw4.out.size))
  have HB35 := Lib.hid (HB4.out.trans (HB5.out.mono HB4.out.size))
  have HTb5 := Lib.hid (HTb.out.below HB35.out HTb.out.lt)
  have e0 : w5.cell? ⟨w2.heap.size, 0, none⟩ = some (.string tT) := HTb5.out.cell 0
  have e1 : w5.cell? ⟨w2.heap.size, 1, none⟩ = some (.slice As ns cs) := HTb5.out.cell 1
  have e2 : w5.cell? ⟨w2.heap.size, 2, none⟩ = some (.int .i64 k) := HTb5.out.cell 2
  have hM900 : ns ≤ 900 ∧ M.length = ns := by have h1 := (clAt_own HO3.out).len; have := HG.out.len.2; omega
  have HOP := Lib.hid (wopn_any (lo := w5.heap.size) (HW5.out w5.heap.size) (by decide) (by decide) 1 tT As M ns cs k ⟨#[]⟩ Aw nw cw So RR (by decide) (clAt_own (HO3.out.below HB35.out)) hM900.1 (hcap0 HO3.out) (goodS_cols HG.out).fit (HRI.out.below HB5.out) (HT0.out.below HBw5.out) (by omega) (Nat.le_refl _))
  have hOA : openA (aShut 9) 1 tT M k ⟨#[]⟩ RR = opA (aShut 9) 1 tT M k ⟨#[]⟩ RR := by unfold openA; rw [if_pos HRR.out.2.2.2]
  rw [hOA, HRR.out.2.2.2] at HOP
  clear hOA
  obtain ⟨a1, ha1⟩ : ∃ a1, opA (aShut 9) 1 tT M k ⟨#[]⟩ RR = a1 := ⟨_, rfl⟩
  have HA1 : Hid (a1.num = 1 ∧ a1.sp = false ∧ a1.tbl = tT ∧ a1.sz = 9 ∧ a1.R.length = nw ∧ SchA a1 k) := by rw [← ha1]; exact ⟨rfl, rfl, rfl, rfl, by rw [← hnR]; show (keyed k RR).length = _; unfold keyed; rw [List.length_map], ⟨rfl, goodS_sch HG.out⟩⟩
  rw [ha1] at HOP
  clear ha1
  go_wp2_with fail
  refine HOP.out.mono ?_
  rintro e w6 ⟨rfl, t6, hw6, hu6, ht6⟩
  have HW6 := Lib.hid hw6.out
  have HU6 := Lib.hid hu6.out
  have HT6 := Lib.hid ht6.out
  clear hw6 hu6 ht6 e0 e1 e2 HOP
  have HBw6 := Lib.hid (HBw5.out.trans (HU6.out.below (by simp; have := HBw4.out.size; omega) HBw5.out.size))
  have HB15 := Lib.hid (HB2.out.trans ((HB3.out.trans (HB35.out.mono HB3.out.size)).mono HB2.out.size))
  have HC6 := Lib.hid ((HC1.out.below HB15.out HC1.out.lt).tur HU6.out (fun hx => by have := List.mem_singleton.1 hx; have := HC1.out.lt; have := HB2.out.size; have := HB3.out.size; have := HB4.out.size; omega))
  have d0 : w6.cell? ⟨w.heap.size + 1, 0, none⟩ = some (.int .i64 ck) := HC6.out.cell 0
  have d1 : w6.cell? ⟨w.heap.size + 1, 1, none⟩ = some (.string tn) := HC6.out.cell 1
  have d2 : w6.cell? ⟨w.heap.size + 1, 2, none⟩ = some (.slice Ac nc zc) := HC6.out.cell 2
  have d3 : w6.cell? ⟨w.heap.size + 1, 3, none⟩ = some (.int .i64 Kc) := HC6.out.cell 3
  have d4 : w6.cell? ⟨w.heap.size + 1, 4, none⟩ = some (.string cn) := HC6.out.cell 4
  have d5 : w6.cell? ⟨w.heap.size + 1, 5, none⟩ = some (.int .i64 cq) := HC6.out.cell 5
  have d6 : w6.cell? ⟨w.heap.size + 1, 6, none⟩ = some (.bool cb) := HC6.out.cell 6
  have df := HC6.out.free 1
  go_wp2_with fail
  have hb1 : w.heap.size + 1 < b1 ∧ w.heap.size + 1 < t1 := by have := HC1.out.lt; have := HB2.out.size; have := HB3.out.size; have := HB4.out.size; omega
  have ht6 : w.heap.size + 1 < t6 := by have := HT6.out; have := (HW5.out 0).lt.1; omega
  have hT7a : Hid (Tur [w.heap.size + 1] w6 (w6.setCell ⟨w.heap.size + 1, 1, none⟩ (.string ⟨#[117]⟩))) := Tur.setCell _ (p := ⟨w.heap.size + 1, 1, none⟩) (by simp) _
  have hC7a : Hid (Has (w6.setCell ⟨w.heap.size + 1, 1, none⟩ (.string ⟨#[117]⟩)) (w.heap.size + 1) 49 #[.int .i64 ck, .string ⟨#[117]⟩, .slice Ac nc zc, .int .i64 Kc, .string cn, .int .i64 cq, .bool cb]) := HC6.out.put 1 _
  obtain ⟨w7, hx7⟩ : ∃ W, (w6.setCell ⟨w.heap.size + 1, 1, none⟩ (.string ⟨#[117]⟩)) = W := ⟨_, rfl⟩
  rw [hx7] at hT7a hC7a
  rw [hx7]
  clear hx7
  have HT7 := Lib.hid hT7a.out
  have HC7 := Lib.hid hC7a.out
  clear hT7a hC7a df
  clear d0 d1 d2 d3 d4 d5 d6
  have HW7 := Lib.hid (HW6.out.turX HT7.out (fun z hz => by rw [List.mem_singleton.1 hz]; exact ⟨by omega, by omega, _, _, HC6.out, by decide, by decide, by decide⟩))
  have HBw7 := Lib.hid (HBw6.out.trans (HT7.out.below (by simp) HBw6.out.size))
  have HTk := Lib.hid (wtake_any HW7.out k (fun _ _ => HA1.out.2.2.2.2.2) (by rw [HA1.out.2.2.2.1]; decide) (by rw [HA1.out.2.2.2.1]; decide) (by rw [HA1.out.2.2.2.2.1]; omega) 6 0 ⟨#[]⟩ none 0 0 [] none 0 0 [] ck ⟨#[117]⟩ Ac nc zc Kc cn cq cb (rwAt_nil _) (rwAt_nil _) (HT0.out.below HBw7.out) (by have := HU6.out.size; have := HT7.out.size; omega))
  rw [(take_u HA1.out.1 HA1.out.2.1 HA1.out.2.2.1).1, (take_u HA1.out.1 HA1.out.2.1 HA1.out.2.2.1).2] at HTk
  refine HTk.out.mono ?_
  rintro e w8 ⟨rfl, t8, hw8, hu8, hx8⟩
  have HW8 := Lib.hid hw8.out
  have HU8 := Lib.hid hu8.out
  have ht8 : w.heap.size + 1 < t8 := by have := hx8.out; have := HC7.out.lt; omega
  clear hw8 hu8 hx8 HTk
  have HBw8 := Lib.hid (HBw7.out.trans (HU8.out.below (fun z hz => by simp at hz; omega) HBw7.out.size))
  have HC8 := Lib.hid (HC7.out.tur HU8.out (fun hz => by simp at hz; omega))
  have HSp8 := Lib.hid (wopA_any HW8.out)
  rw [HA1.out.2.1] at HSp8
  have HLn8 := Lib.hid (wlenA_any HW8.out)
  rw [HA1.out.2.2.2.2.1] at HLn8
  have hqq : ((nw : Int) != (nw : Int)) = false := by simp
  go_wp2_with fail
  refine HSp8.out.mono ?_
  rintro e wz ⟨rfl, hwz⟩
  obtain rfl : w8 = wz := hwz.symm
  go_wp2_with fail
  refine HLn8.out.mono ?_
  rintro e wz ⟨rfl, hwz⟩
  obtain rfl : w8 = wz := hwz.symm
  have d0 : w8.cell? ⟨w.heap.size + 1, 0, none⟩ = some (.int .i64 ck) := HC8.out.cell 0
  have d1 : w8.cell? ⟨w.heap.size + 1, 1, none⟩ = some (.string ⟨#[117]⟩) := HC8.out.cell 1
  have d2 : w8.cell? ⟨w.heap.size + 1, 2, none⟩ = some (.slice Ac nc zc) := HC8.out.cell 2
  have d3 : w8.cell? ⟨w.heap.size + 1, 3, none⟩ = some (.int .i64 Kc) := HC8.out.cell 3
  have d4 : w8.cell? ⟨w.heap.size + 1, 4, none⟩ = some (.string cn) := HC8.out.cell 4
  have d5 : w8.cell? ⟨w.heap.size + 1, 5, none⟩ = some (.int .i64 cq) := HC8.out.cell 5
  have d6 : w8.cell? ⟨w.heap.size + 1, 6, none⟩ = some (.bool cb) := HC8.out.cell 6
  have df := HC8.out.free 1
  go_wp2_with fail
  have hT9a : Hid (Tur [w.heap.size + 1] w8 (w8.setCell ⟨w.heap.size + 1, 1, none⟩ (.string ⟨#[116]⟩))) := Tur.setCell _ (p := ⟨w.heap.size + 1, 1, none⟩) (by simp) _
  have hC9a : Hid (Has (w8.setCell ⟨w.heap.size + 1, 1, none⟩ (.string ⟨#[116]⟩)) (w.heap.size + 1) 49 #[.int .i64 ck, .string ⟨#[116]⟩, .slice Ac nc zc, .int .i64 Kc, .string cn, .int .i64 cq, .bool cb]) := HC8.out.put 1 _
  obtain ⟨w9, hx9⟩ : ∃ W, (w8.setCell ⟨w.heap.size + 1, 1, none⟩ (.string ⟨#[116]⟩)) = W := ⟨_, rfl⟩
  rw [hx9] at hT9a hC9a
  rw [hx9]
  clear hx9
  have HT9 := Lib.hid hT9a.out
  have HC9 := Lib.hid hC9a.out
  clear hT9a hC9a df
  clear d0 d1 d2 d3 d4 d5 d6
  have HW9 := Lib.hid (HW8.out.turX HT9.out (fun z hz => by rw [List.mem_singleton.1 hz]; exact ⟨by omega, by omega, _, _, HC8.out, by decide, by decide, by decide⟩))
  have HBw9 := Lib.hid (HBw8.out.trans (HT9.out.below (by simp) HBw8.out.size))
  have HTk := Lib.hid (wtake_any HW9.out k (fun _ _ => HA1.out.2.2.2.2.2) (by rw [HA1.out.2.2.2.1]; decide) (by rw [HA1.out.2.2.2.1]; decide) (by rw [HA1.out.2.2.2.2.1]; omega) 6 0 ⟨#[]⟩ none 0 0 [] none 0 0 [] ck ⟨#[116]⟩ Ac nc zc Kc cn cq cb (rwAt_nil _) (rwAt_nil _) (HT0.out.below HBw9.out) (by have := HU6.out.size; have := HT7.out.size; have := HU8.out.size; have := HT9.out.size; omega))
  rw [(take_t HA1.out.1 HA1.out.2.1 HA1.out.2.2.1).1, (take_t HA1.out.1 HA1.out.2.1 HA1.out.2.2.1).2] at HTk
  refine HTk.out.mono ?_
  rintro e w10 ⟨rfl, t10, hw10, hu10, hx10⟩
  obtain ⟨a2, ha2⟩ : ∃ a2, spoilA a1 = a2 := ⟨_, rfl⟩
  have HA2 : Hid (a2.num = 1 ∧ a2.sp = true ∧ a2.sz = 9 ∧ a2.R = []) := by rw [← ha2]; exact ⟨HA1.out.1, rfl, HA1.out.2.2.2.1, rfl⟩
  rw [ha2] at hw10
  clear ha2
  have HW10 := Lib.hid hw10.out
  have HU10 := Lib.hid hu10.out
  have ht10 : w.heap.size + 1 < t10 := by have := hx10.out; have := HC9.out.lt; omega
  clear hw10 hu10 hx10 HTk
  have HBw10 := Lib.hid (HBw9.out.trans (HU10.out.below (fun z hz => by simp at hz; omega) HBw9.out.size))
  have hs5 : w.heap.size + 1 < w5.heap.size := by have := (HW5.out 0).lt.1; omega
  have hs10 : w5.heap.size ≤ w10.heap.size := by have := HU6.out.size; have := HT7.out.size; have := HU8.out.size; have := HT9.out.size; have := HU10.out.size; omega
  go_wp2_with fail
  go_loopw [13] (fun i wr => ∃ (q tq : Nat), q ≤ ne ∧ q ≤ 5 ∧ i = .int .i64 q ∧ w.heap.size + 1 < tq ∧ w5.heap.size ≤ wr.heap.size ∧ Hid (WinA w5.heap.size b1 tq wr a2) ∧ Hid (Below w.heap.size w wr)) (fun i _ => ne - (intOf i).toNat)
  case atStart => exact ⟨0, t10, by omega, by omega, rfl, ht10, hs10, HW10, HBw10⟩
  case round =>
    obtain ⟨q, tq, hq, hq5, rfl, htq, hsq, HWq, HBq⟩ := hrel
    by_cases hlt : q < ne
    · have hkl : (q : Int) < (ne : Int) := by omega
      have hk0 : (0 : Int) ≤ (q : Int) := by omega
      by_cases hl5 : q < 5
      · have hkm : (q : Int) < 5 := by omega
        have hql : q < Te.length := by rw [HNE.out]; exact hlt
        have HEq := Lib.hid (HE0.out.below HBq.out)
        obtain ⟨eb, eo, rfl, hc⟩ := HEq.out.cells (by intro e; rw [e] at hql; cases hql)
        have hrr := HEq.out.rows Te[q] (List.getElem_mem hql)
        have hcq := hc q hql
        clear hc HEq
        obtain ⟨r, hr⟩ : ∃ r, Te[q] = r := ⟨_, rfl⟩
        rw [hr] at hrr hcq
        clear hr
        obtain ⟨rk, rn, rt, rAb, rnb, rzb, rB, rAa, rna, rza, rAf, rck, rct, rAc, rnc, rzc, rK, rcn, rcq, rcb⟩ := r
        dsimp only [Ee.row] at hrr hcq
        have x0 : wr.cell? ⟨eb, eo + q * 12, none⟩ = some (.int .i64 rk) := hcq 0 (by omega)
        have x1 : wr.cell? ⟨eb, eo + q * 12 + 1, none⟩ = some (.int .i64 rn) := hcq 1 (by omega)
        have x2 : wr.cell? ⟨eb, eo + q * 12 + 2, none⟩ = some (.string rt) := hcq 2 (by omega)
        have x3 : wr.cell? ⟨eb, eo + q * 12 + 3, none⟩ = some (.slice rAb rnb rzb) := hcq 3 (by omega)
        have x4 : wr.cell? ⟨eb, eo + q * 12 + 4, none⟩ = some (.slice rAa rna rza) := hcq 4 (by omega)
        have x5 : wr.cell? ⟨eb, eo + q * 12 + 5, none⟩ = some (.int .i64 rck) := hcq 5 (by omega)
        have x6 : wr.cell? ⟨eb, eo + q * 12 + 6, none⟩ = some (.string rct) := hcq 6 (by omega)
        have x7 : wr.cell? ⟨eb, eo + q * 12 + 7, none⟩ = some (.slice rAc rnc rzc) := hcq 7 (by omega)
        have x8 : wr.cell? ⟨eb, eo + q * 12 + 8, none⟩ = some (.int .i64 rK) := hcq 8 (by omega)
        have x9 : wr.cell? ⟨eb, eo + q * 12 + 9, none⟩ = some (.string rcn) := hcq 9 (by omega)
        have x10 : wr.cell? ⟨eb, eo + q * 12 + 10, none⟩ = some (.int .i64 rcq) := hcq 10 (by omega)
        have x11 : wr.cell? ⟨eb, eo + q * 12 + 11, none⟩ = some (.bool rcb) := hcq 11 (by omega)
        have HTk := Lib.hid (wtake_any HWq.out k (fun _ h => absurd (h.symm.trans HA2.out.2.1) (by decide)) (by rw [HA2.out.2.2.1]; decide) (by rw [HA2.out.2.2.1]; decide) (by rw [HA2.out.2.2.2]; decide) rk rn rt rAb rnb rzb rB rAa rna rza rAf rck rct rAc rnc rzc rK rcn rcq rcb hrr.1 hrr.2 (HT0.out.below HBq.out) hsq)
        rw [(take_sp HA2.out.2.1 _ _ _ _ _).1, (take_sp HA2.out.2.1 _ _ _ _ _).2] at HTk
        clear hrr hcq
        go_wp2_with fail
        refine HTk.out.mono ?_
        rintro e w11 ⟨rfl, t11, hw11, hu11, hx11⟩
        have HW11 := Lib.hid hw11.out
        have HB11 := Lib.hid (HBq.out.trans (hu11.out.below (fun z hz => by simp at hz; omega) HBq.out.size))
        have ht11 : w.heap.size + 1 < t11 := by have := hx11.out; omega
        have hs11 : w5.heap.size ≤ w11.heap.size := by have := hu11.out.size; omega
        clear hw11 hu11 hx11 HTk x0 x1 x2 x3 x4 x5 x6 x7 x8 x9 x10 x11
        go_wp2_with fail
        go_roundw
        case rel => exact ⟨q + 1, t11, by omega, by omega, by go_num, ht11, hs11, HW11, HB11⟩
        case measure => simp [intOf]; omega
      · obtain rfl : q = 5 := by omega
        have hkm : ¬ ((5 : Nat) : Int) < 5 := by omega
        have HQs := Lib.hid (wopA_any HWq.out)
        rw [HA2.out.2.1] at HQs
        have HQl := Lib.hid (wlenA_any HWq.out)
        rw [HA2.out.2.2.2] at HQl
        have HQn := Lib.hid (wnumA_any HWq.out)
        rw [HA2.out.1] at HQn
        go_wp2_with fail
        refine HQs.out.mono ?_
        rintro e wz ⟨rfl, hwz⟩
        obtain rfl : wr = wz := hwz.symm
        go_wp2_with fail
        refine HQl.out.mono ?_
        rintro e wz ⟨rfl, hwz⟩
        obtain rfl : wr = wz := hwz.symm
        go_wp2_with fail
        refine HQn.out.mono ?_
        rintro e wz ⟨rfl, hwz⟩
        obtain rfl : wr = wz := hwz.symm
        have HSh := Lib.hid (wshutS_any HWq.out (by rw [HA2.out.2.2.1]; decide) (by rw [HA2.out.2.2.1]; decide) 1 HA2.out.1 (by decide) HA2.out.2.1 (by rw [HA2.out.2.2.2]; decide) (by rw [HA2.out.2.2.2]; intro r hr; cases hr) (by rw [HA2.out.2.2.2]; intro r hr; cases hr))
        clear HQs HQl HQn
        go_wp2_with fail
        refine HSh.out.mono ?_
        rintro e w12 ⟨rfl, ⟨t12, hw12, hx12⟩, hu12⟩
        have HB12 := Lib.hid (HBq.out.trans (hu12.out.below (fun z hz => by simp at hz; omega) HBq.out.size))
        have HW12 : Hid (WinA 0 b1 t12 w12 (shutA a2)) := hw12.out 0
        clear hw12 hx12 hu12 HSh
        go_wp2_with fail
        have hb13 : Below w12.heap.size w12 (w12.alloc (.cells #[.string ⟨#[]⟩, .bool false, .string ⟨#[]⟩] 59)) := (Below.refl _ w12).alloc (Nat.le_refl _) _
        obtain ⟨w13, hw13⟩ : ∃ W, w12.alloc (.cells #[.string ⟨#[]⟩, .bool false, .string ⟨#[]⟩] 59) = W := ⟨_, rfl⟩
        rw [hw13] at hb13
        rw [hw13]
        clear hw13
        have HB13 := Lib.hid (HB12.out.trans (hb13.mono HB12.out.size))
        have HNm : Hid (Calls Tryd.prog 27 #[.pointer (some ⟨b1, 0, none⟩)] w13 fun e w' => e = .returned (.int .i64 (-1)) ∧ w' = w13) := wnumA_any (HW12.out.below hb13)
        refine HNm.out.mono ?_
        rintro e wz ⟨rfl, hwz⟩
        obtain rfl : w13 = wz := hwz.symm
        clear hb13
        go_wp2_with fail
        refine (llives_any w13 (HT0.out.below HB13.out)).mono ?_
        rintro e w14 ⟨rfl, hb⟩
        have HB14 := Lib.hid (HB13.out.trans (hb.out.mono HB13.out.size))
        clear hb
        go_wp2_with fail
        go_ret
        exact ⟨rfl, HB14.out⟩
    · obtain rfl : ne = q := by omega
      have hkm : ¬ (ne : Int) < (ne : Int) := by omega
      have HQs := Lib.hid (wopA_any HWq.out)
      rw [HA2.out.2.1] at HQs
      have HQl := Lib.hid (wlenA_any HWq.out)
      rw [HA2.out.2.2.2] at HQl
      have HQn := Lib.hid (wnumA_any HWq.out)
      rw [HA2.out.1] at HQn
      go_wp2_with fail
      refine HQs.out.mono ?_
      rintro e wz ⟨rfl, hwz⟩
      obtain rfl : wr = wz := hwz.symm
      go_wp2_with fail
      refine HQl.out.mono ?_
      rintro e wz ⟨rfl, hwz⟩
      obtain rfl : wr = wz := hwz.symm
      go_wp2_with fail
      refine HQn.out.mono ?_
      rintro e wz ⟨rfl, hwz⟩
      obtain rfl : wr = wz := hwz.symm
      have HSh := Lib.hid (wshutS_any HWq.out (by rw [HA2.out.2.2.1]; decide) (by rw [HA2.out.2.2.1]; decide) 1 HA2.out.1 (by decide) HA2.out.2.1 (by rw [HA2.out.2.2.2]; decide) (by rw [HA2.out.2.2.2]; intro r hr; cases hr) (by rw [HA2.out.2.2.2]; intro r hr; cases hr))
      clear HQs HQl HQn
      go_wp2_with fail
      refine HSh.out.mono ?_
      rintro e w12 ⟨rfl, ⟨t12, hw12, hx12⟩, hu12⟩
      have HB12 := Lib.hid (HBq.out.trans (hu12.out.below (fun z hz => by simp at hz; omega) HBq.out.size))
      have HW12 : Hid (WinA 0 b1 t12 w12 (shutA a2)) := hw12.out 0
      clear hw12 hx12 hu12 HSh
      go_wp2_with fail
      have hb13 : Below w12.heap.size w12 (w12.alloc (.cells #[.string ⟨#[]⟩, .bool false, .string ⟨#[]⟩] 59)) := (Below.refl _ w12).alloc (Nat.le_refl _) _
      obtain ⟨w13, hw13⟩ : ∃ W, w12.alloc (.cells #[.string ⟨#[]⟩, .bool false, .string ⟨#[]⟩] 59) = W := ⟨_, rfl⟩
      rw [hw13] at hb13
      rw [hw13]
      clear hw13
      have HB13 := Lib.hid (HB12.out.trans (hb13.mono HB12.out.size))
      have HNm : Hid (Calls Tryd.prog 27 #[.pointer (some ⟨b1, 0, none⟩)] w13 fun e w' => e = .returned (.int .i64 (-1)) ∧ w' = w13) := wnumA_any (HW12.out.below hb13)
      refine HNm.out.mono ?_
      rintro e wz ⟨rfl, hwz⟩
      obtain rfl : w13 = wz := hwz.symm
      clear hb13
      go_wp2_with fail
      refine (llives_any w13 (HT0.out.below HB13.out)).mono ?_
      rintro e w14 ⟨rfl, hb⟩
      have HB14 := Lib.hid (HB13.out.trans (hb.out.mono HB13.out.size))
      clear hb
      go_wp2_with fail
      go_ret
      exact ⟨rfl, HB14.out⟩
end Go.Proofs.YtcdjeibcnkpadaaDoor.windowSpoils
