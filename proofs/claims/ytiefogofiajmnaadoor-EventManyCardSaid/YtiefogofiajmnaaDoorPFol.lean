/-
  Tables behind a change: the program's Follow.
-/
import Derived.Test.YtiefogofiajmnaaDoorPCre
import Derived.Test.YtiefogofiajmnaaDoorApply
namespace Go.Proofs.YtiefogofiajmnaaDoor
open Go.RowKit Dg
set_option maxRecDepth 100000
/-- Tables that lie in memory of the call's own, with all their columns. -/
structure OwnTs (B : Nat) (w : World) (v : Value) (T : List Tb) : Prop where
  own : OwnT B w v T
  col : ∀ x ∈ T, OwnC B w (.slice x.A x.n x.c) x.L
theorem Clns.cols {B : Nat} {w : World} {T T' : List Tb} (h : Clns B w T T') : ∀ y ∈ T', OwnC B w (.slice y.A y.n y.c) y.L := fun y hy => by
  obtain ⟨i, hi, rfl⟩ := List.getElem_of_mem hy
  exact (h.2 i (by rw [← h.1]; exact hi) hi).own
theorem ownTs_nil (B : Nat) (w : World) : OwnTs B w (.slice none 0 0) [] := ⟨ownT_nil _ _, fun _ h => by cases h⟩
theorem OwnTs.below {B : Nat} {w w' : World} {v : Value} {T : List Tb} (h : OwnTs B w v T) (hb : Below w.heap.size w w') : OwnTs B w' v T := ⟨h.own.below hb, fun x hx => (h.col x hx).below hb⟩
theorem OwnTs.down {B B' : Nat} {w : World} {v : Value} {T : List Tb} (h : OwnTs B w v T) (hb : B' ≤ B) : OwnTs B' w v T := ⟨ownT_down h.own hb, fun x hx => ownC_down (h.col x hx) hb⟩
theorem OwnTs.oks {B : Nat} {w : World} {v : Value} {T : List Tb} (h : OwnTs B w v T) (hl : ∀ x ∈ T, x.L.length ≤ 900) : TOks w T := fun x hx => Cln.ok (B := B) (x := x) ⟨rfl, h.col x hx⟩ (hl x hx)
theorem fcT_td {T : List Tb} {tn : ByteArray} {A' : Option Addr} {n' c' : Nat} {L' : List Cl} {K' : Int} {cn : ByteArray} {kd : Int} {no : Bool} : tds (fcT T tn A' n' c' L' K') = foD T 1 tn L' K' cn kd no := by
  by_cases h : fcE T tn L' K' = 0
  · rw [fcT_ok h, tds_ins, foD_c h]; rfl
  · rw [fcT_bad h, foD_bad (by rw [foE_c]; exact h)]; rfl
theorem apply_len {L : List Cl} {K ck : Int} {cn : ByteArray} {kd : Int} {no : Bool} (h : L.length ≤ 800) : (applyL L (doesF L K ck cn kd no) cn kd).length ≤ 900 := by
  have ho := doesF_ok L K ck cn kd no
  unfold applyL
  split
  · next he =>
    obtain ⟨h1, h2, h3⟩ := ho he
    simp
    omega
  · simp
theorem hid_a1 {w W : World} (h : Hid (Below w.heap.size w W)) (o : Obj) : Hid (Below w.heap.size w (W.alloc o)) := h.out.alloc h.out.size o
theorem hid_c1 {w W : World} (h : Hid (Below w.heap.size w W)) {g i : Nat} (hg : w.heap.size ≤ g) (u : Value) : Hid (Below w.heap.size w (W.setCell ⟨g, i, none⟩ u)) := h.out.setCell hg u
theorem hid_c2 {w W : World} (h : Hid (Below w.heap.size w W)) {g : Nat} (hg : w.heap.size ≤ g) (u u' : Value) : Hid (Below w.heap.size w ((W.setCell ⟨g, 0, none⟩ u).setCell ⟨g, 1, none⟩ u')) := (h.out.setCell hg u).setCell hg u'
set_option maxHeartbeats 4000000 in
theorem pfollow_any (A : Option Addr) (T : List Tb) (n c : Nat) (ck : Int) (tn : ByteArray) (A' : Option Addr) (n' c' : Nat) (L' : List Cl) (K' : Int) (cn : ByteArray) (kd : Int) (no : Bool) (w : World) (hn : T.length = n) (hnc : n ≤ c) (hcm : c ≤ maxLen) (hl : n ≤ 900) (hA : TRow w A T) (hA0 : A = none → c = 0) (hI : TOks w T) (hS : SortT T) (hsm : ∀ x ∈ T, 0 < x.L.length ∧ x.L.length ≤ 800)
    (hn' : L'.length = n') (hnc' : n' ≤ c') (hcm' : c' ≤ maxLen) (hA' : CRow w A' L') (hA0' : A' = none → c' = 0) (htn : tn.size ≤ 140737488355328) (hcn : cn.size ≤ 140737488355328) (hf : ∀ y ∈ L', y.fit) :
    Calls Tryd.prog 18 #[.slice A n c, .agg #[.int .i64 ck, .string tn, .slice A' n' c', .int .i64 K', .string cn, .int .i64 kd, .bool no]] w fun e w' => ∃ v T', e = .returned (.tuple #[v, .int .i64 (foE T ck tn L' K' cn kd no)]) ∧ Hid (OwnTs w.heap.size w' v T') ∧ Hid (tds T' = foD T ck tn L' K' cn kd no) ∧ Hid (Below w.heap.size w w') := by
  have HB0 := Lib.hid ((Below.refl w.heap.size w).alloc (Nat.le_refl _) (.cells #[.int .i64 ck, .string tn, .slice A' n' c', .int .i64 K', .string cn, .int .i64 kd, .bool no] 40))
  have HX0 := Lib.hid (Has.new w 40 #[.int .i64 ck, .string tn, .slice A' n' c', .int .i64 K', .string cn, .int .i64 kd, .bool no])
  have HPL := Lib.hid (fun (W : World) (hb : Below w.heap.size w W) => place_any A T n c tn W hn (by omega) (hA.below hb) hS)
  have HCR := Lib.hid (fun (W : World) (hb : Below w.heap.size w W) => pcreate_any A T n c ck tn A' n' c' L' K' cn kd no W hn hnc hcm hl (hA.below hb) hA0 (hI.below hb) hn' hnc' hcm' (hA'.below hb) hA0' htn hf)
  have HPD := Lib.hid (fun (W : World) (hb : Below w.heap.size w W) (hk : lbN T tn + 1 ≤ n) => putT_any A T n c (lbN T tn) (lbN T tn + 1) none [] 0 0 W hn hnc hcm (Nat.le_succ _) hk hl (hA.below hb) hA0 (hI.below hb) rfl (by omega) (fun h => absurd rfl h) (fun _ => rfl) (fun x hx => by cases hx))
  have HPA := Lib.hid (fun (W : World) (hb : Below w.heap.size w W) (hk : lbN T tn + 1 ≤ n) (A8 : Option Addr) (n8 c8 : Nat) (L8 : List Cl) (K8 : Int) (ho : OwnC w.heap.size W (.slice A8 n8 c8) L8) (h8 : L8.length ≤ 900) => putT_any A T n c (lbN T tn) (lbN T tn + 1) (some ⟨W.heap.size, 0, none⟩) [⟨tn, A8, n8, c8, L8, K8⟩] 1 1 (W.alloc (.cells #[.string tn, .slice A8 n8 c8, .int .i64 K8] 30)) hn hnc hcm (Nat.le_succ _) hk hl (hA.below (hb.alloc hb.size _)) hA0 (hI.below (hb.alloc hb.size _)) rfl (Nat.le_refl _) (trow_one W ⟨tn, A8, n8, c8, L8, K8⟩) (fun e => by cases e) (fun x hx => by
    obtain rfl := List.mem_singleton.1 hx
    have h := (Cln.ok (B := w.heap.size) (x := ⟨tn, A8, n8, c8, L8, K8⟩) (y := ⟨tn, A8, n8, c8, L8, K8⟩) ⟨rfl, ho⟩ h8)
    exact h.below ((Below.refl _ W).alloc (Nat.le_refl _) _)))
  have HN := Lib.hid hn
  have HA := Lib.hid hA
  have HI := Lib.hid hI
  have HSM := Lib.hid hsm
  clear hn hA hA' hn' hI hf hsm hS hA0' htn
  by_cases h1 : ck = 1
  · subst h1
    go_enter Tryd.func18, Tryd.ntmps18
    go_wp2_with fail
    refine (HPL.out _ HB0.out).mono ?_
    rintro e w1 ⟨rfl, hb1⟩
    have HB1 := Lib.hid (HB0.out.trans (hb1.out.mono HB0.out.size))
    have HX1 := Lib.hid (HX0.out.below hb1.out HX0.out.lt)
    have x0 : w1.cell? ⟨w.heap.size, 0, none⟩ = some (.int .i64 1) := HX1.out.cell 0
    have x1 : w1.cell? ⟨w.heap.size, 1, none⟩ = some (.string tn) := HX1.out.cell 1
    have x2 : w1.cell? ⟨w.heap.size, 2, none⟩ = some (.slice A' n' c') := HX1.out.cell 2
    have x3 : w1.cell? ⟨w.heap.size, 3, none⟩ = some (.int .i64 K') := HX1.out.cell 3
    have x4 : w1.cell? ⟨w.heap.size, 4, none⟩ = some (.string cn) := HX1.out.cell 4
    have x5 : w1.cell? ⟨w.heap.size, 5, none⟩ = some (.int .i64 kd) := HX1.out.cell 5
    have x6 : w1.cell? ⟨w.heap.size, 6, none⟩ = some (.bool no) := HX1.out.cell 6
    clear hb1 HX0 HB0
    go_wp2_with fail
    refine (HCR.out _ HB1.out).mono ?_
    rintro e w2 ⟨v2, T2, rfl, ho2, hc2, hb2⟩
    have HB2 := Lib.hid (HB1.out.trans (hb2.out.mono HB1.out.size))
    obtain ⟨A7, n7, c7, rfl, _, _, _, _, _⟩ := ownT_open ho2.out
    go_wp2_with fail
    go_ret2
    exact ⟨_, T2, by rw [foE_c]; rfl, ⟨ownT_down ho2.out HB1.out.size, fun x hx => ownC_down (hc2.out.cols x hx) HB1.out.size⟩, by show _ = _; rw [hc2.out.td]; exact fcT_td, HB2⟩
  · rcases hp : plF T tn with _ | _
    · go_enter Tryd.func18, Tryd.ntmps18
      go_wp2_with fail
      refine (HPL.out _ HB0.out).mono ?_
      rintro e w1 ⟨rfl, hb1⟩
      have HB1 := Lib.hid (HB0.out.trans (hb1.out.mono HB0.out.size))
      have HX1 := Lib.hid (HX0.out.below hb1.out HX0.out.lt)
      have x0 : w1.cell? ⟨w.heap.size, 0, none⟩ = some (.int .i64 ck) := HX1.out.cell 0
      have x1 : w1.cell? ⟨w.heap.size, 1, none⟩ = some (.string tn) := HX1.out.cell 1
      have x2 : w1.cell? ⟨w.heap.size, 2, none⟩ = some (.slice A' n' c') := HX1.out.cell 2
      have x3 : w1.cell? ⟨w.heap.size, 3, none⟩ = some (.int .i64 K') := HX1.out.cell 3
      have x4 : w1.cell? ⟨w.heap.size, 4, none⟩ = some (.string cn) := HX1.out.cell 4
      have x5 : w1.cell? ⟨w.heap.size, 5, none⟩ = some (.int .i64 kd) := HX1.out.cell 5
      have x6 : w1.cell? ⟨w.heap.size, 6, none⟩ = some (.bool no) := HX1.out.cell 6
      clear hb1 HX0 HB0
      rw [hp]
      have HE := Lib.hid (foE_none (L' := L') (K' := K') (cn := cn) (kd := kd) (no := no) h1 hp)
      go_wp2_with fail
      go_ret2
      exact ⟨_, [], by rw [HE.out]; rfl, ownTs_nil _ _, by show _ = _; rw [foD_bad (by rw [HE.out]; omega)]; rfl, HB1⟩
    · have hkl := plF_lt hp
      have hk1 : lbN T tn + 1 ≤ n := by rw [← HN.out]; omega
      by_cases h2 : ck = 2
      · subst h2
        go_enter Tryd.func18, Tryd.ntmps18
        go_wp2_with fail
        refine (HPL.out _ HB0.out).mono ?_
        rintro e w1 ⟨rfl, hb1⟩
        have HB1 := Lib.hid (HB0.out.trans (hb1.out.mono HB0.out.size))
        have HX1 := Lib.hid (HX0.out.below hb1.out HX0.out.lt)
        have x0 : w1.cell? ⟨w.heap.size, 0, none⟩ = some (.int .i64 2) := HX1.out.cell 0
        have x1 : w1.cell? ⟨w.heap.size, 1, none⟩ = some (.string tn) := HX1.out.cell 1
        have x2 : w1.cell? ⟨w.heap.size, 2, none⟩ = some (.slice A' n' c') := HX1.out.cell 2
        have x3 : w1.cell? ⟨w.heap.size, 3, none⟩ = some (.int .i64 K') := HX1.out.cell 3
        have x4 : w1.cell? ⟨w.heap.size, 4, none⟩ = some (.string cn) := HX1.out.cell 4
        have x5 : w1.cell? ⟨w.heap.size, 5, none⟩ = some (.int .i64 kd) := HX1.out.cell 5
        have x6 : w1.cell? ⟨w.heap.size, 6, none⟩ = some (.bool no) := HX1.out.cell 6
        clear hb1 HX0 HB0
        rw [hp]
        have HPX := Lib.hid (HPD.out w1 HB1.out hk1)
        have HE := Lib.hid (foE_drop (L' := L') (K' := K') (cn := cn) (kd := kd) (no := no) hp)
        have HD := Lib.hid (foD_drop (L' := L') (K' := K') (cn := cn) (kd := kd) (no := no) hp)
        have hcast : ((lbN T tn + 1 : Nat) : Int) = ((lbN T tn : Nat) : Int) + 1 := by omega
        rw [hcast] at HPX
        clear HPD HPA HCR HPL hcast
        go_wp2_with fail
        refine HPX.out.mono ?_
        rintro e w2 ⟨v2, T2, rfl, ho2, hc2, hb2⟩
        have HB2 := Lib.hid (HB1.out.trans (hb2.out.mono HB1.out.size))
        obtain ⟨A7, n7, c7, rfl, _, _, _, _, _⟩ := ownT_open ho2.out
        go_wp2_with fail
        go_ret2
        exact ⟨_, T2, by rw [HE.out]; rfl, ⟨ownT_down ho2.out HB1.out.size, fun x hx => ownC_down (hc2.out.cols x hx) HB1.out.size⟩, by show _ = _; rw [hc2.out.td, HD.out, List.append_nil, tds_del], HB2⟩
      · go_enter Tryd.func18, Tryd.ntmps18
        go_wp2_with fail
        refine (HPL.out _ HB0.out).mono ?_
        rintro e w1 ⟨rfl, hb1⟩
        have HB1 := Lib.hid (HB0.out.trans (hb1.out.mono HB0.out.size))
        have HX1 := Lib.hid (HX0.out.below hb1.out HX0.out.lt)
        have x0 : w1.cell? ⟨w.heap.size, 0, none⟩ = some (.int .i64 ck) := HX1.out.cell 0
        have x1 : w1.cell? ⟨w.heap.size, 1, none⟩ = some (.string tn) := HX1.out.cell 1
        have x2 : w1.cell? ⟨w.heap.size, 2, none⟩ = some (.slice A' n' c') := HX1.out.cell 2
        have x3 : w1.cell? ⟨w.heap.size, 3, none⟩ = some (.int .i64 K') := HX1.out.cell 3
        have x4 : w1.cell? ⟨w.heap.size, 4, none⟩ = some (.string cn) := HX1.out.cell 4
        have x5 : w1.cell? ⟨w.heap.size, 5, none⟩ = some (.int .i64 kd) := HX1.out.cell 5
        have x6 : w1.cell? ⟨w.heap.size, 6, none⟩ = some (.bool no) := HX1.out.cell 6
        clear hb1 HX0 HB0
        rw [hp]
        have HE := Lib.hid (foE_alter (L' := L') (K' := K') (cn := cn) (kd := kd) (no := no) h1 h2 hp hkl)
        have HD := Lib.hid (foD_alter (L' := L') (K' := K') (cn := cn) (kd := kd) (no := no) h1 h2 hp hkl)
        have HBD := Lib.hid (foD_bad (T := T) (ck := ck) (tn := tn) (L' := L') (K' := K') (cn := cn) (kd := kd) (no := no))
        have hx := HI.out T[lbN T tn] (List.getElem_mem hkl)
        have hxs := HSM.out T[lbN T tn] (List.getElem_mem hkl)
        obtain ⟨b, off, rfl, hc⟩ := (HA.out.below HB1.out) (by intro e; rw [e] at hkl; simp at hkl)
        obtain ⟨c0, c1, c2⟩ := hc _ hkl
        have hkz : ((lbN T tn : Nat) : Int) < (n : Int) := by omega
        have HPX := Lib.hid (fun (W : World) hb A8 n8 c8 L8 K8 ho h8 => HPA.out W hb hk1 A8 n8 c8 L8 K8 ho h8)
        have HTD := Lib.hid (tds_ins T)
        obtain ⟨k, hk⟩ : ∃ k, lbN T tn = k := ⟨_, rfl⟩
        have hcast : ((k + 1 : Nat) : Int) = ((k : Nat) : Int) + 1 := by omega
        clear hc HPD HPA HCR HPL c0
        simp only [hk] at HPX HE HD c1 c2 hkz hx hxs ⊢
        rw [hcast] at HPX
        clear hcast
        generalize T[k]'(by rw [← hk]; exact hkl) = x at *
        obtain ⟨xs, xA, xn, xc, xL, xK⟩ := x
        simp only at c1 c2 HE HD hxs
        have hlen : xL.length = xn := hx.len
        have HAP := Lib.hid (fun (W : World) (hb : Below w.heap.size w W) => apply_any xA xL xn xc xK ck tn A' n' c' K' cn kd no W hlen (by omega) hx.few hx.cap hx.max hcn (hx.row.below hb))
        have HLN := Lib.hid (apply_len (L := xL) (K := xK) (ck := ck) (cn := cn) (kd := kd) (no := no) hxs.2)
        have hb0 : Hid (Below w.heap.size w w1.drew) := HB1.out.drew
        have HXd := Lib.hid HX1.out.drew
        have d0 : w1.drew.cell? ⟨w.heap.size, 0, none⟩ = some (.int .i64 ck) := HXd.out.cell 0
        have d1 : w1.drew.cell? ⟨w.heap.size, 1, none⟩ = some (.string tn) := HXd.out.cell 1
        have d2 : w1.drew.cell? ⟨w.heap.size, 2, none⟩ = some (.slice A' n' c') := HXd.out.cell 2
        have d3 : w1.drew.cell? ⟨w.heap.size, 3, none⟩ = some (.int .i64 K') := HXd.out.cell 3
        have d4 : w1.drew.cell? ⟨w.heap.size, 4, none⟩ = some (.string cn) := HXd.out.cell 4
        have d5 : w1.drew.cell? ⟨w.heap.size, 5, none⟩ = some (.int .i64 kd) := HXd.out.cell 5
        have d6 : w1.drew.cell? ⟨w.heap.size, 6, none⟩ = some (.bool no) := HXd.out.cell 6
        have d7 : w1.drew.cell? ⟨b, off + k * 3 + 1, none⟩ = some (.slice xA xn xc) := c1
        have d8 : w1.drew.cell? ⟨b, off + k * 3 + 2, none⟩ = some (.int .i64 xK) := c2
        clear hx hxs HXd
        go_wp2_with fail
        have hal : Below w1.heap.size w1 (w1.alloc (.cells #[.slice none 0 0, .int .i64 0] 28)) := (Below.refl _ w1).alloc (Nat.le_refl _) _
        have hbA : Hid (Below w.heap.size w (w1.alloc (.cells #[.slice none 0 0, .int .i64 0] 28)).drew) := (HB1.out.trans (hal.mono HB1.out.size)).drew
        have f0 : (w1.alloc (.cells #[.slice none 0 0, .int .i64 0] 28)).drew.cell? ⟨w.heap.size, 0, none⟩ = some (.int .i64 ck) := keepC hal.drew x0
        have f1 : (w1.alloc (.cells #[.slice none 0 0, .int .i64 0] 28)).drew.cell? ⟨w.heap.size, 1, none⟩ = some (.string tn) := keepC hal.drew x1
        have f2 : (w1.alloc (.cells #[.slice none 0 0, .int .i64 0] 28)).drew.cell? ⟨w.heap.size, 2, none⟩ = some (.slice A' n' c') := keepC hal.drew x2
        have f3 : (w1.alloc (.cells #[.slice none 0 0, .int .i64 0] 28)).drew.cell? ⟨w.heap.size, 3, none⟩ = some (.int .i64 K') := keepC hal.drew x3
        have f4 : (w1.alloc (.cells #[.slice none 0 0, .int .i64 0] 28)).drew.cell? ⟨w.heap.size, 4, none⟩ = some (.string cn) := keepC hal.drew x4
        have f5 : (w1.alloc (.cells #[.slice none 0 0, .int .i64 0] 28)).drew.cell? ⟨w.heap.size, 5, none⟩ = some (.int .i64 kd) := keepC hal.drew x5
        have f6 : (w1.alloc (.cells #[.slice none 0 0, .int .i64 0] 28)).drew.cell? ⟨w.heap.size, 6, none⟩ = some (.bool no) := keepC hal.drew x6
        have f7 : (w1.alloc (.cells #[.slice none 0 0, .int .i64 0] 28)).drew.cell? ⟨b, off + k * 3 + 1, none⟩ = some (.slice xA xn xc) := keepC hal.drew c1
        have f8 : (w1.alloc (.cells #[.slice none 0 0, .int .i64 0] 28)).drew.cell? ⟨b, off + k * 3 + 2, none⟩ = some (.int .i64 xK) := keepC hal.drew c2
        have HBX := Lib.hid (Has.new w1 28 #[.slice none 0 0, .int .i64 0]).drew
        clear hal
        have hne0 : w1.heap.size ≠ w.heap.size := by have := HX1.out.lt; omega
        have hneb : w1.heap.size ≠ b := by have := World.block_lt_of_cell? _ _ c1; intro e; simp at this; omega
        go_region_held3 (fun X => Hid (Below w.heap.size w X) ∧ X.cell? ⟨w.heap.size, 0, none⟩ = some (.int .i64 ck) ∧ X.cell? ⟨w.heap.size, 1, none⟩ = some (.string tn) ∧ X.cell? ⟨w.heap.size, 2, none⟩ = some (.slice A' n' c') ∧ X.cell? ⟨w.heap.size, 3, none⟩ = some (.int .i64 K') ∧ X.cell? ⟨w.heap.size, 4, none⟩ = some (.string cn) ∧ X.cell? ⟨w.heap.size, 5, none⟩ = some (.int .i64 kd) ∧ X.cell? ⟨w.heap.size, 6, none⟩ = some (.bool no) ∧ X.cell? ⟨b, off + k * 3 + 1, none⟩ = some (.slice xA xn xc) ∧ X.cell? ⟨b, off + k * 3 + 2, none⟩ = some (.int .i64 xK)) (first | (refine ⟨by first | assumption | exact hid_d1 (by assumption) _ | exact hid_a1 (by assumption) _, ?_⟩; go_keep) | exact ⟨hid_c2 (by assumption) HB1.out.size _ _, cell_s2 hne0 (by assumption), cell_s2 hne0 (by assumption), cell_s2 hne0 (by assumption), cell_s2 hne0 (by assumption), cell_s2 hne0 (by assumption), cell_s2 hne0 (by assumption), cell_s2 hne0 (by assumption), cell_s2 hneb (by assumption), cell_s2 hneb (by assumption)⟩)
          (first | (go_at_call 36; (with_reducible refine (HAP.out w1.drew hb0.out).mono ?_); rintro e w2 ⟨v8, rfl, ho8, hb8⟩; obtain ⟨A8, n8, c8, rfl, _, _, _, _, _⟩ := ownC_open ho8.out; have i0 := keepC hb8.out d0; have i1 := keepC hb8.out d1; have i2 := keepC hb8.out d2; have i3 := keepC hb8.out d3; have i4 := keepC hb8.out d4; have i5 := keepC hb8.out d5; have i6 := keepC hb8.out d6; have i7 := keepC hb8.out d7; have i8 := keepC hb8.out d8; have HB2 : Hid (Below w.heap.size w w2) := hb0.out.trans (hb8.out.mono hb0.out.size); have HO8 := Lib.hid (ownC_down ho8.out hb0.out.size); clear ho8 hb8) | (go_at_call 36; (with_reducible refine (HAP.out (w1.alloc (.cells #[.slice none 0 0, .int .i64 0] 28)).drew hbA.out).mono ?_); rintro e w2 ⟨v8, rfl, ho8, hb8⟩; obtain ⟨A8, n8, c8, rfl, _, _, _, _, _⟩ := ownC_open ho8.out; have i0 := keepC hb8.out f0; have i1 := keepC hb8.out f1; have i2 := keepC hb8.out f2; have i3 := keepC hb8.out f3; have i4 := keepC hb8.out f4; have i5 := keepC hb8.out f5; have i6 := keepC hb8.out f6; have i7 := keepC hb8.out f7; have i8 := keepC hb8.out f8; have HB2 : Hid (Below w.heap.size w w2) := hbA.out.trans (hb8.out.mono hbA.out.size); have HO8 := Lib.hid (ownC_down ho8.out hbA.out.size); have HBX2 := Lib.hid (HBX.out.below hb8.out HBX.out.lt); have b0 : w2.cell? ⟨w1.heap.size, 0, none⟩ = some (.slice none 0 0) := HBX2.out.cell 0; have b1 : w2.cell? ⟨w1.heap.size, 1, none⟩ = some (.int .i64 0) := HBX2.out.cell 1; have g0 := HBX2.out.free 0; have g1 := HBX2.out.free 1; have HO9 : Hid (OwnC (w1.heap.size + 1) w2 (.slice A8 n8 c8) (applyL xL (doesF xL xK ck cn kd no) cn kd)) := ownC_down ho8.out (by simp); clear ho8 hb8))
        all_goals
          first
            | (have HBf : Hid (Below w.heap.size w (w2.alloc (.cells #[.slice A8 n8 c8, .int .i64 (applyK xK (doesF xL xK ck cn kd no))] 28))) := HB2.out.alloc HB2.out.size _; have HOf : Hid (OwnC w.heap.size (w2.alloc (.cells #[.slice A8 n8 c8, .int .i64 (applyK xK (doesF xL xK ck cn kd no))] 28)) (.slice A8 n8 c8) (applyL xL (doesF xL xK ck cn kd no) cn kd)) := HO8.out.below ((Below.refl _ w2).alloc (Nat.le_refl _) _); have y1 : (w2.alloc (.cells #[.slice A8 n8 c8, .int .i64 (applyK xK (doesF xL xK ck cn kd no))] 28)).cell? ⟨w.heap.size, 1, none⟩ = some (.string tn) := keepC ((Below.refl _ w2).alloc (Nat.le_refl _) _) i1; obtain ⟨gb, hgb, z0, z1⟩ : ∃ gb, gb = w2.heap.size ∧ (w2.alloc (.cells #[.slice A8 n8 c8, .int .i64 (applyK xK (doesF xL xK ck cn kd no))] 28)).cell? ⟨gb, 0, none⟩ = some (.slice A8 n8 c8) ∧ (w2.alloc (.cells #[.slice A8 n8 c8, .int .i64 (applyK xK (doesF xL xK ck cn kd no))] 28)).cell? ⟨gb, 1, none⟩ = some (.int .i64 (applyK xK (doesF xL xK ck cn kd no))) := ⟨_, rfl, (Has.new w2 28 #[.slice A8 n8 c8, .int .i64 (applyK xK (doesF xL xK ck cn kd no))]).cell 0, (Has.new w2 28 #[.slice A8 n8 c8, .int .i64 (applyK xK (doesF xL xK ck cn kd no))]).cell 1⟩; obtain ⟨wf, hwf⟩ : ∃ wf, (w2.alloc (.cells #[.slice A8 n8 c8, .int .i64 (applyK xK (doesF xL xK ck cn kd no))] 28)) = wf := ⟨_, rfl⟩; rw [hwf] at HBf HOf y1 z0 z1; rw [hwf]; rw [← hgb]; clear hwf hgb)
            | (have HBf : Hid (Below w.heap.size w ((w2.setCell ⟨w1.heap.size, 0, none⟩ (.slice A8 n8 c8)).setCell ⟨w1.heap.size, 1, none⟩ (.int .i64 (applyK xK (doesF xL xK ck cn kd no))))) := hid_c2 HB2 HB1.out.size _ _; have HOf : Hid (OwnC w.heap.size ((w2.setCell ⟨w1.heap.size, 0, none⟩ (.slice A8 n8 c8)).setCell ⟨w1.heap.size, 1, none⟩ (.int .i64 (applyK xK (doesF xL xK ck cn kd no)))) (.slice A8 n8 c8) (applyL xL (doesF xL xK ck cn kd no) cn kd)) := ownC_down ((HO9.out.far (p := ⟨w1.heap.size, 0, none⟩) (Nat.lt_succ_self _) _).far (p := ⟨w1.heap.size, 1, none⟩) (Nat.lt_succ_self _) _) (by have := HB1.out.size; omega); have y1 : ((w2.setCell ⟨w1.heap.size, 0, none⟩ (.slice A8 n8 c8)).setCell ⟨w1.heap.size, 1, none⟩ (.int .i64 (applyK xK (doesF xL xK ck cn kd no)))).cell? ⟨w.heap.size, 1, none⟩ = some (.string tn) := cell_s2 hne0 i1; obtain ⟨gb, hgb, z0, z1⟩ : ∃ gb, gb = w1.heap.size ∧ ((w2.setCell ⟨w1.heap.size, 0, none⟩ (.slice A8 n8 c8)).setCell ⟨w1.heap.size, 1, none⟩ (.int .i64 (applyK xK (doesF xL xK ck cn kd no)))).cell? ⟨gb, 0, none⟩ = some (.slice A8 n8 c8) ∧ ((w2.setCell ⟨w1.heap.size, 0, none⟩ (.slice A8 n8 c8)).setCell ⟨w1.heap.size, 1, none⟩ (.int .i64 (applyK xK (doesF xL xK ck cn kd no)))).cell? ⟨gb, 1, none⟩ = some (.int .i64 (applyK xK (doesF xL xK ck cn kd no))) := ⟨_, rfl, ((HBX2.out.put 0 (.slice A8 n8 c8)).put 1 (.int .i64 (applyK xK (doesF xL xK ck cn kd no)))).cell 0, ((HBX2.out.put 0 (.slice A8 n8 c8)).put 1 (.int .i64 (applyK xK (doesF xL xK ck cn kd no)))).cell 1⟩; obtain ⟨wf, hwf⟩ : ∃ wf, ((w2.setCell ⟨w1.heap.size, 0, none⟩ (.slice A8 n8 c8)).setCell ⟨w1.heap.size, 1, none⟩ (.int .i64 (applyK xK (doesF xL xK ck cn kd no)))) = wf := ⟨_, rfl⟩; rw [hwf] at HBf HOf y1 z0 z1; rw [hwf]; rw [← hgb]; clear hwf hgb)
          have HO8 := HOf
          have HB2 := HBf
          clear HOf HBf
          obtain ⟨KA, hKA⟩ : ∃ q, applyK xK (doesF xL xK ck cn kd no) = q := ⟨_, rfl⟩
          obtain ⟨LA, hLA⟩ : ∃ q, applyL xL (doesF xL xK ck cn kd no) cn kd = q := ⟨_, rfl⟩
          rw [hLA] at HLN HO8 HD
          rw [hKA] at HD z1 ⊢
          clear hKA hLA
          obtain ⟨ee, hee⟩ : ∃ q, (doesF xL xK ck cn kd no).e = q := ⟨_, rfl⟩
          rw [hee] at HE HD ⊢
          by_cases he : ee = 0
          · subst he
            have HD2 := Lib.hid (HD.out rfl)
            have HP2 := Lib.hid (HPX.out wf HB2.out A8 n8 c8 LA KA HO8.out HLN.out)
            have hal : Below wf.heap.size wf (wf.alloc (.cells #[.string tn, .slice A8 n8 c8, .int .i64 KA] 30)) := (Below.refl _ wf).alloc (Nat.le_refl _) _
            have HBa := Lib.hid (HB2.out.trans (hal.mono HB2.out.size))
            clear HPX HBD hal HD
            go_wp2_with fail
            refine HP2.out.mono ?_
            rintro e w5 ⟨v5, T5, rfl, ho5, hc5, hb5⟩
            have HB5 := Lib.hid (HBa.out.trans (hb5.out.mono HBa.out.size))
            obtain ⟨A7, n7, c7, rfl, _, _, _, _, _⟩ := ownT_open ho5.out
            have HO5 := Lib.hid (ownT_down ho5.out HBa.out.size)
            have HC5 := Lib.hid (hc5.out.down HBa.out.size)
            clear ho5 hc5 hb5 HP2
            go_wp2_with fail
            go_ret2
            exact ⟨_, T5, by rw [HE.out]; rfl, ⟨HO5.out, HC5.out.cols⟩, by show _ = _; rw [HC5.out.td, HD2.out, HTD.out]; rfl, HB5⟩
          · have HB0 := Lib.hid (HBD.out (by rw [HE.out]; exact he))
            go_wp2_with fail
            go_ret2
            exact ⟨_, [], by rw [HE.out]; rfl, ownTs_nil _ _, by show _ = _; rw [HB0.out]; rfl, HB2⟩
end Go.Proofs.YtiefogofiajmnaaDoor
