/-
  The document's Follow, of whatever kind; tables behind a change may be.
-/
import Derived.Test.YtiefogofiajmnaaDoorFw
import Derived.Test.YtiefogofiajmnaaDoorFz
import Derived.Test.YtiefogofiajmnaaDoorMg8
namespace Go.Proofs.YtiefogofiajmnaaDoor
open Go.RowKit Dg
set_option maxRecDepth 100000
theorem appT_g (w : World) (g : Nat) (hg0 : g = w.heap.size) (B : Nat) (v : Value) (L : List Tb) (x : Tb) (h : OwnT B w v L) (hB : B ≤ w.heap.size) (hl : L.length ≤ 1000) :
    ∃ R W', (Builtin.append_ #[22, 22] 22 #[v, .slice (some ⟨g, 0, none⟩) 1 1]).run Tryd.prog (w.alloc (.cells #[.string x.nm, .slice x.A x.n x.c, .int .i64 x.K] 30)) = .ok R W' ∧ OwnT B W' R (L ++ [x]) ∧ Below B w W' ∧ (w.alloc (.cells #[.string x.nm, .slice x.A x.n x.c, .int .i64 x.K] 30)).grownBy W' v.ownBlock := by
  subst hg0
  obtain ⟨i0, hi, hz0, hz1, hz2⟩ := info_parts infoT
  obtain ⟨R, W', hrun, hown, hg, _⟩ := run_append_own (P := Tryd.prog) (w.alloc (.cells x.row.toArray 30)) B 22 22 30 i0 _ 3 48 Tryd.underlying22 hi hz0 hz1 hz2 rfl (by decide) v L.length (L.flatMap Tb.row) (h.alloc _)
    ⟨w.heap.size, 0, none⟩ 1 1 x.row rfl (fun j u hj => by
      have := (Has.new w 30 x.row.toArray).cell j
      rw [List.getElem?_toArray] at this
      rw [Addr.add_lit, Nat.zero_add]
      exact this.trans hj) (fun u hu => by simp [Tb.row] at hu; rcases hu with rfl | rfl | rfl <;> rfl) (by unfold maxLen; omega) (by omega) (by simp; omega)
  refine ⟨R, W', hrun, ?_, ?_, hg⟩
  · unfold OwnT; rw [List.flatMap_append, List.length_append]; simpa using hown
  · exact ((Below.refl B w).alloc hB _).grown hg (by simp; omega) fun k hk => (World.ownsRow.lt h k hk).1
theorem appTs_g (w : World) (B : Nat) (v : Value) (L : List Tb) (h : OwnT B w v L) (hB : B ≤ w.heap.size) (A : Option Addr) (M : List Tb) (n c : Nat) (hn : M.length = n) (hA : TRow w A M) (h0 : A = none → c = 0) (hl : L.length + n ≤ 1000) :
    ∃ R W', (Builtin.append_ #[22, 22] 22 #[v, .slice A n c]).run Tryd.prog w = .ok R W' ∧ OwnT B W' R (L ++ M) ∧ Below B w W' ∧ w.grownBy W' v.ownBlock := by
  subst hn
  obtain ⟨i0, hi, hz0, hz1, hz2⟩ := info_parts infoT
  by_cases hM : M = []
  · subst hM
    rcases A with _ | a
    · rw [h0 rfl, List.append_nil]
      exact ⟨v, w, run_append_owned_none w B 22 22 30 i0 3 Tryd.underlying22 hi v _ _ h, h, Below.refl _ _, ⟨rfl, rfl, rfl, Nat.le_refl _, fun _ _ _ => rfl⟩⟩
    · obtain ⟨R, W', hrun, hown, hg, _⟩ := run_append_own (P := Tryd.prog) w B 22 22 30 i0 _ 3 48 Tryd.underlying22 hi hz0 hz1 hz2 rfl (by decide) v L.length (L.flatMap Tb.row) h
        a 0 c [] rfl (fun j u hj => by simp at hj) (fun u hu => by cases hu) (by unfold maxLen; omega) (by omega) hB
      refine ⟨R, W', hrun, ?_, (Below.refl B w).grown hg hB fun k hk => (World.ownsRow.lt h k hk).1, hg⟩
      unfold OwnT; simpa using hown
  · obtain ⟨b, off, rfl, hc⟩ := hA hM
    obtain ⟨R, W', hrun, hown, hg, _⟩ := run_append_own (P := Tryd.prog) w B 22 22 30 i0 _ 3 48 Tryd.underlying22 hi hz0 hz1 hz2 rfl (by decide) v L.length (L.flatMap Tb.row) h
      ⟨b, off, none⟩ M.length c (M.flatMap Tb.row) (by rw [tflat_len]) (fun j u hj => by rw [Addr.add_lit]; exact trow_cell hc j u hj) (fun u hu => by
        obtain ⟨x, _, hx⟩ := List.mem_flatMap.1 hu
        simp [Tb.row] at hx; rcases hx with rfl | rfl | rfl <;> rfl) (by unfold maxLen; omega) (by omega) hB
    refine ⟨R, W', hrun, ?_, (Below.refl B w).grown hg hB fun k hk => (World.ownsRow.lt h k hk).1, hg⟩
    unfold OwnT; rw [List.flatMap_append, List.length_append]; exact hown
theorem OwnC.beside {D B : Nat} {w w' : World} {v u : Value} {L : List Cl} {T : List Tb} (h : OwnC D w v L) (ho : OwnT B w u T) (hg : w.grownBy w' u.ownBlock) : OwnC D w' v L := by
  rcases h.2 with ⟨hv, hn⟩ | ⟨g, cap, cur, hv, hgD, hh, hc, hcm, hsz, ht⟩
  · exact ⟨h.1, .inl ⟨hv, hn⟩⟩
  · refine ⟨h.1, .inr ⟨g, cap, cur, hv, hgD, ?_, hc, hcm, hsz, ht⟩⟩
    have hlt := Has.lt (t := 38) (cs := cur) hh
    refine (hg.block g hlt fun e => ?_).trans hh
    rcases ho.2 with ⟨rfl, _⟩ | ⟨k, _, cur2, rfl, _, hk, _⟩
    · cases e
    · have e2 : k = g := by simp [Value.ownBlock] at e; omega
      subst e2
      have := hk.symm.trans hh
      injection this with this
      injection this with _ h2 _
      exact absurd h2 (by decide)
theorem Has.beside {B : Nat} {w w' : World} {g : Nat} {t : TypeId} {cs : Array Value} {u : Value} {T : List Tb} (h : Has w g t cs) (ht : t ≠ 30) (ho : OwnT B w u T) (hg : w.grownBy w' u.ownBlock) : Has w' g t cs := by
  refine (hg.block g h.lt fun e => ?_).trans h
  rcases ho.2 with ⟨rfl, _⟩ | ⟨k, _, cur2, rfl, _, hk, _⟩
  · cases e
  · have e2 : k = g := by simp [Value.ownBlock] at e; omega
    subst e2
    have := hk.symm.trans h
    injection this with this
    injection this with _ h2 _
    exact ht h2.symm
theorem fcT_oks {w w' : World} {T : List Tb} {tn : ByteArray} {A' : Option Addr} {n' c' : Nat} {L' : List Cl} {K' : Int} (hI : TOks w T) (hb : Below w.heap.size w w') (hn' : L'.length = n') (hnc' : n' ≤ c') (hcm' : c' ≤ maxLen) (hA' : CRow w A' L') (hA0' : A' = none → c' = 0) : TOks w' (fcT T tn A' n' c' L' K') := by
  by_cases h : fcE T tn L' K' = 0
  · rw [fcT_ok h]
    intro x hx
    rw [List.append_assoc, List.mem_append] at hx
    rcases hx with hx | hx
    · exact (hI x (List.mem_of_mem_take hx)).below hb
    · rw [List.singleton_append, List.mem_cons] at hx
      rcases hx with rfl | hx
      · have hm : smayF L' K' = true := by
          cases hq : smayF L' K'
          · exfalso
            unfold fcE at h
            rw [hq] at h
            split at h
            · omega
            · split at h
              · omega
              · simp at h
          · rfl
        have := may_few hm
        exact ⟨hn', hnc', hcm', hA'.below hb, hA0', by show n' ≤ 900; omega⟩
      · exact (hI x (List.mem_of_mem_drop hx)).below hb
  · rw [fcT_bad h]; exact fun x hx => by cases hx
set_option maxHeartbeats 2000000 in
theorem rfollow_any (A : Option Addr) (T : List Tb) (n c : Nat) (ck : Int) (tn : ByteArray) (A' : Option Addr) (n' c' : Nat) (L' : List Cl) (K' : Int) (cn : ByteArray) (kd : Int) (no : Bool) (w : World) (hn : T.length = n) (hnc : n ≤ c) (hcm : c ≤ maxLen) (hl : n ≤ 900) (hA : TRow w A T) (hA0 : A = none → c = 0) (hI : TOks w T) (hS : SortT T) (hsm : ∀ x ∈ T, 0 < x.L.length ∧ x.L.length ≤ 800)
    (hn' : L'.length = n') (hnc' : n' ≤ c') (hcm' : c' ≤ maxLen) (hA' : CRow w A' L') (hA0' : A' = none → c' = 0) :
    Calls Tryd.prog 19 #[.slice A n c, .agg #[.int .i64 ck, .string tn, .slice A' n' c', .int .i64 K', .string cn, .int .i64 kd, .bool no]] w fun e w' => ∃ v T', e = .returned (.tuple #[v, .int .i64 (foE T ck tn L' K' cn kd no)]) ∧ Hid (OwnT w.heap.size w' v T') ∧ Hid (TOks w' T') ∧ Hid (tds T' = foD T ck tn L' K' cn kd no) ∧ Hid (Below w.heap.size w w') := by
  by_cases h1 : ck = 1
  · subst h1
    refine (rfolC_any A T n c tn A' n' c' L' K' cn kd no w hn hnc hcm hl hA hA0 hS hn' hA').mono ?_
    rintro e w' ⟨v, rfl, ho, hb⟩
    exact ⟨v, _, by rw [foE_c], ho, fcT_oks hI hb.out hn' hnc' hcm' hA' hA0', fcT_td, hb⟩
  have HB0 := Lib.hid ((Below.refl w.heap.size w).alloc (Nat.le_refl _) (.cells #[.int .i64 ck, .string tn, .slice A' n' c', .int .i64 K', .string cn, .int .i64 kd, .bool no] 40))
  have HX0 := Lib.hid (Has.new w 40 #[.int .i64 ck, .string tn, .slice A' n' c', .int .i64 K', .string cn, .int .i64 kd, .bool no])
  have HAT := Lib.hid (fun (W : World) (hb : Below w.heap.size w W) => at_any A T n c tn W hn (by omega) (hA.below hb))
  have HN := Lib.hid hn
  have HA := Lib.hid hA
  have HI := Lib.hid hI
  have HSM := Lib.hid hsm
  have hcm1 : c ≤ 2 ^ 63 - 1 := by unfold maxLen at hcm; exact hcm
  rcases hp : plF T tn with _ | _
  · have HTI := Lib.hid (tat_no hS hp)
    have HE := Lib.hid (foE_none (L' := L') (K' := K') (cn := cn) (kd := kd) (no := no) h1 hp)
    clear hn hA hA' hn' hI hsm hS hA0'
    go_enter Tryd.func19, Tryd.ntmps19
    go_wp2_with fail
    refine (HAT.out _ HB0.out).mono ?_
    rintro e w1 ⟨rfl, rfl⟩
    rw [HTI.out]
    go_wp2_with fail
    go_ret2
    exact ⟨_, [], by rw [HE.out]; rfl, ownT_nil _ _, (fun x hx => by cases hx), by show _ = _; rw [foD_bad (by rw [HE.out]; omega)]; rfl, HB0⟩
  · have hkl := plF_lt hp
    have HTI := Lib.hid (tat_yes hp)
    obtain ⟨b, off, rfl, hcc⟩ := hA (by intro e; rw [e] at hkl; simp at hkl)
    have HTD := Lib.hid (tds_ins T)
    have hx := hI T[lbN T tn] (List.getElem_mem hkl)
    have hxs := hsm T[lbN T tn] (List.getElem_mem hkl)
    obtain ⟨c0, c1, c2⟩ := hcc _ hkl
    have hnm : T[lbN T tn].nm = tn := by
      have h := plF_at hkl
      rw [hp] at h
      exact bytes_inj h.symm
    rw [hnm] at c0
    have HE2 := Lib.hid (foE_drop (L' := L') (K' := K') (cn := cn) (kd := kd) (no := no) hp)
    have HD2 := Lib.hid (foD_drop (L' := L') (K' := K') (cn := cn) (kd := kd) (no := no) hp)
    have HE := Lib.hid (fun h2 => foE_alter (L' := L') (K' := K') (cn := cn) (kd := kd) (no := no) h1 h2 hp hkl)
    have HD := Lib.hid (fun h2 => foD_alter (L' := L') (K' := K') (cn := cn) (kd := kd) (no := no) h1 h2 hp hkl)
    have HBD := Lib.hid (foD_bad (T := T) (ck := ck) (tn := tn) (L' := L') (K' := K') (cn := cn) (kd := kd) (no := no))
    have hk1 : lbN T tn + 1 ≤ n := by rw [← hn]; omega
    clear hn hA hA' hn' hI hsm hS hA0' hcc hnm
    obtain ⟨k, hk⟩ : ∃ k, lbN T tn = k := ⟨_, rfl⟩
    simp only [hk] at HE HD HD2 HTI c0 c1 c2 hx hxs hk1
    generalize T[k]'(by rw [← hk]; exact hkl) = x at *
    obtain ⟨xs, xA, xn, xc, xL, xK⟩ := x
    simp only at c1 c2 HE HD hxs
    clear hkl
    have hkz : (k : Int) < (n : Int) := by omega
    have hkc : (k : Int) ≤ (c : Int) := by omega
    have hkz1 : (k : Int) + 1 ≤ (n : Int) := by omega
    have hkz2 : (k : Int) + 1 ≤ (c : Int) := by omega
    have hkz3 : (n : Int) ≤ (c : Int) := by omega
    by_cases h2 : ck = 2
    · subst h2
      by_cases hck : c = k + 1
      · obtain rfl : n = k + 1 := by omega
        subst hck
        go_enter Tryd.func19, Tryd.ntmps19
        go_wp2_with fail
        refine (HAT.out _ HB0.out).mono ?_
        rintro e w1 ⟨rfl, rfl⟩
        rw [HTI.out]
        obtain ⟨w1, hw1⟩ : ∃ w1, (w.alloc (.cells #[.int .i64 2, .string tn, .slice A' n' c', .int .i64 K', .string cn, .int .i64 kd, .bool no] 40)) = w1 := ⟨_, rfl⟩
        rw [hw1] at HB0 HX0 ⊢
        clear hw1
        have x0 : w1.cell? ⟨w.heap.size, 0, none⟩ = some (.int .i64 2) := HX0.out.cell 0
        have HA1 := Lib.hid (appTs w1 (w.heap.size + 1) (.slice none 0 0) [] (ownT_nil _ _) HX0.out.lt (some ⟨b, off, none⟩) (T.take k) k (k + 1) (by rw [List.length_take]; have := HN.out; omega) ((HA.out.below HB0.out).take k) (fun e => by cases e) (by have := HN.out; simp <;> omega))
        go_wp2_with (first
          | (at_builtin; refine wpList_app rfl _ _ 22 22 rfl (.slice none 0 0) (.slice (some ⟨b, off, none⟩) k (k + 1)) rfl rfl ?_; obtain ⟨R, W1, hrun, hm1, hm2⟩ := HA1.out; refine ⟨R, W1, hrun, ?_⟩; obtain ⟨A7, n7, c7, hR, HN7, hnc7, hcm7, _, _⟩ := ownT_open hm1; subst hR; have HB1 := Lib.hid (HB0.out.trans (hm2.mono (by omega))); have HX1 := Lib.hid (HX0.out.below hm2 (by omega)); have HO1 := Lib.hid hm1; have q0 : W1.cell? ⟨w.heap.size, 0, none⟩ = some (.int .i64 2) := HX1.out.cell 0; have HA3 := Lib.hid (appTs W1 (w.heap.size + 1) (.slice A7 n7 c7) _ hm1 HX1.out.lt (some ⟨b, off, none⟩) (T.drop (k + 1)) 0 0 (by rw [List.length_drop]; have := HN.out; omega) (by rw [List.drop_eq_nil_of_le (by have := HN.out; omega)]; exact fun h => absurd rfl h) (fun e => by cases e) (by have := HN.out; simp <;> omega)); clear hrun hm1 hm2 HA1)
          | (at_builtin; refine wpList_app rfl _ _ 22 22 rfl (.slice A7 n7 c7) (.slice (some ⟨b, off, none⟩) 0 0) rfl rfl ?_; obtain ⟨R, W3, hrun, hm1, hm2⟩ := HA3.out; refine ⟨R, W3, hrun, ?_⟩; have HO := Lib.hid hm1; have HB5 := Lib.hid (HB1.out.trans (hm2.mono (by omega))); clear hrun hm1 hm2 HA3))
        go_ret2
        exact ⟨_, _, by rw [HE2.out]; rfl, ownT_down HO.out (by omega), (fun y hy => by
          rw [List.nil_append, List.mem_append] at hy
          rcases hy with hy | hy
          · exact (HI.out y (List.mem_of_mem_take hy)).below HB5.out
          · exact (HI.out y (List.mem_of_mem_drop hy)).below HB5.out), by show _ = _; rw [HD2.out, List.nil_append, tds_del], HB5⟩
      · go_enter Tryd.func19, Tryd.ntmps19
        go_wp2_with fail
        refine (HAT.out _ HB0.out).mono ?_
        rintro e w1 ⟨rfl, rfl⟩
        rw [HTI.out]
        obtain ⟨w1, hw1⟩ : ∃ w1, (w.alloc (.cells #[.int .i64 2, .string tn, .slice A' n' c', .int .i64 K', .string cn, .int .i64 kd, .bool no] 40)) = w1 := ⟨_, rfl⟩
        rw [hw1] at HB0 HX0 ⊢
        clear hw1
        have x0 : w1.cell? ⟨w.heap.size, 0, none⟩ = some (.int .i64 2) := HX0.out.cell 0
        have HA1 := Lib.hid (appTs w1 (w.heap.size + 1) (.slice none 0 0) [] (ownT_nil _ _) HX0.out.lt (some ⟨b, off, none⟩) (T.take k) k c (by rw [List.length_take]; have := HN.out; omega) ((HA.out.below HB0.out).take k) (fun e => by cases e) (by have := HN.out; simp <;> omega))
        go_wp2_with (first
          | (at_builtin; refine wpList_app rfl _ _ 22 22 rfl (.slice none 0 0) (.slice (some ⟨b, off, none⟩) k c) rfl rfl ?_; obtain ⟨R, W1, hrun, hm1, hm2⟩ := HA1.out; refine ⟨R, W1, hrun, ?_⟩; obtain ⟨A7, n7, c7, hR, HN7, hnc7, hcm7, _, _⟩ := ownT_open hm1; subst hR; have HB1 := Lib.hid (HB0.out.trans (hm2.mono (by omega))); have HX1 := Lib.hid (HX0.out.below hm2 (by omega)); have HO1 := Lib.hid hm1; have q0 : W1.cell? ⟨w.heap.size, 0, none⟩ = some (.int .i64 2) := HX1.out.cell 0; have HA3 := Lib.hid (appTs W1 (w.heap.size + 1) (.slice A7 n7 c7) _ hm1 HX1.out.lt (some ⟨b, off + (k + 1) * 3, none⟩) (T.drop (k + 1)) (n - (k + 1)) (c - (k + 1)) (by rw [List.length_drop]; have := HN.out; omega) (by have h : TRow W1 _ T := HA.out.below HB1.out; exact h.drop (k + 1)) (fun e => by cases e) (by have := HN.out; simp <;> omega)); clear hrun hm1 hm2 HA1)
          | (at_builtin; refine wpList_app rfl _ _ 22 22 rfl (.slice A7 n7 c7) (.slice (some ⟨b, off + (k + 1) * 3, none⟩) (n - (k + 1)) (c - (k + 1))) rfl rfl ?_; obtain ⟨R, W3, hrun, hm1, hm2⟩ := HA3.out; refine ⟨R, W3, hrun, ?_⟩; have HO := Lib.hid hm1; have HB5 := Lib.hid (HB1.out.trans (hm2.mono (by omega))); clear hrun hm1 hm2 HA3))
        go_ret2
        exact ⟨_, _, by rw [HE2.out]; rfl, ownT_down HO.out (by omega), (fun y hy => by
          rw [List.nil_append, List.mem_append] at hy
          rcases hy with hy | hy
          · exact (HI.out y (List.mem_of_mem_take hy)).below HB5.out
          · exact (HI.out y (List.mem_of_mem_drop hy)).below HB5.out), by show _ = _; rw [HD2.out, List.nil_append, tds_del], HB5⟩
    · have HE := Lib.hid (HE.out h2)
      have HD := Lib.hid (HD.out h2)
      go_enter Tryd.func19, Tryd.ntmps19
      go_wp2_with fail
      refine (HAT.out _ HB0.out).mono ?_
      rintro e w1 ⟨rfl, rfl⟩
      rw [HTI.out]
      obtain ⟨w1, hw1⟩ : ∃ w1, (w.alloc (.cells #[.int .i64 ck, .string tn, .slice A' n' c', .int .i64 K', .string cn, .int .i64 kd, .bool no] 40)) = w1 := ⟨_, rfl⟩
      rw [hw1] at HB0 HX0 ⊢
      clear hw1
      have x0 : w1.cell? ⟨w.heap.size, 0, none⟩ = some (.int .i64 ck) := HX0.out.cell 0
      have HA1 := Lib.hid (appTs w1 (w.heap.size + 1) (.slice none 0 0) [] (ownT_nil _ _) HX0.out.lt (some ⟨b, off, none⟩) (T.take k) k c (by rw [List.length_take]; have := HN.out; omega) ((HA.out.below HB0.out).take k) (fun e => by cases e) (by have := HN.out; simp <;> omega))
      go_wp2_with (first
        | (at_builtin; refine wpList_app rfl _ _ 22 22 rfl (.slice none 0 0) (.slice (some ⟨b, off, none⟩) k c) rfl rfl ?_; obtain ⟨R, W1, hrun, hm1, hm2⟩ := HA1.out; refine ⟨R, W1, hrun, ?_⟩; obtain ⟨A7, n7, c7, hR, HN7, hnc7, hcm7, _, _⟩ := ownT_open hm1; subst hR; have HB1 := Lib.hid (HB0.out.trans (hm2.mono (by omega))); have HX1 := Lib.hid (HX0.out.below hm2 (by omega)); have HO1 := Lib.hid hm1; have q0 : W1.cell? ⟨w.heap.size, 0, none⟩ = some (.int .i64 ck) := HX1.out.cell 0; clear hrun hm1 hm2 HA1))
      have hlen : xL.length = xn := hx.len
      have HAP := Lib.hid (fun (W : World) (hb : Below w.heap.size w W) => rapply_any xA xL xn xc xK ck tn A' n' c' K' cn kd no W hlen (by omega) hx.few (hx.row.below hb))
      have HLN := Lib.hid (apply_len (L := xL) (K := xK) (ck := ck) (cn := cn) (kd := kd) (no := no) hxs.2)
      have hbr : Hid (Below w.heap.size w W1) := HB1
      have hb0 : Hid (Below w.heap.size w W1.drew) := HB1.out.drew
      have hw0 : Hid (Below W1.heap.size W1 W1.drew) := (Below.refl _ W1).drew
      have p0 : W1.cell? ⟨b, off + k * 3, none⟩ = some (.string tn) := (HB1.out.cell (World.block_lt_of_cell? _ _ c0)).trans c0
      have p1 : W1.cell? ⟨b, off + k * 3 + 1, none⟩ = some (.slice xA xn xc) := (HB1.out.cell (World.block_lt_of_cell? _ _ c1)).trans c1
      have p2 : W1.cell? ⟨b, off + k * 3 + 2, none⟩ = some (.int .i64 xK) := (HB1.out.cell (World.block_lt_of_cell? _ _ c2)).trans c2
      have hbk : b < w.heap.size + 1 := by have := World.block_lt_of_cell? _ _ c1; simp at this; omega
      have hne0 : W1.heap.size ≠ w.heap.size := by have := HX1.out.lt; omega
      have hneb : W1.heap.size ≠ b := by have := World.block_lt_of_cell? _ _ p1; intro e; simp at this; omega
      have d0 : W1.drew.cell? ⟨w.heap.size, 0, none⟩ = some (.int .i64 ck) := HX1.out.drew.cell 0
      have d1 : W1.drew.cell? ⟨w.heap.size, 1, none⟩ = some (.string tn) := HX1.out.drew.cell 1
      have d2 : W1.drew.cell? ⟨w.heap.size, 2, none⟩ = some (.slice A' n' c') := HX1.out.drew.cell 2
      have d3 : W1.drew.cell? ⟨w.heap.size, 3, none⟩ = some (.int .i64 K') := HX1.out.drew.cell 3
      have d4 : W1.drew.cell? ⟨w.heap.size, 4, none⟩ = some (.string cn) := HX1.out.drew.cell 4
      have d5 : W1.drew.cell? ⟨w.heap.size, 5, none⟩ = some (.int .i64 kd) := HX1.out.drew.cell 5
      have d6 : W1.drew.cell? ⟨w.heap.size, 6, none⟩ = some (.bool no) := HX1.out.drew.cell 6
      have d7 : W1.drew.cell? ⟨b, off + k * 3 + 1, none⟩ = some (.slice xA xn xc) := p1
      have d8 : W1.drew.cell? ⟨b, off + k * 3 + 2, none⟩ = some (.int .i64 xK) := p2
      have hal : Below W1.heap.size W1 (W1.alloc (.cells #[.slice none 0 0, .int .i64 0] 28)) := (Below.refl _ W1).alloc (Nat.le_refl _) _
      have hwA : Hid (Below W1.heap.size W1 (W1.alloc (.cells #[.slice none 0 0, .int .i64 0] 28)).drew) := hal.drew
      have hbA : Hid (Below w.heap.size w (W1.alloc (.cells #[.slice none 0 0, .int .i64 0] 28)).drew) := (HB1.out.trans (hal.mono HB1.out.size)).drew
      have f0 : (W1.alloc (.cells #[.slice none 0 0, .int .i64 0] 28)).drew.cell? ⟨w.heap.size, 0, none⟩ = some (.int .i64 ck) := keepC hal.drew (HX1.out.cell 0)
      have f1 : (W1.alloc (.cells #[.slice none 0 0, .int .i64 0] 28)).drew.cell? ⟨w.heap.size, 1, none⟩ = some (.string tn) := keepC hal.drew (HX1.out.cell 1)
      have f2 : (W1.alloc (.cells #[.slice none 0 0, .int .i64 0] 28)).drew.cell? ⟨w.heap.size, 2, none⟩ = some (.slice A' n' c') := keepC hal.drew (HX1.out.cell 2)
      have f3 : (W1.alloc (.cells #[.slice none 0 0, .int .i64 0] 28)).drew.cell? ⟨w.heap.size, 3, none⟩ = some (.int .i64 K') := keepC hal.drew (HX1.out.cell 3)
      have f4 : (W1.alloc (.cells #[.slice none 0 0, .int .i64 0] 28)).drew.cell? ⟨w.heap.size, 4, none⟩ = some (.string cn) := keepC hal.drew (HX1.out.cell 4)
      have f5 : (W1.alloc (.cells #[.slice none 0 0, .int .i64 0] 28)).drew.cell? ⟨w.heap.size, 5, none⟩ = some (.int .i64 kd) := keepC hal.drew (HX1.out.cell 5)
      have f6 : (W1.alloc (.cells #[.slice none 0 0, .int .i64 0] 28)).drew.cell? ⟨w.heap.size, 6, none⟩ = some (.bool no) := keepC hal.drew (HX1.out.cell 6)
      have f7 : (W1.alloc (.cells #[.slice none 0 0, .int .i64 0] 28)).drew.cell? ⟨b, off + k * 3 + 1, none⟩ = some (.slice xA xn xc) := keepC hal.drew p1
      have f8 : (W1.alloc (.cells #[.slice none 0 0, .int .i64 0] 28)).drew.cell? ⟨b, off + k * 3 + 2, none⟩ = some (.int .i64 xK) := keepC hal.drew p2
      have HBX := Lib.hid (Has.new W1 28 #[.slice none 0 0, .int .i64 0]).drew
      clear hal hx hxs q0 c0 c1 c2 HX0
      go_region_held3 (fun X => Hid (Below w.heap.size w X) ∧ X.cell? ⟨w.heap.size, 0, none⟩ = some (.int .i64 ck) ∧ X.cell? ⟨w.heap.size, 1, none⟩ = some (.string tn) ∧ X.cell? ⟨w.heap.size, 2, none⟩ = some (.slice A' n' c') ∧ X.cell? ⟨w.heap.size, 3, none⟩ = some (.int .i64 K') ∧ X.cell? ⟨w.heap.size, 4, none⟩ = some (.string cn) ∧ X.cell? ⟨w.heap.size, 5, none⟩ = some (.int .i64 kd) ∧ X.cell? ⟨w.heap.size, 6, none⟩ = some (.bool no) ∧ X.cell? ⟨b, off + k * 3 + 1, none⟩ = some (.slice xA xn xc) ∧ X.cell? ⟨b, off + k * 3 + 2, none⟩ = some (.int .i64 xK)) ((first | (refine ⟨by first | assumption | exact hid_d1 (by assumption) _ | exact hid_a1 (by assumption) _, ?_⟩; go_keep) | exact ⟨hid_c2 (by assumption) hbr.out.size _ _, cell_s2 hne0 (by assumption), cell_s2 hne0 (by assumption), cell_s2 hne0 (by assumption), cell_s2 hne0 (by assumption), cell_s2 hne0 (by assumption), cell_s2 hne0 (by assumption), cell_s2 hne0 (by assumption), cell_s2 hneb (by assumption), cell_s2 hneb (by assumption)⟩))
        (first | (go_at_call 37; (with_reducible refine (HAP.out W1.drew hb0.out).mono ?_); rintro e w2 ⟨v8, rfl, ho8, hb8⟩; obtain ⟨A8, n8, c8, rfl, _, _, _, _, _⟩ := ownC_open ho8.out; have i0 := keepC hb8.out d0; have i1 := keepC hb8.out d1; have i2 := keepC hb8.out d2; have i3 := keepC hb8.out d3; have i4 := keepC hb8.out d4; have i5 := keepC hb8.out d5; have i6 := keepC hb8.out d6; have i7 := keepC hb8.out d7; have i8 := keepC hb8.out d8; have HB2 : Hid (Below w.heap.size w w2) := hb0.out.trans (hb8.out.mono hb0.out.size); have HW2 : Hid (Below W1.heap.size W1 w2) := hw0.out.trans (hb8.out.mono hw0.out.size); have HO8 : Hid (OwnC W1.heap.size w2 (.slice A8 n8 c8) (applyL xL (doesF xL xK ck cn kd no) cn kd)) := ownC_down ho8.out hw0.out.size; clear ho8 hb8) | (go_at_call 37; (with_reducible refine (HAP.out (W1.alloc (.cells #[.slice none 0 0, .int .i64 0] 28)).drew hbA.out).mono ?_); rintro e w2 ⟨v8, rfl, ho8, hb8⟩; obtain ⟨A8, n8, c8, rfl, _, _, _, _, _⟩ := ownC_open ho8.out; have i0 := keepC hb8.out f0; have i1 := keepC hb8.out f1; have i2 := keepC hb8.out f2; have i3 := keepC hb8.out f3; have i4 := keepC hb8.out f4; have i5 := keepC hb8.out f5; have i6 := keepC hb8.out f6; have i7 := keepC hb8.out f7; have i8 := keepC hb8.out f8; have HB2 : Hid (Below w.heap.size w w2) := hbA.out.trans (hb8.out.mono hbA.out.size); have HW2 : Hid (Below W1.heap.size W1 w2) := hwA.out.trans (hb8.out.mono hwA.out.size); have HO9 : Hid (OwnC (W1.heap.size + 1) w2 (.slice A8 n8 c8) (applyL xL (doesF xL xK ck cn kd no) cn kd)) := ownC_down ho8.out (by simp); have HBX2 := Lib.hid (HBX.out.below hb8.out HBX.out.lt); have b0 : w2.cell? ⟨W1.heap.size, 0, none⟩ = some (.slice none 0 0) := HBX2.out.cell 0; have b1 : w2.cell? ⟨W1.heap.size, 1, none⟩ = some (.int .i64 0) := HBX2.out.cell 1; have g0 := HBX2.out.free 0; have g1 := HBX2.out.free 1; clear ho8 hb8))
      all_goals
        first
          | (have HWf : Hid (Below W1.heap.size W1 (w2.alloc (.cells #[.slice A8 n8 c8, .int .i64 (applyK xK (doesF xL xK ck cn kd no))] 28))) := HW2.out.alloc HW2.out.size _; have HOf : Hid (OwnC W1.heap.size (w2.alloc (.cells #[.slice A8 n8 c8, .int .i64 (applyK xK (doesF xL xK ck cn kd no))] 28)) (.slice A8 n8 c8) (applyL xL (doesF xL xK ck cn kd no) cn kd)) := HO8.out.below ((Below.refl _ w2).alloc (Nat.le_refl _) _); obtain ⟨gb, hgb, HZ⟩ : ∃ gb, gb = w2.heap.size ∧ Hid (Has (w2.alloc (.cells #[.slice A8 n8 c8, .int .i64 (applyK xK (doesF xL xK ck cn kd no))] 28)) gb 28 #[.slice A8 n8 c8, .int .i64 (applyK xK (doesF xL xK ck cn kd no))]) := ⟨_, rfl, Has.new w2 28 #[.slice A8 n8 c8, .int .i64 (applyK xK (doesF xL xK ck cn kd no))]⟩; obtain ⟨wf, hwf⟩ : ∃ wf, (w2.alloc (.cells #[.slice A8 n8 c8, .int .i64 (applyK xK (doesF xL xK ck cn kd no))] 28)) = wf := ⟨_, rfl⟩; rw [hwf] at HWf HOf HZ; rw [hwf]; rw [← hgb]; clear hwf hgb)
          | (have HWf : Hid (Below W1.heap.size W1 ((w2.setCell ⟨W1.heap.size, 0, none⟩ (.slice A8 n8 c8)).setCell ⟨W1.heap.size, 1, none⟩ (.int .i64 (applyK xK (doesF xL xK ck cn kd no))))) := (HW2.out.setCell (Nat.le_refl _) _).setCell (Nat.le_refl _) _; have HOf : Hid (OwnC W1.heap.size ((w2.setCell ⟨W1.heap.size, 0, none⟩ (.slice A8 n8 c8)).setCell ⟨W1.heap.size, 1, none⟩ (.int .i64 (applyK xK (doesF xL xK ck cn kd no)))) (.slice A8 n8 c8) (applyL xL (doesF xL xK ck cn kd no) cn kd)) := ownC_down ((HO9.out.far (p := ⟨W1.heap.size, 0, none⟩) (Nat.lt_succ_self _) _).far (p := ⟨W1.heap.size, 1, none⟩) (Nat.lt_succ_self _) _) (Nat.le_succ _); obtain ⟨gb, hgb, HZ⟩ : ∃ gb, gb = W1.heap.size ∧ Hid (Has ((w2.setCell ⟨W1.heap.size, 0, none⟩ (.slice A8 n8 c8)).setCell ⟨W1.heap.size, 1, none⟩ (.int .i64 (applyK xK (doesF xL xK ck cn kd no)))) gb 28 #[.slice A8 n8 c8, .int .i64 (applyK xK (doesF xL xK ck cn kd no))]) := ⟨_, rfl, (HBX2.out.put 0 (.slice A8 n8 c8)).put 1 (.int .i64 (applyK xK (doesF xL xK ck cn kd no)))⟩; obtain ⟨wf, hwf⟩ : ∃ wf, ((w2.setCell ⟨W1.heap.size, 0, none⟩ (.slice A8 n8 c8)).setCell ⟨W1.heap.size, 1, none⟩ (.int .i64 (applyK xK (doesF xL xK ck cn kd no)))) = wf := ⟨_, rfl⟩; rw [hwf] at HWf HOf HZ; rw [hwf]; rw [← hgb]; clear hwf hgb)
        have HBf := Lib.hid (HB1.out.trans (HWf.out.mono HB1.out.size))
        have HO1f := Lib.hid (HO1.out.below HWf.out)
        have y0 := keepC HWf.out p0
        have HX1f := Lib.hid (HX1.out.below HWf.out HX1.out.lt)
        clear p0 p1 p2 HX1 HO1 hbr
        obtain ⟨KA, hKA⟩ : ∃ q, applyK xK (doesF xL xK ck cn kd no) = q := ⟨_, rfl⟩
        obtain ⟨LA, hLA⟩ : ∃ q, applyL xL (doesF xL xK ck cn kd no) cn kd = q := ⟨_, rfl⟩
        rw [hLA] at HLN HOf HD
        rw [hKA] at HD HZ ⊢
        have z0 : wf.cell? ⟨gb, 0, none⟩ = some (.slice A8 n8 c8) := HZ.out.cell 0
        have z1 : wf.cell? ⟨gb, 1, none⟩ = some (.int .i64 KA) := HZ.out.cell 1
        clear hKA hLA
        obtain ⟨ee, hee⟩ : ∃ q, (doesF xL xK ck cn kd no).e = q := ⟨_, rfl⟩
        rw [hee] at HE HD ⊢
        by_cases he : ee = 0
        · subst he
          have HDz := Lib.hid (HD.out rfl)
          clear HBD HD
          by_cases hck : c = k + 1
          · obtain rfl : n = k + 1 := by omega
            subst hck
            go_wp2_with fail
            have HZd := Lib.hid HZ.out.drew
            have HXd := Lib.hid HX1f.out.drew
            have hbt : b < w.heap.size + 1 := hbk
            have HA2 := Lib.hid (appT_g wf.drew wf.heap.size rfl (w.heap.size + 1) (.slice A7 n7 c7) ([] ++ T.take k) ⟨tn, A8, n8, c8, LA, KA⟩ (HO1f.out.below (Below.refl _ wf).drew) HX1f.out.lt (by have := HN.out; simp; omega))
            have hald : Below wf.drew.heap.size wf.drew (wf.drew.alloc (.cells #[.string tn, .slice A8 n8 c8, .int .i64 KA] 30)) := (Below.refl _ wf.drew).alloc (Nat.le_refl _) _
            have hwd : Below wf.heap.size wf wf.drew := (Below.refl _ wf).drew
            have v0 : wf.drew.cell? ⟨b, off + k * 3, none⟩ = some (.string tn) := y0
            have v1 : wf.drew.cell? ⟨gb, 0, none⟩ = some (.slice A8 n8 c8) := z0
            have v2 : wf.drew.cell? ⟨gb, 1, none⟩ = some (.int .i64 KA) := z1
            have hkz8 : (k : Int) < (k : Int) + 1 := by omega
            have hkz9 : k < k + 1 := Nat.lt_succ_self k
            go_region_held3 (fun X => X.cell? ⟨b, off + k * 3, none⟩ = some (.string tn) ∧ X.cell? ⟨gb, 0, none⟩ = some (.slice A8 n8 c8) ∧ X.cell? ⟨gb, 1, none⟩ = some (.int .i64 KA)) (go_keep)
              (first
                | (refine step_appA (by rfl) _ _ _ _ (by rfl) (.slice A7 n7 c7) (.slice (some ⟨wf.heap.size, 0, none⟩) 1 1) (by rfl) (by rfl) ?_; obtain ⟨R, W2, hrun, hm1, hm2, hm3⟩ := HA2.out; refine ⟨R, W2, hrun, ?_⟩; obtain ⟨A9, n9, c9, hR, HN9, hnc9, hcm9, _, _⟩ := ownT_open hm1; subst hR; have HB9 := Lib.hid ((HBf.out.trans (hwd.mono HBf.out.size)).trans (hm2.mono (by omega))); have HO9c := Lib.hid (OwnC.beside ((HOf.out.below hwd).below hald) ((HO1f.out.below hwd).below hald) hm3); have HZ9 := Lib.hid (Has.beside (HZd.out.below hald HZd.out.lt) (by decide) ((HO1f.out.below hwd).below hald) hm3); have u0 : W2.cell? ⟨b, off + k * 3, none⟩ = some (.string tn) := belowB hm2 hbt v0; have u1 : W2.cell? ⟨gb, 0, none⟩ = some (.slice A8 n8 c8) := HZ9.out.cell 0; have u2 : W2.cell? ⟨gb, 1, none⟩ = some (.int .i64 KA) := HZ9.out.cell 1; have HO9t := Lib.hid hm1; have HS9 := Lib.hid hm2.size; clear hrun hm1 hm2 hm3 HA2))
            have HA3 := Lib.hid (appTs_g W2 (w.heap.size + 1) (.slice A9 n9 c9) _ HO9t.out (by have := HS9.out; have := HX1f.out.lt; simp at *; omega) (some ⟨b, off, none⟩) (T.drop (k + 1)) 0 0 (by rw [List.length_drop]; have := HN.out; omega) (by rw [List.drop_eq_nil_of_le (by have := HN.out; omega)]; exact fun h => absurd rfl h) (fun e => by cases e) (by have := HN.out; simp <;> omega))
            go_wp2_with (first
              | (at_builtin; refine wpList_app rfl _ _ 22 22 rfl (.slice A9 n9 c9) (.slice (some ⟨b, off, none⟩) 0 0) rfl rfl ?_; obtain ⟨R, W3, hrun, hm1, hm2, hm3⟩ := HA3.out; refine ⟨R, W3, hrun, ?_⟩; have HO := Lib.hid hm1; have HB5 := Lib.hid (HB9.out.trans (hm2.mono (by omega))); have HO5c := Lib.hid (OwnC.beside HO9c.out HO9t.out hm3); clear hrun hm1 hm2 hm3 HA3))
            go_ret2
            exact ⟨_, _, by rw [HE.out]; rfl, ownT_down HO.out (by omega), (fun y hy => by
              rw [List.nil_append, List.append_assoc, List.mem_append] at hy
              rcases hy with hy | hy
              · exact (HI.out y (List.mem_of_mem_take hy)).below HB5.out
              · rw [List.singleton_append, List.mem_cons] at hy
                rcases hy with rfl | hy
                · exact Cln.ok (B := W1.heap.size) (x := ⟨tn, A8, n8, c8, LA, KA⟩) (y := ⟨tn, A8, n8, c8, LA, KA⟩) ⟨rfl, HO5c.out⟩ HLN.out
                · exact (HI.out y (List.mem_of_mem_drop hy)).below HB5.out), by show _ = _; rw [HDz.out, List.nil_append, HTD.out]; rfl, HB5⟩
          · go_wp2_with fail
            have HZd := Lib.hid HZ.out.drew
            have HXd := Lib.hid HX1f.out.drew
            have hbt : b < w.heap.size + 1 := hbk
            have HA2 := Lib.hid (appT_g wf.drew wf.heap.size rfl (w.heap.size + 1) (.slice A7 n7 c7) ([] ++ T.take k) ⟨tn, A8, n8, c8, LA, KA⟩ (HO1f.out.below (Below.refl _ wf).drew) HX1f.out.lt (by have := HN.out; simp; omega))
            have hald : Below wf.drew.heap.size wf.drew (wf.drew.alloc (.cells #[.string tn, .slice A8 n8 c8, .int .i64 KA] 30)) := (Below.refl _ wf.drew).alloc (Nat.le_refl _) _
            have hwd : Below wf.heap.size wf wf.drew := (Below.refl _ wf).drew
            have v0 : wf.drew.cell? ⟨b, off + k * 3, none⟩ = some (.string tn) := y0
            have v1 : wf.drew.cell? ⟨gb, 0, none⟩ = some (.slice A8 n8 c8) := z0
            have v2 : wf.drew.cell? ⟨gb, 1, none⟩ = some (.int .i64 KA) := z1
            have hkz8 : (k : Int) < (k : Int) + 1 := by omega
            have hkz9 : k < k + 1 := Nat.lt_succ_self k
            go_region_held3 (fun X => X.cell? ⟨b, off + k * 3, none⟩ = some (.string tn) ∧ X.cell? ⟨gb, 0, none⟩ = some (.slice A8 n8 c8) ∧ X.cell? ⟨gb, 1, none⟩ = some (.int .i64 KA)) (go_keep)
              (first
                | (refine step_appA (by rfl) _ _ _ _ (by rfl) (.slice A7 n7 c7) (.slice (some ⟨wf.heap.size, 0, none⟩) 1 1) (by rfl) (by rfl) ?_; obtain ⟨R, W2, hrun, hm1, hm2, hm3⟩ := HA2.out; refine ⟨R, W2, hrun, ?_⟩; obtain ⟨A9, n9, c9, hR, HN9, hnc9, hcm9, _, _⟩ := ownT_open hm1; subst hR; have HB9 := Lib.hid ((HBf.out.trans (hwd.mono HBf.out.size)).trans (hm2.mono (by omega))); have HO9c := Lib.hid (OwnC.beside ((HOf.out.below hwd).below hald) ((HO1f.out.below hwd).below hald) hm3); have HZ9 := Lib.hid (Has.beside (HZd.out.below hald HZd.out.lt) (by decide) ((HO1f.out.below hwd).below hald) hm3); have u0 : W2.cell? ⟨b, off + k * 3, none⟩ = some (.string tn) := belowB hm2 hbt v0; have u1 : W2.cell? ⟨gb, 0, none⟩ = some (.slice A8 n8 c8) := HZ9.out.cell 0; have u2 : W2.cell? ⟨gb, 1, none⟩ = some (.int .i64 KA) := HZ9.out.cell 1; have HO9t := Lib.hid hm1; have HS9 := Lib.hid hm2.size; clear hrun hm1 hm2 hm3 HA2))
            have HA3 := Lib.hid (appTs_g W2 (w.heap.size + 1) (.slice A9 n9 c9) _ HO9t.out (by have := HS9.out; have := HX1f.out.lt; simp at *; omega) (some ⟨b, off + (k + 1) * 3, none⟩) (T.drop (k + 1)) (n - (k + 1)) (c - (k + 1)) (by rw [List.length_drop]; have := HN.out; omega) (by have h : TRow W2 _ T := HA.out.below HB9.out; exact h.drop (k + 1)) (fun e => by cases e) (by have := HN.out; simp <;> omega))
            go_wp2_with (first
              | (at_builtin; refine wpList_app rfl _ _ 22 22 rfl (.slice A9 n9 c9) (.slice (some ⟨b, off + (k + 1) * 3, none⟩) (n - (k + 1)) (c - (k + 1))) rfl rfl ?_; obtain ⟨R, W3, hrun, hm1, hm2, hm3⟩ := HA3.out; refine ⟨R, W3, hrun, ?_⟩; have HO := Lib.hid hm1; have HB5 := Lib.hid (HB9.out.trans (hm2.mono (by omega))); have HO5c := Lib.hid (OwnC.beside HO9c.out HO9t.out hm3); clear hrun hm1 hm2 hm3 HA3))
            go_ret2
            exact ⟨_, _, by rw [HE.out]; rfl, ownT_down HO.out (by omega), (fun y hy => by
              rw [List.nil_append, List.append_assoc, List.mem_append] at hy
              rcases hy with hy | hy
              · exact (HI.out y (List.mem_of_mem_take hy)).below HB5.out
              · rw [List.singleton_append, List.mem_cons] at hy
                rcases hy with rfl | hy
                · exact Cln.ok (B := W1.heap.size) (x := ⟨tn, A8, n8, c8, LA, KA⟩) (y := ⟨tn, A8, n8, c8, LA, KA⟩) ⟨rfl, HO5c.out⟩ HLN.out
                · exact (HI.out y (List.mem_of_mem_drop hy)).below HB5.out), by show _ = _; rw [HDz.out, List.nil_append, HTD.out]; rfl, HB5⟩
        · have HBz := Lib.hid (HBD.out (by rw [HE.out]; exact he))
          go_wp2_with fail
          go_ret2
          exact ⟨_, [], by rw [HE.out]; rfl, ownT_nil _ _, (fun x hx => by cases hx), by show _ = _; rw [HBz.out]; rfl, HBf⟩
end Go.Proofs.YtiefogofiajmnaaDoor
namespace Go.Proofs.YtiefogofiajmnaaDoor
open Go.RowKit Dg
set_option maxRecDepth 100000
theorem may_fit {L : List Cl} {K : Int} (h : smayF L K = true) : ∀ y ∈ L, y.fit := fun y hy => by
  have hc : 1 ≤ L.length ∧ L.length ≤ 16 ∧ 1 ≤ K ∧ K ≤ 4 ∧ K ≤ L.length := by
    apply Decidable.byContradiction
    intro hn
    rw [smayF_no hn] at h; cases h
  rw [smayF_yes hc.1 hc.2.1 hc.2.2.1 hc.2.2.2.1 hc.2.2.2.2] at h
  obtain ⟨i, hi, rfl⟩ := List.getElem_of_mem hy
  unfold colsTo at h
  rw [List.all_eq_true] at h
  have h1 := h i (List.mem_range.2 hi)
  rw [colOk_at L K i hi] at h1
  simp only [Bool.and_eq_true] at h1
  have h2 := nameF_size h1.1.1.1
  have h3 : 1 ≤ L[i].k ∧ L[i].k ≤ 4 := by simpa [kindF] using h1.1.2
  exact ⟨by omega, by omega, by omega⟩
theorem dright {T : List Tb} (hS : SortD (tds T)) (hg : ∀ x ∈ tds T, nameF x.nm = true ∧ smayF x.L x.K = true) (hn : T.length ≤ 64) : rightF T = true ∧ ∀ x ∈ T, x.nm.size ≤ 140737488355328 ∧ ∀ y ∈ x.L, y.fit := by
  have h : ∀ x ∈ T, nameF x.nm = true ∧ smayF x.L x.K = true := fun x hx => hg x.td (List.mem_map_of_mem hx)
  refine ⟨right_is ((sort_d T).2 hS) h hn, fun x hx => ?_⟩
  have := nameF_size (h x hx).1
  exact ⟨by omega, may_fit (h x hx).2⟩
theorem follow_right {G T' : List Tb} {ck : Int} {tn : ByteArray} {L' : List Cl} {K' : Int} {cn : ByteArray} {kd : Int} {no : Bool} (hG : GoodD (tds G)) (hl : G.length ≤ 3) (hE : foE G ck tn L' K' cn kd no = 0) (hT : tds T' = foD G ck tn L' K' cn kd no) :
    (rightF T' = true ∧ ∀ x ∈ T', x.nm.size ≤ 140737488355328 ∧ ∀ y ∈ x.L, y.fit) ∧ T'.length ≤ 4 := by
  have hm := goodD_may hG
  by_cases h1 : ck = 1
  · subst h1
    rw [foE_c] at hE
    have hn : nameF tn = true := by
      cases h : nameF tn
      · rw [fcE_name h] at hE; omega
      · rfl
    have hp : plF G tn = false := by
      cases h : plF G tn
      · rfl
      · rw [fcE_there hn h] at hE; omega
    have hmy : smayF L' K' = true := by
      cases h : smayF L' K'
      · rw [fcE_may hn hp h] at hE; omega
      · rfl
    rw [foD_c hE, lbN_d] at hT
    have hlen : T'.length ≤ 4 := by
      rw [← tds_len, hT]
      have := tds_len G
      simp
      omega
    refine ⟨dright (by rw [hT]; exact sortD_ins (x := ⟨tn, L', K'⟩) hG.sort (by rw [← plF_d]; exact hp)) (fun x hx => ?_) (by omega), hlen⟩
    rw [hT, List.append_assoc, List.mem_append] at hx
    rcases hx with hx | hx
    · exact hm x (List.mem_of_mem_take hx)
    · rw [List.singleton_append, List.mem_cons] at hx
      rcases hx with rfl | hx
      · exact ⟨hn, hmy⟩
      · exact hm x (List.mem_of_mem_drop hx)
  · have hp : plF G tn = true := by
      cases h : plF G tn
      · rw [foE_none h1 h] at hE; omega
      · rfl
    have hlt := plF_lt hp
    by_cases h2 : ck = 2
    · subst h2
      rw [foD_drop hp] at hT
      have hlen : T'.length ≤ 4 := by
        rw [← tds_len, hT]
        have := tds_len G
        simp
        omega
      refine ⟨dright (by rw [hT]; exact sortD_del hG.sort _) (fun x hx => ?_) (by omega), hlen⟩
      rw [hT, List.mem_append] at hx
      rcases hx with hx | hx
      · exact hm x (List.mem_of_mem_take hx)
      · exact hm x (List.mem_of_mem_drop hx)
    · rw [foE_alter h1 h2 hp hlt] at hE
      rw [foD_alter h1 h2 hp hlt hE] at hT
      have hnm : G[lbN G tn].nm = tn := by
        have h := plF_at hlt
        rw [hp] at h
        exact bytes_inj h.symm
      obtain ⟨_, k, hk, hgs⟩ := goodT_ok hG _ (List.getElem_mem hlt)
      have hlen : T'.length ≤ 4 := by
        rw [← tds_len, hT]
        have := tds_len G
        simp
        omega
      have hl9 : lbN G tn < (tds G).length := by rw [tds_len]; exact hlt
      refine ⟨dright (by rw [hT]; exact sortD_rep hG.sort hl9 (by rw [tds_get G _ hlt]; exact hnm.symm)) (fun x hx => ?_) (by omega), hlen⟩
      rw [hT, List.append_assoc, List.mem_append] at hx
      rcases hx with hx | hx
      · exact hm x (List.mem_of_mem_take hx)
      · rw [List.singleton_append, List.mem_cons] at hx
        rcases hx with rfl | hx
        · have hq := (goodT_ok hG _ (List.getElem_mem hlt)).1
          rw [hnm] at hq
          refine ⟨hq, ?_⟩
          show smayF (applyL _ _ _ _) (applyK _ _) = true
          unfold applyK
          rw [if_pos hE, hk]
          rw [hk] at hE
          exact apply_may hgs hE
        · exact hm x (List.mem_of_mem_drop hx)
/-- How the memory stands while columns' names are written: the row of tables, and each one's columns. -/
structure Sp (D : Nat) (w : World) (v : Value) (T : List Tb) : Prop where
  own : OwnT D w v T
  col : ∀ x ∈ T, x.n = 0 ∨ ∃ g cur, x.A = some ⟨g, 0, none⟩ ∧ D ≤ g ∧ Has w g 38 cur ∧ x.n * 3 ≤ cur.size
theorem OwnTs.sp {D : Nat} {w : World} {v : Value} {T : List Tb} (h : OwnTs D w v T) : Sp D w v T := ⟨h.own, fun x hx => by
  rcases (h.col x hx).2 with ⟨hv, hn⟩ | ⟨g, cap, cur, hv, hg, hh, hc, hcm, hsz, ht⟩
  · injection hv with _ e _
    exact .inl e
  · injection hv with e1 e2 e3
    refine .inr ⟨g, cur, e1, hg, hh, ?_⟩
    subst e3
    omega⟩
theorem Sp.below {D : Nat} {w w' : World} {v : Value} {T : List Tb} (h : Sp D w v T) (hb : Below w.heap.size w w') : Sp D w' v T := ⟨h.own.below hb, fun x hx => by
  rcases h.col x hx with h0 | ⟨g, cur, e, hg, hh, hs⟩
  · exact .inl h0
  · exact .inr ⟨g, cur, e, hg, Has.below (t := 38) (cs := cur) hh hb (Has.lt (t := 38) (cs := cur) hh), hs⟩⟩
theorem Sp.set {D : Nat} {w : World} {v : Value} {T : List Tb} (h : Sp D w v T) {g : Nat} {cur : Array Value} (hh : Has w g 38 cur) (i : Nat) (u : Value) : Sp D (w.setCell ⟨g, i, none⟩ u) v T := by
  refine ⟨?_, fun x hx => ?_⟩
  · rcases h.own.2 with ⟨hv, hn⟩ | ⟨k, cap, cur2, hv, hk, hk2, hc, hcm, hsz, ht⟩
    · exact ⟨h.own.1, .inl ⟨hv, hn⟩⟩
    · refine ⟨h.own.1, .inr ⟨k, cap, cur2, hv, hk, Has.far (t := 30) (cs := cur2) hk2 (fun e => ?_) u, hc, hcm, hsz, ht⟩⟩
      have e2 : k = g := by first | exact e | exact e.symm
      subst e2
      have := hk2.symm.trans hh
      injection this with this
      injection this with _ h2 _
      exact absurd h2 (by decide)
  · rcases h.col x hx with h0 | ⟨g2, cur2, e, hg, hh2, hs⟩
    · exact .inl h0
    · by_cases hgg : g2 = g
      · subst hgg
        exact .inr ⟨g2, cur2.setIfInBounds i u, e, hg, Has.put (t := 38) (cs := cur2) hh2 i u, by simpa using hs⟩
      · exact .inr ⟨g2, cur2, e, hg, Has.far (t := 38) (cs := cur2) hh2 (fun e => hgg (by first | exact e | exact e.symm)) u, hs⟩
end Go.Proofs.YtiefogofiajmnaaDoor
