/-
  The schema behind a change: the document's Apply.
-/
import Derived.Test.YticfhjimbochlaaGood4
import Derived.Test.YticfhjimbochlaaApply
import Derived.Test.YticfhjimbochlaaStepA
namespace Go.Proofs.Yticfhjimbochlaa
open Go.RowKit Dg
section
variable {L : List Cl} {K : Int} {cn : ByteArray} {kd : Int} {no : Bool} {fi : Int}
theorem dA_arg (h : (nameF cn && kindF kd && no) = false) : doesF L K 3 cn kd no = .bad 1 := by
  unfold doesF addF; rw [if_pos rfl, if_pos h]
theorem dA_exist (h : (nameF cn && kindF kd && no) = true) (hf : findI L cn = fi) (h2 : 0 ≤ fi) : doesF L K 3 cn kd no = .bad 8 := by
  unfold doesF addF; rw [if_pos rfl, if_neg (by rw [h]; simp), if_pos (by omega)]
theorem dA_full (h : (nameF cn && kindF kd && no) = true) (hf : findI L cn = fi) (h2 : fi < 0) (h3 : 16 ≤ L.length) : doesF L K 3 cn kd no = .bad 10 := by
  unfold doesF addF; rw [if_pos rfl, if_neg (by rw [h]; simp), if_neg (by omega), if_pos h3]
theorem dA_ok (h : (nameF cn && kindF kd && no) = true) (hf : findI L cn = fi) (h2 : fi < 0) (h3 : L.length < 16) : doesF L K 3 cn kd no = ⟨L.length, L.length, 1, 0⟩ := by
  unfold doesF addF; rw [if_pos rfl, if_neg (by rw [h]; simp), if_neg (by omega), if_neg (by omega)]
theorem dC_none (hf : findI L cn = fi) (h : fi < 0) : doesF L K 4 cn kd no = .bad 7 := by
  unfold doesF cutF; rw [if_neg (by decide), if_pos rfl, if_pos (by omega)]
theorem dC_key (hf : findI L cn = fi) (h : 0 ≤ fi) (h2 : fi < K) : doesF L K 4 cn kd no = .bad 10 := by
  unfold doesF cutF; rw [if_neg (by decide), if_pos rfl, if_neg (by omega), if_pos (by omega)]
theorem dC_ok {i : Nat} (hf : findI L cn = (i : Nat)) (h2 : K ≤ (i : Int)) : doesF L K 4 cn kd no = ⟨i, i + 1, 0, 0⟩ := by
  unfold doesF cutF; rw [if_neg (by decide), if_pos rfl, if_neg (by omega), if_neg (by omega), hf]; rfl
theorem dR_none (hf : findI L cn = fi) (h : fi < 0) : doesF L K 5 cn kd no = .bad 7 := by
  unfold doesF retF; rw [if_neg (by decide), if_neg (by decide), if_pos rfl, if_pos (by omega)]
theorem dR_key (hf : findI L cn = fi) (h : 0 ≤ fi) (h2 : fi < K) : doesF L K 5 cn kd no = .bad 10 := by
  unfold doesF retF; rw [if_neg (by decide), if_neg (by decide), if_pos rfl, if_neg (by omega), if_pos (.inl (by omega))]
theorem noneAt_at {i : Nat} (h : i < L.length) : noneAt L (i : Int) = L[i].no := by
  unfold noneAt; rw [Int.toNat_natCast, List.getElem?_eq_getElem h]
theorem dR_must {i : Nat} (hi : i < L.length) (hf : findI L cn = (i : Nat)) (h2 : L[i].no = false) : doesF L K 5 cn kd no = .bad 10 := by
  unfold doesF retF; rw [if_neg (by decide), if_neg (by decide), if_pos rfl, if_neg (by omega), if_pos (.inr (by rw [hf, noneAt_at hi, h2]))]
theorem dR_kind {i : Nat} (hi : i < L.length) (hf : findI L cn = (i : Nat)) (h2 : L[i].no = true) (h3 : K ≤ (i : Int)) (hk : kindF kd = false) : doesF L K 5 cn kd no = .bad 1 := by
  unfold doesF retF; rw [if_neg (by decide), if_neg (by decide), if_pos rfl, if_neg (by omega), if_neg (by rw [hf, noneAt_at hi, h2]; simp; omega), if_pos hk]
theorem dR_ok {i : Nat} (hi : i < L.length) (hf : findI L cn = (i : Nat)) (h2 : L[i].no = true) (h3 : K ≤ (i : Int)) (hk : kindF kd = true) : doesF L K 5 cn kd no = ⟨i, i + 1, 1, 0⟩ := by
  unfold doesF retF; rw [if_neg (by decide), if_neg (by decide), if_pos rfl, if_neg (by omega), if_neg (by rw [hf, noneAt_at hi, h2]; simp; omega), if_neg (by rw [hk]; simp), hf]; rfl
theorem d_kind {ck : Int} (h3 : ck ≠ 3) (h4 : ck ≠ 4) (h5 : ck ≠ 5) : doesF L K ck cn kd no = .bad 5 := by
  unfold doesF; rw [if_neg h3, if_neg h4, if_neg h5]
end
theorem bytes_inj {s t : ByteArray} (h : (s.toList == t.toList) = true) : s = t := by
  have h1 : s.toList = t.toList := by simpa using h
  rw [← bs_sb s, ← bs_sb t] at h1 ⊢
  rw [bs_toList, bs_toList] at h1
  unfold bs
  rw [h1]
theorem findI_nm {L : List Cl} {s : ByteArray} {i : Nat} (h : findI L s = (i : Nat)) (hi : i < L.length) : L[i].nm = s := by
  unfold findI at h
  split at h
  · rename_i hl
    have e : findN L s = i := by omega
    unfold findN at e hl
    have := List.findIdx_getElem (w := hl)
    simp only [e] at this
    exact bytes_inj this
  · omega
theorem set_mid (L : List Cl) (i : Nat) (x : Cl) (h : i < L.length) : L.set i x = L.take i ++ [x] ++ L.drop (i + 1) := by
  rw [List.set_eq_take_append_cons_drop, if_pos h]; simp
/-- How the memory stands: what came in, the result, none, the columns. -/
structure RSt (w : World) (A : Option Addr) (n c : Nat) (K ck : Int) (tn : ByteArray) (A' : Option Addr) (n' c' : Nat) (K' : Int) (cn : ByteArray) (kd : Int) (no : Bool) (L : List Cl) (W : World) (v : Value) (M : List Cl) : Prop where
  bel : Below w.heap.size w W
  sc : Has W w.heap.size 24 #[.slice A n c, .int .i64 K]
  ch : Has W (w.heap.size + 1) 35 #[.int .i64 ck, .string tn, .slice A' n' c', .int .i64 K', .string cn, .int .i64 kd, .bool no]
  res : Has W (w.heap.size + 2) 24 #[.slice none 0 0, .int .i64 0]
  non : Has W (w.heap.size + 3) 24 #[.slice none 0 0, .int .i64 0]
  big : w.heap.size + 4 ≤ W.heap.size
  own : OwnC (w.heap.size + 4) W v M
section
variable {w : World} {A : Option Addr} {n c : Nat} {K ck : Int} {tn : ByteArray} {A' : Option Addr} {n' c' : Nat} {K' : Int} {cn : ByteArray} {kd : Int} {no : Bool} {L : List Cl} {W W2 : World} {v : Value} {M : List Cl}
theorem RSt.below (h : RSt w A n c K ck tn A' n' c' K' cn kd no L W v M) (hb : Below W.heap.size W W2) : RSt w A n c K ck tn A' n' c' K' cn kd no L W2 v M :=
  ⟨h.bel.trans (hb.mono h.bel.size), h.sc.below hb h.sc.lt, h.ch.below hb h.ch.lt, h.res.below hb h.res.lt, h.non.below hb h.non.lt, Nat.le_trans h.big hb.size, h.own.below hb⟩
theorem RSt.made (h : RSt w A n c K ck tn A' n' c' K' cn kd no L W v M) {v2 : Value} {M2 : List Cl} (hb : Below (w.heap.size + 4) W W2) (ho : OwnC (w.heap.size + 4) W2 v2 M2) : RSt w A n c K ck tn A' n' c' K' cn kd no L W2 v2 M2 :=
  ⟨h.bel.trans (hb.mono (by omega)), h.sc.below hb (by omega), h.ch.below hb (by omega), h.res.below hb (by omega), h.non.below hb (by omega), Nat.le_trans h.big hb.size, ho⟩
end
theorem belowB {B : Nat} {W W' : World} (h : Below B W W') {b i : Nat} {v : Value} (hb : b < B) (hc : W.cell? ⟨b, i, none⟩ = some v) : W'.cell? ⟨b, i, none⟩ = some v := (h.cell (p := ⟨b, i, none⟩) hb).trans hc
set_option maxHeartbeats 8000000 in
set_option maxRecDepth 100000 in
theorem rapply_any (A : Option Addr) (L : List Cl) (n c : Nat) (K : Int) (ck : Int) (tn : ByteArray) (A' : Option Addr) (n' c' : Nat) (K' : Int) (cn : ByteArray) (kd : Int) (no : Bool) (w : World) (hn : L.length = n) (hp : 0 < n) (hl : n ≤ 900) (hA : CRow w A L) :
    Calls Try.prog 23 #[.agg #[.slice A n c, .int .i64 K], .agg #[.int .i64 ck, .string tn, .slice A' n' c', .int .i64 K', .string cn, .int .i64 kd, .bool no]] w fun e w' => ∃ v, e = .returned (.tuple #[.agg #[v, .int .i64 (applyK K (doesF L K ck cn kd no))], .int .i64 (doesF L K ck cn kd no).e]) ∧ Hid (OwnC w.heap.size w' v (applyL L (doesF L K ck cn kd no) cn kd)) ∧ Hid (Below w.heap.size w w') := by
  have HN := Lib.hid hn
  obtain ⟨b, off, rfl, hcc⟩ := hA (by intro e; rw [e] at hn; simp at hn; omega)
  have hA2 : CRow w (some ⟨b, off, none⟩) L := fun _ => ⟨b, off, rfl, hcc⟩
  have HA := Lib.hid hA2
  have hlt := findI_lt L cn
  rw [hn] at hlt
  clear hn hA hcc hA2
  have st0 : RSt w (some ⟨b, off, none⟩) n c K ck tn A' n' c' K' cn kd no L ((((w.alloc (.cells #[.slice (some ⟨b, off, none⟩) n c, .int .i64 K] 24)).alloc (.cells #[.int .i64 ck, .string tn, .slice A' n' c', .int .i64 K', .string cn, .int .i64 kd, .bool no] 35)).alloc (.cells #[.slice none 0 0, .int .i64 0] 24)).alloc (.cells #[.slice none 0 0, .int .i64 0] 24)) (.slice none 0 0) [] := by
    have e1 : (w.alloc (.cells #[.slice (some ⟨b, off, none⟩) n c, .int .i64 K] 24)).heap.size = w.heap.size + 1 := by simp
    have e2 : ((w.alloc (.cells #[.slice (some ⟨b, off, none⟩) n c, .int .i64 K] 24)).alloc (.cells #[.int .i64 ck, .string tn, .slice A' n' c', .int .i64 K', .string cn, .int .i64 kd, .bool no] 35)).heap.size = w.heap.size + 2 := by simp
    have e3 : (((w.alloc (.cells #[.slice (some ⟨b, off, none⟩) n c, .int .i64 K] 24)).alloc (.cells #[.int .i64 ck, .string tn, .slice A' n' c', .int .i64 K', .string cn, .int .i64 kd, .bool no] 35)).alloc (.cells #[.slice none 0 0, .int .i64 0] 24)).heap.size = w.heap.size + 3 := by simp
    have hb : Below w.heap.size w ((((w.alloc (.cells #[.slice (some ⟨b, off, none⟩) n c, .int .i64 K] 24)).alloc (.cells #[.int .i64 ck, .string tn, .slice A' n' c', .int .i64 K', .string cn, .int .i64 kd, .bool no] 35)).alloc (.cells #[.slice none 0 0, .int .i64 0] 24)).alloc (.cells #[.slice none 0 0, .int .i64 0] 24)) := (((((Below.refl w.heap.size w).alloc (Nat.le_refl _) _).alloc (by simp) _).alloc (by simp; omega) _).alloc (by simp; omega) _)
    refine ⟨hb, (((Has.new w _ _).alloc _).alloc _).alloc _, ?_, ?_, ?_, by simp, ownC_nil _ _⟩
    · have h := ((Has.new (w.alloc (.cells #[.slice (some ⟨b, off, none⟩) n c, .int .i64 K] 24)) 35 #[.int .i64 ck, .string tn, .slice A' n' c', .int .i64 K', .string cn, .int .i64 kd, .bool no]).alloc (.cells #[.slice none 0 0, .int .i64 0] 24)).alloc (.cells #[.slice none 0 0, .int .i64 0] 24)
      rw [e1] at h; exact h
    · have h := (Has.new ((w.alloc (.cells #[.slice (some ⟨b, off, none⟩) n c, .int .i64 K] 24)).alloc (.cells #[.int .i64 ck, .string tn, .slice A' n' c', .int .i64 K', .string cn, .int .i64 kd, .bool no] 35)) 24 #[.slice none 0 0, .int .i64 0]).alloc (.cells #[.slice none 0 0, .int .i64 0] 24)
      rw [e2] at h; exact h
    · have h := Has.new (((w.alloc (.cells #[.slice (some ⟨b, off, none⟩) n c, .int .i64 K] 24)).alloc (.cells #[.int .i64 ck, .string tn, .slice A' n' c', .int .i64 K', .string cn, .int .i64 kd, .bool no] 35)).alloc (.cells #[.slice none 0 0, .int .i64 0] 24)) 24 #[.slice none 0 0, .int .i64 0]
      rw [e3] at h; exact h
  have S0 := Lib.hid st0
  have HF0 := Lib.hid (refFind_any (some ⟨b, off, none⟩) L n c K cn ((((w.alloc (.cells #[.slice (some ⟨b, off, none⟩) n c, .int .i64 K] 24)).alloc (.cells #[.int .i64 ck, .string tn, .slice A' n' c', .int .i64 K', .string cn, .int .i64 kd, .bool no] 35)).alloc (.cells #[.slice none 0 0, .int .i64 0] 24)).alloc (.cells #[.slice none 0 0, .int .i64 0] 24)) HN.out (by omega) (HA.out.below st0.bel))
  clear st0
  go_enter Try.func23, Try.ntmps23
  go_wp2_with fail
  refine HF0.out.mono ?_
  rintro e w1 ⟨rfl, hb⟩
  have S1 := Lib.hid (S0.out.below hb.out)
  obtain ⟨fi, hfi⟩ : ∃ fi, findI L cn = fi := ⟨_, rfl⟩
  rw [hfi] at hlt ⊢
  have HFI := Lib.hid hfi
  clear hb hfi S0 HF0
  have s0 : w1.cell? ⟨w.heap.size, 0, none⟩ = some (.slice (some ⟨b, off, none⟩) n c) := S1.out.sc.cell 0
  have HAP := Lib.hid (appCs w1 (w.heap.size + 4) (.slice none 0 0) [] (ownC_nil _ _) S1.out.big (some ⟨b, off, none⟩) L n c HN.out (HA.out.below S1.out.bel) (fun h => by cases h) (by simp; omega))
  go_wp2_with (at_builtin; refine wpList_app rfl _ _ 22 22 rfl (.slice none 0 0) (.slice (some ⟨b, off, none⟩) n c) rfl rfl ?_; go_loud (obtain ⟨R, W, hrun, hmade⟩ := HAP.out; refine ⟨R, W, hrun, ?_⟩; have S2 := Lib.hid (S1.out.made hmade.2 hmade.1); obtain ⟨A7, n7, c7, hR, HN7, hnc7, hcm7, HV7, HZ7⟩ := ownC_open hmade.1; subst hR; have hn7 := HN7.out.symm.trans HN.out; subst hn7; have hx4 : W.cell? ⟨w.heap.size + 1, 4, none⟩ = some (.string cn) := S2.out.ch.cell 4; have hx5 : W.cell? ⟨w.heap.size + 1, 5, none⟩ = some (.int .i64 kd) := S2.out.ch.cell 5; clear hrun hmade HAP s0 S1))
  refine (refName_any cn _).mono ?_
  rintro e w2 ⟨rfl, hw⟩
  obtain rfl : W = w2 := by first | exact hw | exact hw.symm
  go_wp2_with fail
  refine (kind_any kd _).mono ?_
  rintro e w2 ⟨rfl, hw⟩
  obtain rfl : W = w2 := by first | exact hw | exact hw.symm
  have s0 : W.cell? ⟨w.heap.size, 0, none⟩ = some (.slice (some ⟨b, off, none⟩) n7 c) := S2.out.sc.cell 0
  have s1 : W.cell? ⟨w.heap.size, 1, none⟩ = some (.int .i64 K) := S2.out.sc.cell 1
  have hx0 : W.cell? ⟨w.heap.size + 1, 0, none⟩ = some (.int .i64 ck) := S2.out.ch.cell 0
  have hx6 : W.cell? ⟨w.heap.size + 1, 6, none⟩ = some (.bool no) := S2.out.ch.cell 6
  have r0 : W.cell? ⟨w.heap.size + 1 + 1, 0, none⟩ = some (.slice none 0 0) := S2.out.res.cell 0
  have r1 : W.cell? ⟨w.heap.size + 1 + 1, 1, none⟩ = some (.int .i64 0) := S2.out.res.cell 1
  have f0 : W.frozen? ⟨w.heap.size + 1 + 1, 0, none⟩ = false := S2.out.res.free 0
  have f1 : W.frozen? ⟨w.heap.size + 1 + 1, 1, none⟩ = false := S2.out.res.free 1
  have m0 : W.cell? ⟨w.heap.size + 1 + 1 + 1, 0, none⟩ = some (.slice none 0 0) := S2.out.non.cell 0
  have m1 : W.cell? ⟨w.heap.size + 1 + 1 + 1, 1, none⟩ = some (.int .i64 0) := S2.out.non.cell 1
  obtain ⟨qn, hqn⟩ : ∃ q, nameF cn = q := ⟨_, rfl⟩
  obtain ⟨qk, hqk⟩ : ∃ q, kindF kd = q := ⟨_, rfl⟩
  rw [hqn, hqk]
  have HQN := Lib.hid hqn
  have HQK := Lib.hid hqk
  clear hqn hqk
  by_cases h3 : ck = 3
  · subst h3
    by_cases hall : (qn && qk && no) = true
    · have HALL : Hid ((nameF cn && kindF kd && no) = true) := by show _ = _; rw [HQN.out, HQK.out]; exact hall
      obtain ⟨rfl, rfl, rfl⟩ : qn = true ∧ qk = true ∧ no = true := by simp only [Bool.and_eq_true] at hall; exact ⟨hall.1.1, hall.1.2, hall.2⟩
      clear hall
      by_cases h0 : 0 ≤ fi
      · have HE : Hid (doesF L K 3 cn kd true = .bad 8) := dA_exist HALL.out HFI.out h0
        go_wp2_with fail
        have HP := Lib.hid ((S2.out.res.put 0 (.slice none 0 0)).put 1 (.int .i64 0))
        exact bodyPost_ret (schEnd rfl _ (w.heap.size + 2) _ _ _ rfl HP.out) rfl ⟨_, by rw [HE.out]; rfl, by rw [HE.out]; exact ownC_nil _ _, (S2.out.bel.setCell (by show w.heap.size ≤ w.heap.size + 1 + 1; omega) _).setCell (by show w.heap.size ≤ w.heap.size + 1 + 1; omega) _⟩
      · by_cases hfull : 16 ≤ n7
        · have hfz : (16 : Int) ≤ (n7 : Int) := by omega
          have HE : Hid (doesF L K 3 cn kd true = .bad 10) := dA_full HALL.out HFI.out (by omega) (by rw [HN.out]; exact hfull)
          go_wp2_with fail
          have HP := Lib.hid ((S2.out.res.put 0 (.slice none 0 0)).put 1 (.int .i64 0))
          exact bodyPost_ret (schEnd rfl _ (w.heap.size + 2) _ _ _ rfl HP.out) rfl ⟨_, by rw [HE.out]; rfl, by rw [HE.out]; exact ownC_nil _ _, (S2.out.bel.setCell (by show w.heap.size ≤ w.heap.size + 1 + 1; omega) _).setCell (by show w.heap.size ≤ w.heap.size + 1 + 1; omega) _⟩
        · have HE : Hid (doesF L K 3 cn kd true = ⟨L.length, L.length, 1, 0⟩) := dA_ok HALL.out HFI.out (by omega) (by rw [HN.out]; omega)
          have HLL : Hid (applyL L ⟨L.length, L.length, 1, 0⟩ cn kd = L ++ [⟨cn, kd, true⟩]) := by show _ = _; simp [applyL]
          have hfz : ¬ (16 : Int) ≤ (n7 : Int) := by omega
          have hfz2 : decide (16 ≤ n7) = false := by simp; omega
          go_wp2_with fail
          have HAP := Lib.hid (appC W.drew W.heap.size rfl (w.heap.size + 4) (.slice A7 n7 c7) L ⟨cn, kd, true⟩ S2.out.own.drew S2.out.big (by rw [HN.out]; omega))
          have HR := Lib.hid S2.out.res.drew
          have hzz := S2.out.big
          clear hx0 s0 r0 r1 f0 f1 m0 m1
          go_region_held3 (fun X => X.cell? ⟨w.heap.size + 1, 4, none⟩ = some (.string cn) ∧ X.cell? ⟨w.heap.size + 1, 5, none⟩ = some (.int .i64 kd) ∧ X.cell? ⟨w.heap.size + 1, 6, none⟩ = some (.bool true) ∧ X.cell? ⟨w.heap.size, 1, none⟩ = some (.int .i64 K)) (first | (go_keep; done) | exact ⟨cell_s2 (by show w.heap.size + 1 + 1 ≠ w.heap.size + 1; omega) (by assumption), cell_s2 (by show w.heap.size + 1 + 1 ≠ w.heap.size + 1; omega) (by assumption), cell_s2 (by show w.heap.size + 1 + 1 ≠ w.heap.size + 1; omega) (by assumption), cell_s2 (by show w.heap.size + 1 + 1 ≠ w.heap.size; omega) (by assumption)⟩) (first
            | (refine step_appA (by rfl) _ _ _ _ (by rfl) (.slice A7 n7 c7) (.slice (some ⟨W.heap.size, 0, none⟩) 1 1) (by rfl) (by rfl) ?_; obtain ⟨R, X, hrun, hmade⟩ := HAP.out; refine ⟨R, X, hrun, ?_⟩; obtain ⟨A8, n8, c8, hR8, _, _, _, _, _⟩ := ownC_open hmade.1; subst hR8; have z4 := belowB hmade.2 (by omega) hx4; have z5 := belowB hmade.2 (by omega) hx5; have z6 := belowB hmade.2 (by omega) hx6; have z1 := belowB hmade.2 (by omega) s1; have HR8 := Lib.hid (HR.out.below hmade.2 (by omega)); have g0 : X.cell? ⟨w.heap.size + 1 + 1, 0, none⟩ = some (.slice none 0 0) := HR8.out.cell 0; have g1 : X.cell? ⟨w.heap.size + 1 + 1, 1, none⟩ = some (.int .i64 0) := HR8.out.cell 1; have e0 : X.frozen? ⟨w.heap.size + 1 + 1, 0, none⟩ = false := HR8.out.free 0; have e1 : X.frozen? ⟨w.heap.size + 1 + 1, 1, none⟩ = false := HR8.out.free 1; have HM := Lib.hid hmade; clear hrun hmade HAP))
          have HB8 := Lib.hid (S2.out.bel.drew.trans (HM.out.2.mono (by omega)))
          have HP := Lib.hid ((HR8.out.put 0 (.slice A8 n8 c8)).put 1 (.int .i64 K))
          have HO8 := Lib.hid ((HM.out.1.far (p := ⟨w.heap.size + 1 + 1, 0, none⟩) (by show w.heap.size + 1 + 1 < _; omega) (.slice A8 n8 c8)).far (p := ⟨w.heap.size + 1 + 1, 1, none⟩) (by show w.heap.size + 1 + 1 < _; omega) (.int .i64 K))
          go_wp2_with fail
          exact bodyPost_ret (schEnd rfl _ (w.heap.size + 2) _ _ _ rfl HP.out) rfl ⟨_, by rw [HE.out]; rfl, by rw [HE.out, HLL.out]; exact ownC_down HO8.out (by omega), (HB8.out.setCell (by show w.heap.size ≤ w.heap.size + 1 + 1; omega) _).setCell (by show w.heap.size ≤ w.heap.size + 1 + 1; omega) _⟩
    · have HALL : Hid ((nameF cn && kindF kd && no) = false) := by show _ = _; rw [HQN.out, HQK.out]; simpa using hall
      cases qn
      · have HE : Hid (doesF L K 3 cn kd no = .bad 1) := dA_arg HALL.out
        go_wp2_with fail
        have HP := Lib.hid ((S2.out.res.put 0 (.slice none 0 0)).put 1 (.int .i64 0))
        exact bodyPost_ret (schEnd rfl _ (w.heap.size + 2) _ _ _ rfl HP.out) rfl ⟨_, by rw [HE.out]; rfl, by rw [HE.out]; exact ownC_nil _ _, (S2.out.bel.setCell (by show w.heap.size ≤ w.heap.size + 1 + 1; omega) _).setCell (by show w.heap.size ≤ w.heap.size + 1 + 1; omega) _⟩
      · cases qk
        · have HE : Hid (doesF L K 3 cn kd no = .bad 1) := dA_arg HALL.out
          go_wp2_with fail
          have HP := Lib.hid ((S2.out.res.put 0 (.slice none 0 0)).put 1 (.int .i64 0))
          exact bodyPost_ret (schEnd rfl _ (w.heap.size + 2) _ _ _ rfl HP.out) rfl ⟨_, by rw [HE.out]; rfl, by rw [HE.out]; exact ownC_nil _ _, (S2.out.bel.setCell (by show w.heap.size ≤ w.heap.size + 1 + 1; omega) _).setCell (by show w.heap.size ≤ w.heap.size + 1 + 1; omega) _⟩
        · obtain rfl : no = false := by simpa using hall
          have HE : Hid (doesF L K 3 cn kd false = .bad 1) := dA_arg HALL.out
          go_wp2_with fail
          have HP := Lib.hid ((S2.out.res.put 0 (.slice none 0 0)).put 1 (.int .i64 0))
          exact bodyPost_ret (schEnd rfl _ (w.heap.size + 2) _ _ _ rfl HP.out) rfl ⟨_, by rw [HE.out]; rfl, by rw [HE.out]; exact ownC_nil _ _, (S2.out.bel.setCell (by show w.heap.size ≤ w.heap.size + 1 + 1; omega) _).setCell (by show w.heap.size ≤ w.heap.size + 1 + 1; omega) _⟩
  · by_cases h4 : ck = 4
    · subst h4
      by_cases h0 : fi < 0
      · have HE : Hid (doesF L K 4 cn kd no = .bad 7) := dC_none HFI.out h0
        go_wp2_with fail
        have HP := Lib.hid ((S2.out.res.put 0 (.slice none 0 0)).put 1 (.int .i64 0))
        exact bodyPost_ret (schEnd rfl _ (w.heap.size + 2) _ _ _ rfl HP.out) rfl ⟨_, by rw [HE.out]; rfl, by rw [HE.out]; exact ownC_nil _ _, (S2.out.bel.setCell (by show w.heap.size ≤ w.heap.size + 1 + 1; omega) _).setCell (by show w.heap.size ≤ w.heap.size + 1 + 1; omega) _⟩
      · by_cases hk : fi < K
        · have HE : Hid (doesF L K 4 cn kd no = .bad 10) := dC_key HFI.out (by omega) hk
          go_wp2_with fail
          have HP := Lib.hid ((S2.out.res.put 0 (.slice none 0 0)).put 1 (.int .i64 0))
          exact bodyPost_ret (schEnd rfl _ (w.heap.size + 2) _ _ _ rfl HP.out) rfl ⟨_, by rw [HE.out]; rfl, by rw [HE.out]; exact ownC_nil _ _, (S2.out.bel.setCell (by show w.heap.size ≤ w.heap.size + 1 + 1; omega) _).setCell (by show w.heap.size ≤ w.heap.size + 1 + 1; omega) _⟩
        · obtain ⟨i, rfl⟩ := Int.eq_ofNat_of_zero_le (show 0 ≤ fi by omega)
          have HE : Hid (doesF L K 4 cn kd no = ⟨i, i + 1, 0, 0⟩) := dC_ok HFI.out (by omega)
          have HLL : Hid (applyL L ⟨i, i + 1, 0, 0⟩ cn kd = L.take i ++ L.drop (i + 1)) := by show _ = _; simp [applyL]
          have hi0 : (0 : Int) ≤ (i : Int) := by omega
          have hi1 : (i : Int) ≤ (c7 : Int) := by omega
          have hi2 : (0 : Int) ≤ (i : Int) + 1 := by omega
          have hi3 : (i : Int) + 1 ≤ (n7 : Int) := by omega
          have hi4 : (n7 : Int) ≤ (c7 : Int) := by omega
          have hiL : i < L.length := by rw [HN.out]; omega
          obtain ⟨g, off2, rfl, hcc⟩ := HV7.out (by rw [List.nil_append]; intro h; rw [h] at hiL; simp at hiL)
          clear hcc
          have hown : Hid (OwnC (w.heap.size + 4) W (.slice (some ⟨g, off2, none⟩) n7 c7) L) := S2.out.own
          go_wp2_with fail
          clear hx0 hx4 hx5 hx6 s0 r0 r1 f0 f1 m0 m1
          obtain ⟨AD, hAD⟩ : ∃ AD, (if c7 = i + 1 then some (⟨g, off2, none⟩ : Addr) else some ⟨g, off2 + (i + 1) * 3, none⟩) = AD := ⟨_, rfl⟩
          have hlen : (L.drop (i + 1)).length = n7 - (i + 1) := by rw [List.length_drop, HN.out]
          have hlt2 : (L.take i).length = i := by rw [List.length_take]; omega
          have hAR : CRow W.drew AD (L.drop (i + 1)) := by
            have h1 := (OwnC.row hown.out.drew rfl).drop (i + 1)
            rw [← hAD]
            split
            · intro hne
              exact absurd (List.eq_nil_of_length_eq_zero (by rw [hlen]; omega)) hne
            · exact h1
          have hAN : AD = none → c7 - (i + 1) = 0 := by rw [← hAD]; intro h; split at h <;> cases h
          have HAP := Lib.hid (appCs W.drew (w.heap.size + 4) (.slice (some ⟨g, off2, none⟩) i c7) (L.take i) (OwnC.takeV hown.out.drew i (by omega)) S2.out.big AD (L.drop (i + 1)) (n7 - (i + 1)) (c7 - (i + 1)) hlen hAR hAN (by rw [hlt2]; omega))
          have HR := Lib.hid S2.out.res.drew
          have hzz := S2.out.big
          have hw1 : IntKind.i64.wrap ((i : Int) + 1) = (i : Int) + 1 := IntWalk.i64_in _ (by omega)
          have hw2 : ((i : Int) + 1).toNat = i + 1 := by omega
          clear hlen hlt2 hAR hAN
          go_region_held3 (fun X => X.cell? ⟨w.heap.size, 1, none⟩ = some (.int .i64 K)) (first | (go_keep; done) | exact cell_s2 (by show w.heap.size + 1 + 1 ≠ w.heap.size; omega) (by assumption)) (first
            | (refine step_appA (by rfl) _ _ _ _ (by rfl) (.slice (some ⟨g, off2, none⟩) i c7) (.slice AD (n7 - (i + 1)) (c7 - (i + 1))) (by rfl) (by rfl) ?_; obtain ⟨R, X, hrun, hmade⟩ := HAP.out; refine ⟨R, X, hrun, ?_⟩; obtain ⟨A8, n8, c8, hR8, _, _, _, _, _⟩ := ownC_open hmade.1; subst hR8; have z1 := belowB hmade.2 (by omega) s1; have HR8 := Lib.hid (HR.out.below hmade.2 (by omega)); have g0 : X.cell? ⟨w.heap.size + 1 + 1, 0, none⟩ = some (.slice none 0 0) := HR8.out.cell 0; have g1 : X.cell? ⟨w.heap.size + 1 + 1, 1, none⟩ = some (.int .i64 0) := HR8.out.cell 1; have e0 : X.frozen? ⟨w.heap.size + 1 + 1, 0, none⟩ = false := HR8.out.free 0; have e1 : X.frozen? ⟨w.heap.size + 1 + 1, 1, none⟩ = false := HR8.out.free 1; have HM := Lib.hid hmade; clear hrun hmade HAP))
          clear hw1 hw2
          have HB8 := Lib.hid (S2.out.bel.drew.trans (HM.out.2.mono (by omega)))
          have HP := Lib.hid ((HR8.out.put 0 (.slice A8 n8 c8)).put 1 (.int .i64 K))
          have HO8 := Lib.hid ((HM.out.1.far (p := ⟨w.heap.size + 1 + 1, 0, none⟩) (by show w.heap.size + 1 + 1 < _; omega) (.slice A8 n8 c8)).far (p := ⟨w.heap.size + 1 + 1, 1, none⟩) (by show w.heap.size + 1 + 1 < _; omega) (.int .i64 K))
          go_wp2_with fail
          exact bodyPost_ret (schEnd rfl _ (w.heap.size + 2) _ _ _ rfl HP.out) rfl ⟨_, by rw [HE.out]; rfl, by rw [HE.out, HLL.out]; exact ownC_down HO8.out (by omega), (HB8.out.setCell (by show w.heap.size ≤ w.heap.size + 1 + 1; omega) _).setCell (by show w.heap.size ≤ w.heap.size + 1 + 1; omega) _⟩
    · by_cases h5 : ck = 5
      · subst h5
        by_cases h0 : fi < 0
        · have HE : Hid (doesF L K 5 cn kd no = .bad 7) := dR_none HFI.out h0
          go_wp2_with fail
          have HP := Lib.hid ((S2.out.res.put 0 (.slice none 0 0)).put 1 (.int .i64 0))
          exact bodyPost_ret (schEnd rfl _ (w.heap.size + 2) _ _ _ rfl HP.out) rfl ⟨_, by rw [HE.out]; rfl, by rw [HE.out]; exact ownC_nil _ _, (S2.out.bel.setCell (by show w.heap.size ≤ w.heap.size + 1 + 1; omega) _).setCell (by show w.heap.size ≤ w.heap.size + 1 + 1; omega) _⟩
        · by_cases hk : fi < K
          · have HE : Hid (doesF L K 5 cn kd no = .bad 10) := dR_key HFI.out (by omega) hk
            go_wp2_with fail
            have HP := Lib.hid ((S2.out.res.put 0 (.slice none 0 0)).put 1 (.int .i64 0))
            exact bodyPost_ret (schEnd rfl _ (w.heap.size + 2) _ _ _ rfl HP.out) rfl ⟨_, by rw [HE.out]; rfl, by rw [HE.out]; exact ownC_nil _ _, (S2.out.bel.setCell (by show w.heap.size ≤ w.heap.size + 1 + 1; omega) _).setCell (by show w.heap.size ≤ w.heap.size + 1 + 1; omega) _⟩
          · obtain ⟨i, rfl⟩ := Int.eq_ofNat_of_zero_le (show 0 ≤ fi by omega)
            have hiL : i < L.length := by rw [HN.out]; omega
            have hnm := findI_nm HFI.out hiL
            obtain ⟨g, off2, rfl, hcc⟩ := HV7.out (by rw [List.nil_append]; intro h; rw [h] at hiL; simp at hiL)
            have hown : Hid (OwnC (w.heap.size + 4) W (.slice (some ⟨g, off2, none⟩) n7 c7) L) := S2.out.own
            obtain rfl := OwnC.off0 hown.out
            obtain ⟨l0, l1, l2⟩ := hcc i (by rw [List.nil_append]; exact hiL)
            simp only [List.nil_append, Nat.zero_add] at l0 l1 l2
            clear hcc
            have hkz : (i : Int) < (n7 : Int) := by omega
            have hk0 : (0 : Int) ≤ (i : Int) := by omega
            cases hno2 : L[i].no
            · have HE : Hid (doesF L K 5 cn kd no = .bad 10) := dR_must hiL HFI.out hno2
              rw [hno2] at l2
              clear hno2
              go_wp2_with fail
              have HP := Lib.hid ((S2.out.res.put 0 (.slice none 0 0)).put 1 (.int .i64 0))
              exact bodyPost_ret (schEnd rfl _ (w.heap.size + 2) _ _ _ rfl HP.out) rfl ⟨_, by rw [HE.out]; rfl, by rw [HE.out]; exact ownC_nil _ _, (S2.out.bel.setCell (by show w.heap.size ≤ w.heap.size + 1 + 1; omega) _).setCell (by show w.heap.size ≤ w.heap.size + 1 + 1; omega) _⟩
            · rw [hno2] at l2
              cases qk
              · have HE : Hid (doesF L K 5 cn kd no = .bad 1) := dR_kind hiL HFI.out hno2 (by omega) HQK.out
                clear hno2
                go_wp2_with fail
                have HP := Lib.hid ((S2.out.res.put 0 (.slice none 0 0)).put 1 (.int .i64 0))
                exact bodyPost_ret (schEnd rfl _ (w.heap.size + 2) _ _ _ rfl HP.out) rfl ⟨_, by rw [HE.out]; rfl, by rw [HE.out]; exact ownC_nil _ _, (S2.out.bel.setCell (by show w.heap.size ≤ w.heap.size + 1 + 1; omega) _).setCell (by show w.heap.size ≤ w.heap.size + 1 + 1; omega) _⟩
              · have HE : Hid (doesF L K 5 cn kd no = ⟨i, i + 1, 1, 0⟩) := dR_ok hiL HFI.out hno2 (by omega) HQK.out
                have HLL : Hid (applyL L ⟨i, i + 1, 1, 0⟩ cn kd = L.set i ⟨cn, kd, true⟩) := by show _ = _; rw [set_mid L i _ hiL]; simp [applyL]
                obtain ⟨hgb, hfr, HPO⟩ := ownC_put2 hown.out i hiL 1 (by omega) (.int .i64 kd) ⟨cn, kd, true⟩ (by simp only [Cl.cells]; rw [hnm, hno2]; rfl)
                clear hno2 hnm
                generalize L[i].k = lk at *
                generalize L[i].nm = ln at *
                have HPO2 := Lib.hid HPO
                have hz := S2.out.big
                have s1b : (W.setCell ⟨g, i * 3 + 1, none⟩ (.int .i64 kd)).cell? ⟨w.heap.size, 1, none⟩ = some (.int .i64 K) := (World.cell?_setCell_far _ _ _ _ (by show g ≠ w.heap.size; omega)).trans s1
                have HRG := Lib.hid (S2.out.res.far (p := ⟨g, i * 3 + 1, none⟩) (by show w.heap.size + 2 ≠ g; omega) (.int .i64 kd))
                have r0b : (W.setCell ⟨g, i * 3 + 1, none⟩ (.int .i64 kd)).cell? ⟨w.heap.size + 1 + 1, 0, none⟩ = some (.slice none 0 0) := HRG.out.cell 0
                have r1b : (W.setCell ⟨g, i * 3 + 1, none⟩ (.int .i64 kd)).cell? ⟨w.heap.size + 1 + 1, 1, none⟩ = some (.int .i64 0) := HRG.out.cell 1
                have f0b : (W.setCell ⟨g, i * 3 + 1, none⟩ (.int .i64 kd)).frozen? ⟨w.heap.size + 1 + 1, 0, none⟩ = false := HRG.out.free 0
                have f1b : (W.setCell ⟨g, i * 3 + 1, none⟩ (.int .i64 kd)).frozen? ⟨w.heap.size + 1 + 1, 1, none⟩ = false := HRG.out.free 1
                clear HPO m0 m1 hx4 hx6 s0
                go_wp2_with fail
                have HP := Lib.hid ((HRG.out.put 0 (.slice (some ⟨g, 0, none⟩) n7 c7)).put 1 (.int .i64 K))
                have HO8 := Lib.hid ((HPO2.out.far (p := ⟨w.heap.size + 1 + 1, 0, none⟩) (by show w.heap.size + 1 + 1 < _; omega) (.slice (some ⟨g, 0, none⟩) n7 c7)).far (p := ⟨w.heap.size + 1 + 1, 1, none⟩) (by show w.heap.size + 1 + 1 < _; omega) (.int .i64 K))
                have HB8 := Lib.hid (S2.out.bel.setCell (p := ⟨g, i * 3 + 1, none⟩) (by show w.heap.size ≤ g; omega) (.int .i64 kd))
                exact bodyPost_ret (schEnd rfl _ (w.heap.size + 2) _ _ _ rfl HP.out) rfl ⟨_, by rw [HE.out]; rfl, by rw [HE.out, HLL.out]; exact ownC_down HO8.out (by omega), (HB8.out.setCell (by show w.heap.size ≤ w.heap.size + 1 + 1; omega) _).setCell (by show w.heap.size ≤ w.heap.size + 1 + 1; omega) _⟩
      · have q3 : (ck == 3) = false := by simp [h3]
        have q4 : (ck != 4) = true := by simp [h4]
        have q5 : (ck != 5) = true := by simp [h5]
        have HE : Hid (doesF L K ck cn kd no = .bad 5) := d_kind h3 h4 h5
        go_wp2_with fail
        have HP := Lib.hid ((S2.out.res.put 0 (.slice none 0 0)).put 1 (.int .i64 0))
        exact bodyPost_ret (schEnd rfl _ (w.heap.size + 2) _ _ _ rfl HP.out) rfl ⟨_, by rw [HE.out]; rfl, by rw [HE.out]; exact ownC_nil _ _, (S2.out.bel.setCell (by show w.heap.size ≤ w.heap.size + 1 + 1; omega) _).setCell (by show w.heap.size ≤ w.heap.size + 1 + 1; omega) _⟩
end Go.Proofs.Yticfhjimbochlaa
