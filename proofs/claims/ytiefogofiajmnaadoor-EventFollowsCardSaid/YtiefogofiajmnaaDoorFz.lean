/-
  Changes of schemas: the document's Apply; changes turned; mathematics.
-/
import Derived.Test.YtiefogofiajmnaaDoorFind
import Derived.Test.YtiefogofiajmnaaDoorGood4
import Derived.Test.YtiefogofiajmnaaDoorApply
import Derived.Test.YtiefogofiajmnaaDoorMg6
import Derived.Test.YtiefogofiajmnaaDoorGoods
import Derived.Lib.AppendZerosOnto
import Derived.Laws.AppendOwnNone
import Derived.Test.YtiefogofiajmnaaDoorPutC
import Derived.Deep.RegionHeld3
import Derived.Test.YtiefogofiajmnaaDoorDoes
import Derived.Test.YtiefogofiajmnaaDoorRow4
import Derived.Test.YtiefogofiajmnaaDoorMg4
import Derived.Test.YtiefogofiajmnaaDoorRkey4
namespace Go.Proofs.YtiefogofiajmnaaDoor
open Go.RowKit Dg
set_option maxRecDepth 100000
set_option maxHeartbeats 1000000 in
theorem kind_any (k : Int) (w : World) : Calls Tryd.prog 60 #[.int .i64 k] w fun e w' => e = .returned (.bool (kindF k)) ∧ w' = w := by
  by_cases h : 1 ≤ k
  · have HK : Hid (kindF k = decide (k ≤ 4)) := by show _ = _; simp [kindF, h]
    go_enter Tryd.func60, Tryd.ntmps60
    go_wp2_with fail
    go_ret
    exact ⟨by rw [HK.out]; rfl, by trivial⟩
  · have HK : Hid (kindF k = false) := by show _ = _; simp [kindF, h]
    have h2 : k < 1 := by omega
    go_enter Tryd.func60, Tryd.ntmps60
    go_wp2_with fail
    go_ret
    exact ⟨by rw [HK.out]; rfl, by trivial⟩
end Go.Proofs.YtiefogofiajmnaaDoor
namespace Go.Proofs.YtiefogofiajmnaaDoor
open Go.RowKit Dg
section
variable {L : List Cl} {K : Int} {cn : ByteArray} {kd : Int} {no : Bool} {fi : Int}
theorem dA_arg (h : (nameF cn && kindF kd && no) = false) : doesF L K 3 cn kd no = .bad 1 := by
  unfold doesF addF; rw [if_pos rfl, if_pos h]
theorem dA_exist (h : (nameF cn && kindF kd && no) = true) (hf : findI L cn = fi) (h2 : 0 ≤ fi) : doesF L K 3 cn kd no = .bad 8 := by
  unfold doesF addF; rw [if_pos rfl, if_neg (by rw [h]; simp), if_pos (by omega)]
theorem dA_full (h : (nameF cn && kindF kd && no) = true) (hf : findI L cn = fi) (h2 : fi < 0) (h3 : 16 ≤ L.length) : doesF L K 3 cn kd no = .bad 10 := by
  unfold doesF addF; rw [if_pos rfl, if_neg (by rw [h]; simp), if_neg (by omega), if_pos h3]
theorem dA_ok (h : (nameF cn && kindF kd && no) = true) (hf : findI L cn = fi) (h2 : fi < 0) (h3 : L.length < 16) : doesF L K 3 cn kd no = ⟨L.length, L.length, 1, 0⟩ := by
  unfold doesF addF; rw [if_pos rfl, if_neg (by rw [h]; simp), if_neg (by omega), if_neg (by omega)]
theorem dC_none (hf : findI L cn = fi) (h : fi < 0) : doesF L K 4 cn kd no = .bad 7 := by
  unfold doesF cutF; rw [if_neg (by decide), if_pos rfl, if_pos (by omega)]
theorem dC_key (hf : findI L cn = fi) (h : 0 ≤ fi) (h2 : fi < K) : doesF L K 4 cn kd no = .bad 10 := by
  unfold doesF cutF; rw [if_neg (by decide), if_pos rfl, if_neg (by omega), if_pos (by omega)]
theorem dC_ok {i : Nat} (hf : findI L cn = (i : Nat)) (h2 : K ≤ (i : Int)) : doesF L K 4 cn kd no = ⟨i, i + 1, 0, 0⟩ := by
  unfold doesF cutF; rw [if_neg (by decide), if_pos rfl, if_neg (by omega), if_neg (by omega), hf]; rfl
theorem dR_none (hf : findI L cn = fi) (h : fi < 0) : doesF L K 5 cn kd no = .bad 7 := by
  unfold doesF retF; rw [if_neg (by decide), if_neg (by decide), if_pos rfl, if_pos (by omega)]
theorem dR_key (hf : findI L cn = fi) (h : 0 ≤ fi) (h2 : fi < K) : doesF L K 5 cn kd no = .bad 10 := by
  unfold doesF retF; rw [if_neg (by decide), if_neg (by decide), if_pos rfl, if_neg (by omega), if_pos (.inl (by omega))]
theorem noneAt_at {i : Nat} (h : i < L.length) : noneAt L (i : Int) = L[i].no := by
  unfold noneAt; rw [Int.toNat_natCast, List.getElem?_eq_getElem h]
theorem dR_must {i : Nat} (hi : i < L.length) (hf : findI L cn = (i : Nat)) (h2 : L[i].no = false) : doesF L K 5 cn kd no = .bad 10 := by
  unfold doesF retF; rw [if_neg (by decide), if_neg (by decide), if_pos rfl, if_neg (by omega), if_pos (.inr (by rw [hf, noneAt_at hi, h2]))]
theorem dR_kind {i : Nat} (hi : i < L.length) (hf : findI L cn = (i : Nat)) (h2 : L[i].no = true) (h3 : K ≤ (i : Int)) (hk : kindF kd = false) : doesF L K 5 cn kd no = .bad 1 := by
  unfold doesF retF; rw [if_neg (by decide), if_neg (by decide), if_pos rfl, if_neg (by omega), if_neg (by rw [hf, noneAt_at hi, h2]; simp; omega), if_pos hk]
theorem dR_ok {i : Nat} (hi : i < L.length) (hf : findI L cn = (i : Nat)) (h2 : L[i].no = true) (h3 : K ≤ (i : Int)) (hk : kindF kd = true) : doesF L K 5 cn kd no = ⟨i, i + 1, 1, 0⟩ := by
  unfold doesF retF; rw [if_neg (by decide), if_neg (by decide), if_pos rfl, if_neg (by omega), if_neg (by rw [hf, noneAt_at hi, h2]; simp; omega), if_neg (by rw [hk]; simp), hf]; rfl
theorem d_kind {ck : Int} (h3 : ck ≠ 3) (h4 : ck ≠ 4) (h5 : ck ≠ 5) : doesF L K ck cn kd no = .bad 5 := by
  unfold doesF; rw [if_neg h3, if_neg h4, if_neg h5]
end
theorem bytes_inj {s t : ByteArray} (h : (s.toList == t.toList) = true) : s = t := by
  have h1 : s.toList = t.toList := by simpa using h
  rw [← bs_sb s, ← bs_sb t] at h1 ⊢
  rw [bs_toList, bs_toList] at h1
  unfold bs
  rw [h1]
theorem findI_nm {L : List Cl} {s : ByteArray} {i : Nat} (h : findI L s = (i : Nat)) (hi : i < L.length) : L[i].nm = s := by
  unfold findI at h
  split at h
  · rename_i hl
    have e : findN L s = i := by omega
    unfold findN at e hl
    have := List.findIdx_getElem (w := hl)
    simp only [e] at this
    exact bytes_inj this
  · omega
theorem set_mid (L : List Cl) (i : Nat) (x : Cl) (h : i < L.length) : L.set i x = L.take i ++ [x] ++ L.drop (i + 1) := by
  rw [List.set_eq_take_append_cons_drop, if_pos h]; simp
/-- How the memory stands: what came in, the result, none, the columns. -/
structure RSt (w : World) (A : Option Addr) (n c : Nat) (K ck : Int) (tn : ByteArray) (A' : Option Addr) (n' c' : Nat) (K' : Int) (cn : ByteArray) (kd : Int) (no : Bool) (L : List Cl) (W : World) (v : Value) (M : List Cl) : Prop where
  bel : Below w.heap.size w W
  sc : Has W w.heap.size 28 #[.slice A n c, .int .i64 K]
  ch : Has W (w.heap.size + 1) 40 #[.int .i64 ck, .string tn, .slice A' n' c', .int .i64 K', .string cn, .int .i64 kd, .bool no]
  res : Has W (w.heap.size + 2) 28 #[.slice none 0 0, .int .i64 0]
  non : Has W (w.heap.size + 3) 28 #[.slice none 0 0, .int .i64 0]
  big : w.heap.size + 4 ≤ W.heap.size
  own : OwnC (w.heap.size + 4) W v M
section
variable {w : World} {A : Option Addr} {n c : Nat} {K ck : Int} {tn : ByteArray} {A' : Option Addr} {n' c' : Nat} {K' : Int} {cn : ByteArray} {kd : Int} {no : Bool} {L : List Cl} {W W2 : World} {v : Value} {M : List Cl}
theorem RSt.below (h : RSt w A n c K ck tn A' n' c' K' cn kd no L W v M) (hb : Below W.heap.size W W2) : RSt w A n c K ck tn A' n' c' K' cn kd no L W2 v M :=
  ⟨h.bel.trans (hb.mono h.bel.size), h.sc.below hb h.sc.lt, h.ch.below hb h.ch.lt, h.res.below hb h.res.lt, h.non.below hb h.non.lt, Nat.le_trans h.big hb.size, h.own.below hb⟩
theorem RSt.made (h : RSt w A n c K ck tn A' n' c' K' cn kd no L W v M) {v2 : Value} {M2 : List Cl} (hb : Below (w.heap.size + 4) W W2) (ho : OwnC (w.heap.size + 4) W2 v2 M2) : RSt w A n c K ck tn A' n' c' K' cn kd no L W2 v2 M2 :=
  ⟨h.bel.trans (hb.mono (by omega)), h.sc.below hb (by omega), h.ch.below hb (by omega), h.res.below hb (by omega), h.non.below hb (by omega), Nat.le_trans h.big hb.size, ho⟩
end
theorem belowB {B : Nat} {W W' : World} (h : Below B W W') {b i : Nat} {v : Value} (hb : b < B) (hc : W.cell? ⟨b, i, none⟩ = some v) : W'.cell? ⟨b, i, none⟩ = some v := (h.cell (p := ⟨b, i, none⟩) hb).trans hc
set_option maxHeartbeats 8000000 in
set_option maxRecDepth 100000 in
theorem rapply_any (A : Option Addr) (L : List Cl) (n c : Nat) (K : Int) (ck : Int) (tn : ByteArray) (A' : Option Addr) (n' c' : Nat) (K' : Int) (cn : ByteArray) (kd : Int) (no : Bool) (w : World) (hn : L.length = n) (hp : 0 < n) (hl : n ≤ 900) (hA : CRow w A L) :
    Calls Tryd.prog 37 #[.agg #[.slice A n c, .int .i64 K], .agg #[.int .i64 ck, .string tn, .slice A' n' c', .int .i64 K', .string cn, .int .i64 kd, .bool no]] w fun e w' => ∃ v, e = .returned (.tuple #[.agg #[v, .int .i64 (applyK K (doesF L K ck cn kd no))], .int .i64 (doesF L K ck cn kd no).e]) ∧ Hid (OwnC w.heap.size w' v (applyL L (doesF L K ck cn kd no) cn kd)) ∧ Hid (Below w.heap.size w w') := by
  have HN := Lib.hid hn
  obtain ⟨b, off, rfl, hcc⟩ := hA (by intro e; rw [e] at hn; simp at hn; omega)
  have hA2 : CRow w (some ⟨b, off, none⟩) L := fun _ => ⟨b, off, rfl, hcc⟩
  have HA := Lib.hid hA2
  have hlt := findI_lt L cn
  rw [hn] at hlt
  clear hn hA hcc hA2
  have st0 : RSt w (some ⟨b, off, none⟩) n c K ck tn A' n' c' K' cn kd no L ((((w.alloc (.cells #[.slice (some ⟨b, off, none⟩) n c, .int .i64 K] 28)).alloc (.cells #[.int .i64 ck, .string tn, .slice A' n' c', .int .i64 K', .string cn, .int .i64 kd, .bool no] 40)).alloc (.cells #[.slice none 0 0, .int .i64 0] 28)).alloc (.cells #[.slice none 0 0, .int .i64 0] 28)) (.slice none 0 0) [] := by
    have e1 : (w.alloc (.cells #[.slice (some ⟨b, off, none⟩) n c, .int .i64 K] 28)).heap.size = w.heap.size + 1 := by simp
    have e2 : ((w.alloc (.cells #[.slice (some ⟨b, off, none⟩) n c, .int .i64 K] 28)).alloc (.cells #[.int .i64 ck, .string tn, .slice A' n' c', .int .i64 K', .string cn, .int .i64 kd, .bool no] 40)).heap.size = w.heap.size + 2 := by simp
    have e3 : (((w.alloc (.cells #[.slice (some ⟨b, off, none⟩) n c, .int .i64 K] 28)).alloc (.cells #[.int .i64 ck, .string tn, .slice A' n' c', .int .i64 K', .string cn, .int .i64 kd, .bool no] 40)).alloc (.cells #[.slice none 0 0, .int .i64 0] 28)).heap.size = w.heap.size + 3 := by simp
    have hb : Below w.heap.size w ((((w.alloc (.cells #[.slice (some ⟨b, off, none⟩) n c, .int .i64 K] 28)).alloc (.cells #[.int .i64 ck, .string tn, .slice A' n' c', .int .i64 K', .string cn, .int .i64 kd, .bool no] 40)).alloc (.cells #[.slice none 0 0, .int .i64 0] 28)).alloc (.cells #[.slice none 0 0, .int .i64 0] 28)) := (((((Below.refl w.heap.size w).alloc (Nat.le_refl _) _).alloc (by simp) _).alloc (by simp; omega) _).alloc (by simp; omega) _)
    refine ⟨hb, (((Has.new w _ _).alloc _).alloc _).alloc _, ?_, ?_, ?_, by simp, ownC_nil _ _⟩
    · have h := ((Has.new (w.alloc (.cells #[.slice (some ⟨b, off, none⟩) n c, .int .i64 K] 28)) 40 #[.int .i64 ck, .string tn, .slice A' n' c', .int .i64 K', .string cn, .int .i64 kd, .bool no]).alloc (.cells #[.slice none 0 0, .int .i64 0] 28)).alloc (.cells #[.slice none 0 0, .int .i64 0] 28)
      rw [e1] at h; exact h
    · have h := (Has.new ((w.alloc (.cells #[.slice (some ⟨b, off, none⟩) n c, .int .i64 K] 28)).alloc (.cells #[.int .i64 ck, .string tn, .slice A' n' c', .int .i64 K', .string cn, .int .i64 kd, .bool no] 40)) 28 #[.slice none 0 0, .int .i64 0]).alloc (.cells #[.slice none 0 0, .int .i64 0] 28)
      rw [e2] at h; exact h
    · have h := Has.new (((w.alloc (.cells #[.slice (some ⟨b, off, none⟩) n c, .int .i64 K] 28)).alloc (.cells #[.int .i64 ck, .string tn, .slice A' n' c', .int .i64 K', .string cn, .int .i64 kd, .bool no] 40)).alloc (.cells #[.slice none 0 0, .int .i64 0] 28)) 28 #[.slice none 0 0, .int .i64 0]
      rw [e3] at h; exact h
  have S0 := Lib.hid st0
  have HF0 := Lib.hid (refFind_any (some ⟨b, off, none⟩) L n c K cn ((((w.alloc (.cells #[.slice (some ⟨b, off, none⟩) n c, .int .i64 K] 28)).alloc (.cells #[.int .i64 ck, .string tn, .slice A' n' c', .int .i64 K', .string cn, .int .i64 kd, .bool no] 40)).alloc (.cells #[.slice none 0 0, .int .i64 0] 28)).alloc (.cells #[.slice none 0 0, .int .i64 0] 28)) HN.out (by omega) (HA.out.below st0.bel))
  clear st0
  go_enter Tryd.func37, Tryd.ntmps37
  go_wp2_with fail
  refine HF0.out.mono ?_
  rintro e w1 ⟨rfl, hb⟩
  have S1 := Lib.hid (S0.out.below hb.out)
  obtain ⟨fi, hfi⟩ : ∃ fi, findI L cn = fi := ⟨_, rfl⟩
  rw [hfi] at hlt ⊢
  have HFI := Lib.hid hfi
  clear hb hfi S0 HF0
  have s0 : w1.cell? ⟨w.heap.size, 0, none⟩ = some (.slice (some ⟨b, off, none⟩) n c) := S1.out.sc.cell 0
  have HAP := Lib.hid (appCs w1 (w.heap.size + 4) (.slice none 0 0) [] (ownC_nil _ _) S1.out.big (some ⟨b, off, none⟩) L n c HN.out (HA.out.below S1.out.bel) (fun h => by cases h) (by simp; omega))
  go_wp2_with (at_builtin; refine wpList_app rfl _ _ 26 26 rfl (.slice none 0 0) (.slice (some ⟨b, off, none⟩) n c) rfl rfl ?_; go_loud (obtain ⟨R, W, hrun, hmade⟩ := HAP.out; refine ⟨R, W, hrun, ?_⟩; have S2 := Lib.hid (S1.out.made hmade.2 hmade.1); obtain ⟨A7, n7, c7, hR, HN7, hnc7, hcm7, HV7, HZ7⟩ := ownC_open hmade.1; subst hR; have hn7 := HN7.out.symm.trans HN.out; subst hn7; have hx4 : W.cell? ⟨w.heap.size + 1, 4, none⟩ = some (.string cn) := S2.out.ch.cell 4; have hx5 : W.cell? ⟨w.heap.size + 1, 5, none⟩ = some (.int .i64 kd) := S2.out.ch.cell 5; clear hrun hmade HAP s0 S1))
  refine (refName_any cn _).mono ?_
  rintro e w2 ⟨rfl, hw⟩
  obtain rfl : W = w2 := by first | exact hw | exact hw.symm
  go_wp2_with fail
  refine (kind_any kd _).mono ?_
  rintro e w2 ⟨rfl, hw⟩
  obtain rfl : W = w2 := by first | exact hw | exact hw.symm
  have s0 : W.cell? ⟨w.heap.size, 0, none⟩ = some (.slice (some ⟨b, off, none⟩) n7 c) := S2.out.sc.cell 0
  have s1 : W.cell? ⟨w.heap.size, 1, none⟩ = some (.int .i64 K) := S2.out.sc.cell 1
  have hx0 : W.cell? ⟨w.heap.size + 1, 0, none⟩ = some (.int .i64 ck) := S2.out.ch.cell 0
  have hx6 : W.cell? ⟨w.heap.size + 1, 6, none⟩ = some (.bool no) := S2.out.ch.cell 6
  have r0 : W.cell? ⟨w.heap.size + 1 + 1, 0, none⟩ = some (.slice none 0 0) := S2.out.res.cell 0
  have r1 : W.cell? ⟨w.heap.size + 1 + 1, 1, none⟩ = some (.int .i64 0) := S2.out.res.cell 1
  have f0 : W.frozen? ⟨w.heap.size + 1 + 1, 0, none⟩ = false := S2.out.res.free 0
  have f1 : W.frozen? ⟨w.heap.size + 1 + 1, 1, none⟩ = false := S2.out.res.free 1
  have m0 : W.cell? ⟨w.heap.size + 1 + 1 + 1, 0, none⟩ = some (.slice none 0 0) := S2.out.non.cell 0
  have m1 : W.cell? ⟨w.heap.size + 1 + 1 + 1, 1, none⟩ = some (.int .i64 0) := S2.out.non.cell 1
  obtain ⟨qn, hqn⟩ : ∃ q, nameF cn = q := ⟨_, rfl⟩
  obtain ⟨qk, hqk⟩ : ∃ q, kindF kd = q := ⟨_, rfl⟩
  rw [hqn, hqk]
  have HQN := Lib.hid hqn
  have HQK := Lib.hid hqk
  clear hqn hqk
  by_cases h3 : ck = 3
  · subst h3
    by_cases hall : (qn && qk && no) = true
    · have HALL : Hid ((nameF cn && kindF kd && no) = true) := by show _ = _; rw [HQN.out, HQK.out]; exact hall
      obtain ⟨rfl, rfl, rfl⟩ : qn = true ∧ qk = true ∧ no = true := by simp only [Bool.and_eq_true] at hall; exact ⟨hall.1.1, hall.1.2, hall.2⟩
      clear hall
      by_cases h0 : 0 ≤ fi
      · have HE : Hid (doesF L K 3 cn kd true = .bad 8) := dA_exist HALL.out HFI.out h0
        go_wp2_with fail
        have HP := Lib.hid ((S2.out.res.put 0 (.slice none 0 0)).put 1 (.int .i64 0))
        exact bodyPost_ret (schEnd rfl _ (w.heap.size + 2) _ _ _ rfl HP.out) rfl ⟨_, by rw [HE.out]; rfl, by rw [HE.out]; exact ownC_nil _ _, (S2.out.bel.setCell (by show w.heap.size ≤ w.heap.size + 1 + 1; omega) _).setCell (by show w.heap.size ≤ w.heap.size + 1 + 1; omega) _⟩
      · by_cases hfull : 16 ≤ n7
        · have hfz : (16 : Int) ≤ (n7 : Int) := by omega
          have HE : Hid (doesF L K 3 cn kd true = .bad 10) := dA_full HALL.out HFI.out (by omega) (by rw [HN.out]; exact hfull)
          go_wp2_with fail
          have HP := Lib.hid ((S2.out.res.put 0 (.slice none 0 0)).put 1 (.int .i64 0))
          exact bodyPost_ret (schEnd rfl _ (w.heap.size + 2) _ _ _ rfl HP.out) rfl ⟨_, by rw [HE.out]; rfl, by rw [HE.out]; exact ownC_nil _ _, (S2.out.bel.setCell (by show w.heap.size ≤ w.heap.size + 1 + 1; omega) _).setCell (by show w.heap.size ≤ w.heap.size + 1 + 1; omega) _⟩
        · have HE : Hid (doesF L K 3 cn kd true = ⟨L.length, L.length, 1, 0⟩) := dA_ok HALL.out HFI.out (by omega) (by rw [HN.out]; omega)
          have HLL : Hid (applyL L ⟨L.length, L.length, 1, 0⟩ cn kd = L ++ [⟨cn, kd, true⟩]) := by show _ = _; simp [applyL]
          have hfz : ¬ (16 : Int) ≤ (n7 : Int) := by omega
          have hfz2 : decide (16 ≤ n7) = false := by simp; omega
          go_wp2_with fail
          have HAP := Lib.hid (appC W.drew W.heap.size rfl (w.heap.size + 4) (.slice A7 n7 c7) L ⟨cn, kd, true⟩ S2.out.own.drew S2.out.big (by rw [HN.out]; omega))
          have HR := Lib.hid S2.out.res.drew
          have hzz := S2.out.big
          clear hx0 s0 r0 r1 f0 f1 m0 m1
          go_region_held3 (fun X => X.cell? ⟨w.heap.size + 1, 4, none⟩ = some (.string cn) ∧ X.cell? ⟨w.heap.size + 1, 5, none⟩ = some (.int .i64 kd) ∧ X.cell? ⟨w.heap.size + 1, 6, none⟩ = some (.bool true) ∧ X.cell? ⟨w.heap.size, 1, none⟩ = some (.int .i64 K)) (first | (go_keep; done) | exact ⟨cell_s2 (by show w.heap.size + 1 + 1 ≠ w.heap.size + 1; omega) (by assumption), cell_s2 (by show w.heap.size + 1 + 1 ≠ w.heap.size + 1; omega) (by assumption), cell_s2 (by show w.heap.size + 1 + 1 ≠ w.heap.size + 1; omega) (by assumption), cell_s2 (by show w.heap.size + 1 + 1 ≠ w.heap.size; omega) (by assumption)⟩) (first
            | (refine step_appA (by rfl) _ _ _ _ (by rfl) (.slice A7 n7 c7) (.slice (some ⟨W.heap.size, 0, none⟩) 1 1) (by rfl) (by rfl) ?_; obtain ⟨R, X, hrun, hmade⟩ := HAP.out; refine ⟨R, X, hrun, ?_⟩; obtain ⟨A8, n8, c8, hR8, _, _, _, _, _⟩ := ownC_open hmade.1; subst hR8; have z4 := belowB hmade.2 (by omega) hx4; have z5 := belowB hmade.2 (by omega) hx5; have z6 := belowB hmade.2 (by omega) hx6; have z1 := belowB hmade.2 (by omega) s1; have HR8 := Lib.hid (HR.out.below hmade.2 (by omega)); have g0 : X.cell? ⟨w.heap.size + 1 + 1, 0, none⟩ = some (.slice none 0 0) := HR8.out.cell 0; have g1 : X.cell? ⟨w.heap.size + 1 + 1, 1, none⟩ = some (.int .i64 0) := HR8.out.cell 1; have e0 : X.frozen? ⟨w.heap.size + 1 + 1, 0, none⟩ = false := HR8.out.free 0; have e1 : X.frozen? ⟨w.heap.size + 1 + 1, 1, none⟩ = false := HR8.out.free 1; have HM := Lib.hid hmade; clear hrun hmade HAP))
          have HB8 := Lib.hid (S2.out.bel.drew.trans (HM.out.2.mono (by omega)))
          have HP := Lib.hid ((HR8.out.put 0 (.slice A8 n8 c8)).put 1 (.int .i64 K))
          have HO8 := Lib.hid ((HM.out.1.far (p := ⟨w.heap.size + 1 + 1, 0, none⟩) (by show w.heap.size + 1 + 1 < _; omega) (.slice A8 n8 c8)).far (p := ⟨w.heap.size + 1 + 1, 1, none⟩) (by show w.heap.size + 1 + 1 < _; omega) (.int .i64 K))
          go_wp2_with fail
          exact bodyPost_ret (schEnd rfl _ (w.heap.size + 2) _ _ _ rfl HP.out) rfl ⟨_, by rw [HE.out]; rfl, by rw [HE.out, HLL.out]; exact ownC_down HO8.out (by omega), (HB8.out.setCell (by show w.heap.size ≤ w.heap.size + 1 + 1; omega) _).setCell (by show w.heap.size ≤ w.heap.size + 1 + 1; omega) _⟩
    · have HALL : Hid ((nameF cn && kindF kd && no) = false) := by show _ = _; rw [HQN.out, HQK.out]; simpa using hall
      cases qn
      · have HE : Hid (doesF L K 3 cn kd no = .bad 1) := dA_arg HALL.out
        go_wp2_with fail
        have HP := Lib.hid ((S2.out.res.put 0 (.slice none 0 0)).put 1 (.int .i64 0))
        exact bodyPost_ret (schEnd rfl _ (w.heap.size + 2) _ _ _ rfl HP.out) rfl ⟨_, by rw [HE.out]; rfl, by rw [HE.out]; exact ownC_nil _ _, (S2.out.bel.setCell (by show w.heap.size ≤ w.heap.size + 1 + 1; omega) _).setCell (by show w.heap.size ≤ w.heap.size + 1 + 1; omega) _⟩
      · cases qk
        · have HE : Hid (doesF L K 3 cn kd no = .bad 1) := dA_arg HALL.out
          go_wp2_with fail
          have HP := Lib.hid ((S2.out.res.put 0 (.slice none 0 0)).put 1 (.int .i64 0))
          exact bodyPost_ret (schEnd rfl _ (w.heap.size + 2) _ _ _ rfl HP.out) rfl ⟨_, by rw [HE.out]; rfl, by rw [HE.out]; exact ownC_nil _ _, (S2.out.bel.setCell (by show w.heap.size ≤ w.heap.size + 1 + 1; omega) _).setCell (by show w.heap.size ≤ w.heap.size + 1 + 1; omega) _⟩
        · obtain rfl : no = false := by simpa using hall
          have HE : Hid (doesF L K 3 cn kd false = .bad 1) := dA_arg HALL.out
          go_wp2_with fail
          have HP := Lib.hid ((S2.out.res.put 0 (.slice none 0 0)).put 1 (.int .i64 0))
          exact bodyPost_ret (schEnd rfl _ (w.heap.size + 2) _ _ _ rfl HP.out) rfl ⟨_, by rw [HE.out]; rfl, by rw [HE.out]; exact ownC_nil _ _, (S2.out.bel.setCell (by show w.heap.size ≤ w.heap.size + 1 + 1; omega) _).setCell (by show w.heap.size ≤ w.heap.size + 1 + 1; omega) _⟩
  · by_cases h4 : ck = 4
    · subst h4
      by_cases h0 : fi < 0
      · have HE : Hid (doesF L K 4 cn kd no = .bad 7) := dC_none HFI.out h0
        go_wp2_with fail
        have HP := Lib.hid ((S2.out.res.put 0 (.slice none 0 0)).put 1 (.int .i64 0))
        exact bodyPost_ret (schEnd rfl _ (w.heap.size + 2) _ _ _ rfl HP.out) rfl ⟨_, by rw [HE.out]; rfl, by rw [HE.out]; exact ownC_nil _ _, (S2.out.bel.setCell (by show w.heap.size ≤ w.heap.size + 1 + 1; omega) _).setCell (by show w.heap.size ≤ w.heap.size + 1 + 1; omega) _⟩
      · by_cases hk : fi < K
        · have HE : Hid (doesF L K 4 cn kd no = .bad 10) := dC_key HFI.out (by omega) hk
          go_wp2_with fail
          have HP := Lib.hid ((S2.out.res.put 0 (.slice none 0 0)).put 1 (.int .i64 0))
          exact bodyPost_ret (schEnd rfl _ (w.heap.size + 2) _ _ _ rfl HP.out) rfl ⟨_, by rw [HE.out]; rfl, by rw [HE.out]; exact ownC_nil _ _, (S2.out.bel.setCell (by show w.heap.size ≤ w.heap.size + 1 + 1; omega) _).setCell (by show w.heap.size ≤ w.heap.size + 1 + 1; omega) _⟩
        · obtain ⟨i, rfl⟩ := Int.eq_ofNat_of_zero_le (show 0 ≤ fi by omega)
          have HE : Hid (doesF L K 4 cn kd no = ⟨i, i + 1, 0, 0⟩) := dC_ok HFI.out (by omega)
          have HLL : Hid (applyL L ⟨i, i + 1, 0, 0⟩ cn kd = L.take i ++ L.drop (i + 1)) := by show _ = _; simp [applyL]
          have hi0 : (0 : Int) ≤ (i : Int) := by omega
          have hi1 : (i : Int) ≤ (c7 : Int) := by omega
          have hi2 : (0 : Int) ≤ (i : Int) + 1 := by omega
          have hi3 : (i : Int) + 1 ≤ (n7 : Int) := by omega
          have hi4 : (n7 : Int) ≤ (c7 : Int) := by omega
          have hiL : i < L.length := by rw [HN.out]; omega
          obtain ⟨g, off2, rfl, hcc⟩ := HV7.out (by rw [List.nil_append]; intro h; rw [h] at hiL; simp at hiL)
          clear hcc
          have hown : Hid (OwnC (w.heap.size + 4) W (.slice (some ⟨g, off2, none⟩) n7 c7) L) := S2.out.own
          go_wp2_with fail
          clear hx0 hx4 hx5 hx6 s0 r0 r1 f0 f1 m0 m1
          obtain ⟨AD, hAD⟩ : ∃ AD, (if c7 = i + 1 then some (⟨g, off2, none⟩ : Addr) else some ⟨g, off2 + (i + 1) * 3, none⟩) = AD := ⟨_, rfl⟩
          have hlen : (L.drop (i + 1)).length = n7 - (i + 1) := by rw [List.length_drop, HN.out]
          have hlt2 : (L.take i).length = i := by rw [List.length_take]; omega
          have hAR : CRow W.drew AD (L.drop (i + 1)) := by
            have h1 := (OwnC.row hown.out.drew rfl).drop (i + 1)
            rw [← hAD]
            split
            · intro hne
              exact absurd (List.eq_nil_of_length_eq_zero (by rw [hlen]; omega)) hne
            · exact h1
          have hAN : AD = none → c7 - (i + 1) = 0 := by rw [← hAD]; intro h; split at h <;> cases h
          have HAP := Lib.hid (appCs W.drew (w.heap.size + 4) (.slice (some ⟨g, off2, none⟩) i c7) (L.take i) (OwnC.takeV hown.out.drew i (by omega)) S2.out.big AD (L.drop (i + 1)) (n7 - (i + 1)) (c7 - (i + 1)) hlen hAR hAN (by rw [hlt2]; omega))
          have HR := Lib.hid S2.out.res.drew
          have hzz := S2.out.big
          have hw1 : IntKind.i64.wrap ((i : Int) + 1) = (i : Int) + 1 := IntWalk.i64_in _ (by omega)
          have hw2 : ((i : Int) + 1).toNat = i + 1 := by omega
          clear hlen hlt2 hAR hAN
          go_region_held3 (fun X => X.cell? ⟨w.heap.size, 1, none⟩ = some (.int .i64 K)) (first | (go_keep; done) | exact cell_s2 (by show w.heap.size + 1 + 1 ≠ w.heap.size; omega) (by assumption)) (first
            | (refine step_appA (by rfl) _ _ _ _ (by rfl) (.slice (some ⟨g, off2, none⟩) i c7) (.slice AD (n7 - (i + 1)) (c7 - (i + 1))) (by rfl) (by rfl) ?_; obtain ⟨R, X, hrun, hmade⟩ := HAP.out; refine ⟨R, X, hrun, ?_⟩; obtain ⟨A8, n8, c8, hR8, _, _, _, _, _⟩ := ownC_open hmade.1; subst hR8; have z1 := belowB hmade.2 (by omega) s1; have HR8 := Lib.hid (HR.out.below hmade.2 (by omega)); have g0 : X.cell? ⟨w.heap.size + 1 + 1, 0, none⟩ = some (.slice none 0 0) := HR8.out.cell 0; have g1 : X.cell? ⟨w.heap.size + 1 + 1, 1, none⟩ = some (.int .i64 0) := HR8.out.cell 1; have e0 : X.frozen? ⟨w.heap.size + 1 + 1, 0, none⟩ = false := HR8.out.free 0; have e1 : X.frozen? ⟨w.heap.size + 1 + 1, 1, none⟩ = false := HR8.out.free 1; have HM := Lib.hid hmade; clear hrun hmade HAP))
          clear hw1 hw2
          have HB8 := Lib.hid (S2.out.bel.drew.trans (HM.out.2.mono (by omega)))
          have HP := Lib.hid ((HR8.out.put 0 (.slice A8 n8 c8)).put 1 (.int .i64 K))
          have HO8 := Lib.hid ((HM.out.1.far (p := ⟨w.heap.size + 1 + 1, 0, none⟩) (by show w.heap.size + 1 + 1 < _; omega) (.slice A8 n8 c8)).far (p := ⟨w.heap.size + 1 + 1, 1, none⟩) (by show w.heap.size + 1 + 1 < _; omega) (.int .i64 K))
          go_wp2_with fail
          exact bodyPost_ret (schEnd rfl _ (w.heap.size + 2) _ _ _ rfl HP.out) rfl ⟨_, by rw [HE.out]; rfl, by rw [HE.out, HLL.out]; exact ownC_down HO8.out (by omega), (HB8.out.setCell (by show w.heap.size ≤ w.heap.size + 1 + 1; omega) _).setCell (by show w.heap.size ≤ w.heap.size + 1 + 1; omega) _⟩
    · by_cases h5 : ck = 5
      · subst h5
        by_cases h0 : fi < 0
        · have HE : Hid (doesF L K 5 cn kd no = .bad 7) := dR_none HFI.out h0
          go_wp2_with fail
          have HP := Lib.hid ((S2.out.res.put 0 (.slice none 0 0)).put 1 (.int .i64 0))
          exact bodyPost_ret (schEnd rfl _ (w.heap.size + 2) _ _ _ rfl HP.out) rfl ⟨_, by rw [HE.out]; rfl, by rw [HE.out]; exact ownC_nil _ _, (S2.out.bel.setCell (by show w.heap.size ≤ w.heap.size + 1 + 1; omega) _).setCell (by show w.heap.size ≤ w.heap.size + 1 + 1; omega) _⟩
        · by_cases hk : fi < K
          · have HE : Hid (doesF L K 5 cn kd no = .bad 10) := dR_key HFI.out (by omega) hk
            go_wp2_with fail
            have HP := Lib.hid ((S2.out.res.put 0 (.slice none 0 0)).put 1 (.int .i64 0))
            exact bodyPost_ret (schEnd rfl _ (w.heap.size + 2) _ _ _ rfl HP.out) rfl ⟨_, by rw [HE.out]; rfl, by rw [HE.out]; exact ownC_nil _ _, (S2.out.bel.setCell (by show w.heap.size ≤ w.heap.size + 1 + 1; omega) _).setCell (by show w.heap.size ≤ w.heap.size + 1 + 1; omega) _⟩
          · obtain ⟨i, rfl⟩ := Int.eq_ofNat_of_zero_le (show 0 ≤ fi by omega)
            have hiL : i < L.length := by rw [HN.out]; omega
            have hnm := findI_nm HFI.out hiL
            obtain ⟨g, off2, rfl, hcc⟩ := HV7.out (by rw [List.nil_append]; intro h; rw [h] at hiL; simp at hiL)
            have hown : Hid (OwnC (w.heap.size + 4) W (.slice (some ⟨g, off2, none⟩) n7 c7) L) := S2.out.own
            obtain rfl := OwnC.off0 hown.out
            obtain ⟨l0, l1, l2⟩ := hcc i (by rw [List.nil_append]; exact hiL)
            simp only [List.nil_append, Nat.zero_add] at l0 l1 l2
            clear hcc
            have hkz : (i : Int) < (n7 : Int) := by omega
            have hk0 : (0 : Int) ≤ (i : Int) := by omega
            cases hno2 : L[i].no
            · have HE : Hid (doesF L K 5 cn kd no = .bad 10) := dR_must hiL HFI.out hno2
              rw [hno2] at l2
              clear hno2
              go_wp2_with fail
              have HP := Lib.hid ((S2.out.res.put 0 (.slice none 0 0)).put 1 (.int .i64 0))
              exact bodyPost_ret (schEnd rfl _ (w.heap.size + 2) _ _ _ rfl HP.out) rfl ⟨_, by rw [HE.out]; rfl, by rw [HE.out]; exact ownC_nil _ _, (S2.out.bel.setCell (by show w.heap.size ≤ w.heap.size + 1 + 1; omega) _).setCell (by show w.heap.size ≤ w.heap.size + 1 + 1; omega) _⟩
            · rw [hno2] at l2
              cases qk
              · have HE : Hid (doesF L K 5 cn kd no = .bad 1) := dR_kind hiL HFI.out hno2 (by omega) HQK.out
                clear hno2
                go_wp2_with fail
                have HP := Lib.hid ((S2.out.res.put 0 (.slice none 0 0)).put 1 (.int .i64 0))
                exact bodyPost_ret (schEnd rfl _ (w.heap.size + 2) _ _ _ rfl HP.out) rfl ⟨_, by rw [HE.out]; rfl, by rw [HE.out]; exact ownC_nil _ _, (S2.out.bel.setCell (by show w.heap.size ≤ w.heap.size + 1 + 1; omega) _).setCell (by show w.heap.size ≤ w.heap.size + 1 + 1; omega) _⟩
              · have HE : Hid (doesF L K 5 cn kd no = ⟨i, i + 1, 1, 0⟩) := dR_ok hiL HFI.out hno2 (by omega) HQK.out
                have HLL : Hid (applyL L ⟨i, i + 1, 1, 0⟩ cn kd = L.set i ⟨cn, kd, true⟩) := by show _ = _; rw [set_mid L i _ hiL]; simp [applyL]
                obtain ⟨hgb, hfr, HPO⟩ := ownC_put2 hown.out i hiL 1 (by omega) (.int .i64 kd) ⟨cn, kd, true⟩ (by simp only [Cl.cells]; rw [hnm, hno2]; rfl)
                clear hno2 hnm
                generalize L[i].k = lk at *
                generalize L[i].nm = ln at *
                have HPO2 := Lib.hid HPO
                have hz := S2.out.big
                have s1b : (W.setCell ⟨g, i * 3 + 1, none⟩ (.int .i64 kd)).cell? ⟨w.heap.size, 1, none⟩ = some (.int .i64 K) := (World.cell?_setCell_far _ _ _ _ (by show g ≠ w.heap.size; omega)).trans s1
                have HRG := Lib.hid (S2.out.res.far (p := ⟨g, i * 3 + 1, none⟩) (by show w.heap.size + 2 ≠ g; omega) (.int .i64 kd))
                have r0b : (W.setCell ⟨g, i * 3 + 1, none⟩ (.int .i64 kd)).cell? ⟨w.heap.size + 1 + 1, 0, none⟩ = some (.slice none 0 0) := HRG.out.cell 0
                have r1b : (W.setCell ⟨g, i * 3 + 1, none⟩ (.int .i64 kd)).cell? ⟨w.heap.size + 1 + 1, 1, none⟩ = some (.int .i64 0) := HRG.out.cell 1
                have f0b : (W.setCell ⟨g, i * 3 + 1, none⟩ (.int .i64 kd)).frozen? ⟨w.heap.size + 1 + 1, 0, none⟩ = false := HRG.out.free 0
                have f1b : (W.setCell ⟨g, i * 3 + 1, none⟩ (.int .i64 kd)).frozen? ⟨w.heap.size + 1 + 1, 1, none⟩ = false := HRG.out.free 1
                clear HPO m0 m1 hx4 hx6 s0
                go_wp2_with fail
                have HP := Lib.hid ((HRG.out.put 0 (.slice (some ⟨g, 0, none⟩) n7 c7)).put 1 (.int .i64 K))
                have HO8 := Lib.hid ((HPO2.out.far (p := ⟨w.heap.size + 1 + 1, 0, none⟩) (by show w.heap.size + 1 + 1 < _; omega) (.slice (some ⟨g, 0, none⟩) n7 c7)).far (p := ⟨w.heap.size + 1 + 1, 1, none⟩) (by show w.heap.size + 1 + 1 < _; omega) (.int .i64 K))
                have HB8 := Lib.hid (S2.out.bel.setCell (p := ⟨g, i * 3 + 1, none⟩) (by show w.heap.size ≤ g; omega) (.int .i64 kd))
                exact bodyPost_ret (schEnd rfl _ (w.heap.size + 2) _ _ _ rfl HP.out) rfl ⟨_, by rw [HE.out]; rfl, by rw [HE.out, HLL.out]; exact ownC_down HO8.out (by omega), (HB8.out.setCell (by show w.heap.size ≤ w.heap.size + 1 + 1; omega) _).setCell (by show w.heap.size ≤ w.heap.size + 1 + 1; omega) _⟩
      · have q3 : (ck == 3) = false := by simp [h3]
        have q4 : (ck != 4) = true := by simp [h4]
        have q5 : (ck != 5) = true := by simp [h5]
        have HE : Hid (doesF L K ck cn kd no = .bad 5) := d_kind h3 h4 h5
        go_wp2_with fail
        have HP := Lib.hid ((S2.out.res.put 0 (.slice none 0 0)).put 1 (.int .i64 0))
        exact bodyPost_ret (schEnd rfl _ (w.heap.size + 2) _ _ _ rfl HP.out) rfl ⟨_, by rw [HE.out]; rfl, by rw [HE.out]; exact ownC_nil _ _, (S2.out.bel.setCell (by show w.heap.size ≤ w.heap.size + 1 + 1; omega) _).setCell (by show w.heap.size ≤ w.heap.size + 1 + 1; omega) _⟩
end Go.Proofs.YtiefogofiajmnaaDoor
namespace Go.Proofs.YtiefogofiajmnaaDoor
open Go.RowKit Dg
set_option maxRecDepth 100000
theorem zerosV (w : World) (n G : Nat) (hG : n ≤ G) (hm : G ≤ maxLen) :
    OwnV w.heap.size (w.drew.alloc (.cells (([] : List Value).toArray ++ Builtin.zeroCells (Value.agg #[.int .i64 0, .int .i64 0, .string ⟨#[]⟩]).cells n ++ Builtin.zeroCells (Value.agg #[.int .i64 0, .int .i64 0, .string ⟨#[]⟩]).cells (G - n)) 93)) (.slice (some ⟨w.heap.size, 0, none⟩) 0 G) [] :=
  World.ownsRow_made (base := w.heap.size) w.drew _ G (Nat.le_refl _) hm (by simp [size_zeroCells, Value.cells]; omega)
/-- A row of slices of bytes, as it is handed to a function that takes any number of them. -/
def PartsV (w : World) (g : Nat) (L : List (Option Addr × List Vl × Nat)) : Prop := ∀ i (h : i < L.length), w.cell? ⟨g, i, none⟩ = some (.slice L[i].1 L[i].2.1.length L[i].2.2) ∧ VRow w L[i].1 L[i].2.1 ∧ (L[i].1 = none → L[i].2.2 = 0)
def catV (L : List (Option Addr × List Vl × Nat)) (k : Nat) : List Vl := (L.take k).flatMap (fun x => x.2.1)
theorem catV_zero (L : List (Option Addr × List Vl × Nat)) : catV L 0 = [] := rfl
theorem catV_succ (L : List (Option Addr × List Vl × Nat)) (k : Nat) (h : k < L.length) : catV L (k + 1) = catV L k ++ L[k].2.1 := by
  unfold catV
  rw [List.take_succ_eq_append_getElem h, List.flatMap_append]
  simp
theorem catV_le (L : List (Option Addr × List Vl × Nat)) (k : Nat) : (catV L k).length ≤ (catV L L.length).length := by
  have h : catV L L.length = catV L k ++ (L.drop k).flatMap (fun x => x.2.1) := by
    unfold catV
    rw [← List.flatMap_append, List.take_append_drop, List.take_length]
  rw [h, List.length_append]
  omega
theorem catV_len_succ (L : List (Option Addr × List Vl × Nat)) (k : Nat) (h : k < L.length) : (catV L (k + 1)).length = (catV L k).length + L[k].2.1.length := by
  rw [catV_succ L k h, List.length_append]
theorem ownV_down {B B' : Nat} {w : World} {v : Value} {l : List Vl} (h : OwnV B w v l) (hb : B' ≤ B) : OwnV B' w v l := by
  obtain ⟨h1, h2⟩ := h
  refine ⟨h1, ?_⟩
  rcases h2 with h2 | ⟨g, cap, cur, e, hg, r⟩
  · exact .inl h2
  · exact .inr ⟨g, cap, cur, e, Nat.le_trans hb hg, r⟩
theorem OwnV.far {B : Nat} {w : World} {v : Value} {L : List Vl} (h : OwnV B w v L) {p : Addr} (hp : p.block < B) (u : Value) : OwnV B (w.setCell p u) v L := by
  rcases h.2 with ⟨hv, hn⟩ | ⟨g, cap, cur, hv, hg, hh, hc, hcm, hsz, ht⟩
  · exact ⟨h.1, .inl ⟨hv, hn⟩⟩
  · exact ⟨h.1, .inr ⟨g, cap, cur, hv, hg, Has.far (t := 93) (cs := cur) hh (by omega) u, hc, hcm, hsz, ht⟩⟩
end Go.Proofs.YtiefogofiajmnaaDoor
namespace Go.Proofs.YtiefogofiajmnaaDoor
open Go.RowKit Dg
theorem VRow.drop {w : World} {b off : Nat} {L : List Vl} (h : VRow w (some ⟨b, off, none⟩) L) (k : Nat) : VRow w (some ⟨b, off + k * 3, none⟩) (L.drop k) := fun hl => by
  obtain ⟨b', off', e, hc⟩ := h (by rintro rfl; simp at hl)
  injection e with e
  injection e with e1 e2
  subst e1 e2
  refine ⟨b, off + k * 3, rfl, fun i hi => ?_⟩
  rw [List.length_drop] at hi
  obtain ⟨h0, h1, h2⟩ := hc (k + i) (by omega)
  rw [List.getElem_drop]
  have e : off + (k + i) * 3 = off + k * 3 + i * 3 := by omega
  rw [e] at h0 h1 h2
  exact ⟨h0, h1, h2⟩
theorem VRow.take {w : World} {A : Option Addr} {L : List Vl} (h : VRow w A L) (k : Nat) : VRow w A (L.take k) := fun hl => by
  obtain ⟨b, off, e, hc⟩ := h (by rintro rfl; simp at hl)
  refine ⟨b, off, e, fun i hi => ?_⟩
  rw [List.length_take] at hi
  rw [List.getElem_take]
  exact hc i (by omega)
theorem VRow.one (w : World) (x : Vl) : VRow (w.alloc (.cells #[.int .i64 x.k, .int .i64 x.n, .string x.s] 93)) (some ⟨w.heap.size, 0, none⟩) [x] := fun _ => ⟨w.heap.size, 0, rfl, fun i hi => by
  have hh := Has.new w 93 #[.int .i64 x.k, .int .i64 x.n, .string x.s]
  obtain rfl : i = 0 := by simpa using hi
  exact ⟨hh.cell 0, hh.cell 1, hh.cell 2⟩⟩
end Go.Proofs.YtiefogofiajmnaaDoor
namespace Go.Proofs.YtiefogofiajmnaaDoor
open Go.RowKit Dg
/-- The row behind a change. -/
def turnL (L : List Vl) (d : Dn) : List Vl := L.take d.f ++ List.replicate d.m ⟨0, 0, ⟨#[]⟩⟩ ++ L.drop d.t
end Go.Proofs.YtiefogofiajmnaaDoor
namespace Go.Proofs.YtiefogofiajmnaaDoor
open Go.RowKit Dg
def tStep (ck fi : Int) (k : Nat) (x : Vl) : List Vl := if (k : Int) = fi ∧ ck = 5 then [vlNil] else if (k : Int) = fi ∧ ck = 4 then [] else [x]
def tTo (ck fi : Int) (R : List Vl) (k : Nat) : List Vl := (List.range k).flatMap fun i => tStep ck fi i (R.getD i vlNil)
def rturnF (ck fi : Int) (R : List Vl) : List Vl := tTo ck fi R R.length ++ (if ck = 3 then [vlNil] else [])
theorem tTo_succ (ck fi : Int) (R : List Vl) (k : Nat) (h : k < R.length) : tTo ck fi R (k + 1) = tTo ck fi R k ++ tStep ck fi k R[k] := by
  unfold tTo; rw [List.range_succ, List.flatMap_append]; simp [h]
theorem tStep_len (ck fi : Int) (k : Nat) (x : Vl) : (tStep ck fi k x).length ≤ 1 := by unfold tStep; split <;> (try split) <;> simp
theorem tTo_len (ck fi : Int) (R : List Vl) : ∀ k, (tTo ck fi R k).length ≤ k
  | 0 => by simp [tTo]
  | k + 1 => by
    have ih := tTo_len ck fi R k
    have h := tStep_len ck fi k (R.getD k vlNil)
    unfold tTo at *
    rw [List.range_succ, List.flatMap_append, List.length_append]
    simp only [List.flatMap_cons, List.flatMap_nil, List.append_nil]
    omega
theorem OwnV.drew {B : Nat} {w : World} {v : Value} {L : List Vl} (h : OwnV B w v L) : OwnV B w.drew v L := h.below ((Below.refl _ w).drew)
end Go.Proofs.YtiefogofiajmnaaDoor
namespace Go.Proofs.YtiefogofiajmnaaDoor
open Go.RowKit Dg
theorem does_cases {M : List Cl} {k : Nat} {ck : Int} {nm : ByteArray} {kd : Int} {no : Bool} (_hk : k ≤ M.length) (h : (doesF M k ck nm kd no).e = 0) :
    (ck = 3 ∧ findI M nm < 0 ∧ kindF kd = true ∧ nameF nm = true ∧ M.length < 16 ∧ doesF M k ck nm kd no = ⟨M.length, M.length, 1, 0⟩) ∨
    (∃ i : Nat, findI M nm = i ∧ k ≤ i ∧ i < M.length ∧ ((ck = 4 ∧ doesF M k ck nm kd no = ⟨i, i + 1, 0, 0⟩) ∨ (ck = 5 ∧ kindF kd = true ∧ doesF M k ck nm kd no = ⟨i, i + 1, 1, 0⟩))) := by
  by_cases h3 : ck = 3
  · subst h3
    left
    by_cases hall : (nameF nm && kindF kd && no) = true
    · by_cases h0 : 0 ≤ findI M nm
      · rw [dA_exist hall rfl h0] at h; cases h
      · by_cases h1 : 16 ≤ M.length
        · rw [dA_full hall rfl (by omega) h1] at h; cases h
        · have h2 := hall
          simp only [Bool.and_eq_true] at h2
          exact ⟨rfl, by omega, h2.1.2, h2.1.1, by omega, dA_ok hall rfl (by omega) (by omega)⟩
    · rw [dA_arg (by simpa using hall)] at h; cases h
  · right
    have hlt := findI_lt M nm
    by_cases h4 : ck = 4
    · subst h4
      by_cases h0 : findI M nm < 0
      · rw [dC_none rfl h0] at h; cases h
      · by_cases h1 : findI M nm < k
        · rw [dC_key rfl (by omega) h1] at h; cases h
        · obtain ⟨i, hi⟩ := Int.eq_ofNat_of_zero_le (show 0 ≤ findI M nm by omega)
          exact ⟨i, hi, by omega, by omega, .inl ⟨rfl, dC_ok hi (by omega)⟩⟩
    · by_cases h5 : ck = 5
      · subst h5
        by_cases h0 : findI M nm < 0
        · rw [dR_none rfl h0] at h; cases h
        · by_cases h1 : findI M nm < k
          · rw [dR_key rfl (by omega) h1] at h; cases h
          · obtain ⟨i, hi⟩ := Int.eq_ofNat_of_zero_le (show 0 ≤ findI M nm by omega)
            have hil : i < M.length := by omega
            cases hno : M[i].no
            · rw [dR_must hil hi hno] at h; cases h
            · cases hkd : kindF kd
              · rw [dR_kind hil hi hno (by omega) hkd] at h; cases h
              · exact ⟨i, hi, by omega, hil, .inr ⟨rfl, rfl, dR_ok hil hi hno (by omega) hkd⟩⟩
      · rw [d_kind h3 h4 h5] at h; cases h
theorem tTo_before (ck fi : Int) (R : List Vl) : ∀ k, k ≤ R.length → (∀ j : Nat, j < k → (j : Int) ≠ fi) → tTo ck fi R k = R.take k
  | 0, _, _ => by simp [tTo]
  | k + 1, hk, hj => by
    rw [tTo_succ ck fi R k (by omega), tTo_before ck fi R k (by omega) (fun j h => hj j (by omega)), List.take_succ_eq_append_getElem (by omega)]
    have := hj k (by omega)
    unfold tStep
    rw [if_neg (by omega), if_neg (by omega)]
theorem tTo_after (ck : Int) (i : Nat) (R : List Vl) (hi : i < R.length) : ∀ d, i + 1 + d ≤ R.length → tTo ck i R (i + 1 + d) = R.take i ++ tStep ck i i R[i] ++ (R.drop (i + 1)).take d
  | 0, _ => by
    rw [Nat.add_zero, tTo_succ ck i R i hi, tTo_before ck i R i (by omega) (fun j h => by omega)]
    simp
  | d + 1, hd => by
    rw [← Nat.add_assoc, tTo_succ ck i R (i + 1 + d) (by omega), tTo_after ck i R hi d (by omega)]
    have e : tStep ck i (i + 1 + d) R[i + 1 + d] = [R[i + 1 + d]] := by unfold tStep; rw [if_neg (by omega), if_neg (by omega)]
    have e2 : (R.drop (i + 1)).take (d + 1) = (R.drop (i + 1)).take d ++ [R[i + 1 + d]] := by
      rw [List.take_succ_eq_append_getElem (by rw [List.length_drop]; omega), List.getElem_drop]
    rw [e, e2, List.append_assoc]
theorem rturn_is {M : List Cl} {k : Nat} {ck : Int} {nm : ByteArray} {kd : Int} {no : Bool} {R : List Vl} (hk : k ≤ M.length) (hR : R.length = M.length) (h : (doesF M k ck nm kd no).e = 0) :
    rturnF ck (findI M nm) R = turnL R (doesF M k ck nm kd no) := by
  rcases does_cases hk h with ⟨rfl, hf, _, _, _, hd⟩ | ⟨i, hf, hki, hil, ⟨rfl, hd⟩ | ⟨rfl, _, hd⟩⟩
  · rw [hd]
    unfold rturnF turnL
    rw [tTo_before 3 _ R R.length (Nat.le_refl _) (fun j _ => by omega), if_pos rfl]
    simp [hR, vlNil]
  · rw [hd, hf]
    unfold rturnF turnL
    have e := tTo_after 4 i R (by omega) (R.length - (i + 1)) (by omega)
    rw [show i + 1 + (R.length - (i + 1)) = R.length by omega] at e
    rw [e, if_neg (by omega)]
    have et : tStep 4 i i (R[i]'(by omega)) = [] := by unfold tStep; rw [if_neg (by omega), if_pos ⟨rfl, rfl⟩]
    rw [et, List.take_of_length_le (l := R.drop (i + 1)) (by rw [List.length_drop]; omega)]
    simp
  · rw [hd, hf]
    unfold rturnF turnL
    have e := tTo_after 5 i R (by omega) (R.length - (i + 1)) (by omega)
    rw [show i + 1 + (R.length - (i + 1)) = R.length by omega] at e
    rw [e, if_neg (by omega)]
    have et : tStep 5 i i (R[i]'(by omega)) = [vlNil] := by unfold tStep; rw [if_pos ⟨rfl, rfl⟩]
    rw [et, List.take_of_length_le (l := R.drop (i + 1)) (by rw [List.length_drop]; omega)]
    simp [vlNil]
def zipOk (M : List Cl) (R : List Vl) : Bool := (M.zip R).all fun p => standsF p.1 p.2
theorem fits_zip : ∀ (M : List Cl) (R : List Vl), M.length = R.length → fitsTo M R M.length = zipOk M R := by
  intro M R h
  have H : ∀ k, k ≤ M.length → fitsTo M R k = zipOk (M.take k) (R.take k) := by
    intro k
    induction k with
    | zero => intro _; rfl
    | succ k ih =>
      intro hk
      rw [fitsTo_succ M R k (by omega) (by omega), ih (by omega)]
      rw [List.take_succ_eq_append_getElem (by omega), List.take_succ_eq_append_getElem (by omega)]
      unfold zipOk
      rw [List.zip_append (by rw [List.length_take, List.length_take]; omega), List.all_append]
      simp
  have := H M.length (Nat.le_refl _)
  rw [List.take_length, List.take_of_length_le (by omega)] at this
  exact this
theorem zip_app {M M' : List Cl} {R R' : List Vl} (h : M.length = R.length) : zipOk (M ++ M') (R ++ R') = (zipOk M R && zipOk M' R') := by
  unfold zipOk; rw [List.zip_append h, List.all_append]
theorem zip_take {M : List Cl} {R : List Vl} (h : zipOk M R = true) (k : Nat) : zipOk (M.take k) (R.take k) = true := by
  unfold zipOk at *
  rw [List.zip_eq_zipWith, ← List.take_zipWith, ← List.zip_eq_zipWith]
  rw [List.all_eq_true] at *
  exact fun x hx => h x (List.mem_of_mem_take hx)
theorem zip_drop {M : List Cl} {R : List Vl} (h : zipOk M R = true) (k : Nat) : zipOk (M.drop k) (R.drop k) = true := by
  unfold zipOk at *
  rw [List.zip_eq_zipWith, ← List.drop_zipWith, ← List.zip_eq_zipWith]
  rw [List.all_eq_true] at *
  exact fun x hx => h x (List.mem_of_mem_drop hx)
theorem fitsF_iff (M : List Cl) (R : List Vl) : fitsF M R = true ↔ R.length = M.length ∧ zipOk M R = true := by
  unfold fitsF
  by_cases h : R.length = M.length
  · rw [fits_zip M R h.symm]; simp [h]
  · simp [h]
theorem fitsTo_of {M : List Cl} {R : List Vl} (h : fitsF M R = true) (k : Nat) (hk : k ≤ M.length) : fitsTo M R k = true := by
  unfold fitsF at h
  simp only [Bool.and_eq_true, decide_eq_true_eq] at h
  unfold fitsTo at *
  rw [List.all_eq_true] at *
  exact fun i hi => h.2 i (List.mem_range.2 (by have := List.mem_range.1 hi; omega))
theorem keyOk_of {M : List Cl} {R : List Vl} (h : fitsF M R = true) (k : Nat) (hk : k ≤ M.length) : keyOk M R k = true := by
  have h1 := (fitsF_iff M R).1 h
  unfold keyOk
  rw [fitsTo_of h k hk]
  simp; omega
theorem turn_fits {M : List Cl} {k : Nat} {ck : Int} {nm : ByteArray} {kd : Int} {no : Bool} {R : List Vl} (hk : k ≤ M.length) (hR : fitsF M R = true) (h : (doesF M k ck nm kd no).e = 0) :
    fitsF (applyL M (doesF M k ck nm kd no) nm kd) (turnL R (doesF M k ck nm kd no)) = true ∧ (turnL R (doesF M k ck nm kd no)).take k = R.take k ∧ k ≤ (applyL M (doesF M k ck nm kd no) nm kd).length ∧ (applyL M (doesF M k ck nm kd no) nm kd).length ≤ M.length + 1 := by
  obtain ⟨hl, hz⟩ := (fitsF_iff M R).1 hR
  have hnil : standsF ⟨nm, kd, true⟩ ⟨0, 0, ⟨#[]⟩⟩ = true := by
    unfold standsF
    rw [show (Vl.may ⟨0, 0, ⟨#[]⟩⟩) = true from nil_may]
    simp
  rcases does_cases hk h with ⟨rfl, hf, _, _, _, hd⟩ | ⟨i, hf, hki, hil, ⟨rfl, hd⟩ | ⟨rfl, _, hd⟩⟩
  · rw [hd]
    refine ⟨(fitsF_iff _ _).2 ⟨by simp [turnL, applyL, hl], ?_⟩, by simp [turnL, ← hl]; rw [List.take_append_of_le_length (by omega)], by simp [applyL]; omega, by simp [applyL]⟩
    have e1 : turnL R ⟨M.length, M.length, 1, 0⟩ = R ++ [⟨0, 0, ⟨#[]⟩⟩] := by simp [turnL, ← hl]
    have e2 : applyL M ⟨M.length, M.length, 1, 0⟩ nm kd = M ++ [⟨nm, kd, true⟩] := by simp [applyL]
    rw [e1, e2, zip_app hl.symm, hz]
    simp [zipOk, hnil]
  · rw [hd]
    have e1 : turnL R ⟨i, i + 1, 0, 0⟩ = R.take i ++ R.drop (i + 1) := by simp [turnL]
    have e2 : applyL M ⟨i, i + 1, 0, 0⟩ nm kd = M.take i ++ M.drop (i + 1) := by simp [applyL]
    rw [e1, e2]
    refine ⟨(fitsF_iff _ _).2 ⟨by simp [hl], ?_⟩, ?_, by simp; omega, by simp; omega⟩
    · rw [zip_app (by simp [hl]), zip_take hz, zip_drop hz]; rfl
    · rw [List.take_append_of_le_length (by simp; omega), List.take_take, Nat.min_eq_left hki]
  · rw [hd]
    have e1 : turnL R ⟨i, i + 1, 1, 0⟩ = R.take i ++ [⟨0, 0, ⟨#[]⟩⟩] ++ R.drop (i + 1) := by simp [turnL]
    have e2 : applyL M ⟨i, i + 1, 1, 0⟩ nm kd = M.take i ++ [⟨nm, kd, true⟩] ++ M.drop (i + 1) := by simp [applyL]
    rw [e1, e2]
    refine ⟨(fitsF_iff _ _).2 ⟨by simp [hl], ?_⟩, ?_, by simp; omega, by simp; omega⟩
    · rw [zip_app (by simp [hl]), zip_app (by simp [hl]), zip_take hz, zip_drop hz]
      simp [zipOk, hnil]
    · rw [List.append_assoc, List.take_append_of_le_length (by simp; omega), List.take_take, Nat.min_eq_left hki]
theorem turnL_mem {R : List Vl} {d : Dn} {x : Vl} (h : x ∈ turnL R d) : x ∈ R ∨ x = vlNil := by
  unfold turnL at h
  rw [List.mem_append, List.mem_append] at h
  rcases h with (h | h) | h
  · exact .inl (List.mem_of_mem_take h)
  · exact .inr (List.eq_of_mem_replicate h)
  · exact .inl (List.mem_of_mem_drop h)
end Go.Proofs.YtiefogofiajmnaaDoor
namespace Go.Proofs.YtiefogofiajmnaaDoor
open Go.RowKit Dg
def Apart (M : List Cl) : Prop := (M.map fun c => c.nm.toList).Pairwise (· ≠ ·)
def Each (M : List Cl) : Prop := ∀ c ∈ M, nameF c.nm = true ∧ kindF c.k = true
theorem cols_parts {M : List Cl} (h : Cols M) : Each M ∧ Apart M := by
  constructor
  · intro c hc
    obtain ⟨i, hi, rfl⟩ := List.getElem_of_mem hc
    obtain ⟨h1, _, h3⟩ := h i hi
    exact ⟨h1, h3⟩
  · unfold Apart
    rw [List.pairwise_iff_getElem]
    intro i j hi hj hij e
    rw [List.length_map] at hi hj
    rw [List.getElem_map, List.getElem_map] at e
    have := findI_first hj (h j hj).2.1 i hij
    rw [e] at this
    simp at this
theorem cols_of {M : List Cl} (h : Each M) (ha : Apart M) : Cols M := by
  intro i hi
  obtain ⟨h1, h3⟩ := h M[i] (List.getElem_mem hi)
  refine ⟨h1, findI_at hi (by simp) fun j hj => ?_, h3⟩
  unfold Apart at ha
  rw [List.pairwise_iff_getElem] at ha
  have := ha j i (by rw [List.length_map]; omega) (by rw [List.length_map]; omega) hj
  rw [List.getElem_map, List.getElem_map] at this
  simpa using this
theorem may_of {M : List Cl} {k : Nat} (hc : Cols M) (h0 : 1 ≤ M.length) (h1 : M.length ≤ 16) (h2 : 1 ≤ k) (h3 : k ≤ 4) (h4 : k ≤ M.length) (hn : ∀ i (h : i < M.length), i < k → M[i].no = false) : smayF M k = true := by
  rw [smayF_yes h0 h1 (by omega) (by omega) (by omega)]
  unfold colsTo
  rw [List.all_eq_true]
  intro i hi
  have hi' : i < M.length := List.mem_range.1 hi
  obtain ⟨q1, q2, q3⟩ := hc i hi'
  rw [colOk_at M k i hi', q1, q2, q3]
  by_cases hk : i < k
  · rw [hn i hi' hk]; simp
  · simp; omega
theorem apply_may {M : List Cl} {k : Nat} (hg : GoodS M k) {ck : Int} {nm : ByteArray} {kd : Int} {no : Bool} (h : (doesF M k ck nm kd no).e = 0) : smayF (applyL M (doesF M k ck nm kd no) nm kd) k = true := by
  have hl := hg.len
  have hk := hg.keys
  obtain ⟨hE, hA⟩ := cols_parts hg.cols
  rcases does_cases hk.2.1 h with ⟨rfl, hf, hkd, hnm, _, hd⟩ | ⟨i, hf, hki, hil, ⟨rfl, hd⟩ | ⟨rfl, hkd, hd⟩⟩
  · rw [hd]
    have e2 : applyL M ⟨M.length, M.length, 1, 0⟩ nm kd = M ++ [⟨nm, kd, true⟩] := by simp [applyL]
    rw [e2]
    refine may_of (cols_snoc hg.cols hnm hf hkd) (by simp) (by simp; omega) hk.1 (by omega) (by simp; omega) fun j hj hjk => ?_
    rw [List.getElem_append_left (by omega)]
    exact hg.none j (by omega) hjk
  · rw [hd]
    have e2 : applyL M ⟨i, i + 1, 0, 0⟩ nm kd = M.take i ++ M.drop (i + 1) := by simp [applyL]
    rw [e2]
    have hE2 : Each (M.take i ++ M.drop (i + 1)) := fun c hc => by
      rcases List.mem_append.1 hc with h | h
      · exact hE c (List.mem_of_mem_take h)
      · exact hE c (List.mem_of_mem_drop h)
    have hs : (M.take i ++ M.drop (i + 1)).Sublist M := by
      have h1 : (M.take i ++ M.drop (i + 1)).Sublist (M.take i ++ M.drop i) := List.Sublist.append_left (List.drop_sublist_drop_left M (Nat.le_succ i)) _
      rwa [List.take_append_drop] at h1
    have hA2 : Apart (M.take i ++ M.drop (i + 1)) := List.Pairwise.sublist (hs.map _) hA
    refine may_of (cols_of hE2 hA2) (by simp; omega) (by simp; omega) hk.1 (by omega) (by simp; omega) fun j hj hjk => ?_
    rw [List.getElem_append_left (by rw [List.length_take]; omega), List.getElem_take]
    exact hg.none j (by omega) hjk
  · rw [hd]
    have e2 : applyL M ⟨i, i + 1, 1, 0⟩ nm kd = M.set i ⟨nm, kd, true⟩ := by rw [set_mid M i _ hil]; simp [applyL]
    rw [e2]
    have hnm := findI_nm hf hil
    have hm : (M.set i ⟨nm, kd, true⟩).map (fun c => c.nm.toList) = M.map fun c => c.nm.toList := by
      rw [List.map_set]
      apply List.ext_getElem (by simp)
      intro j h1 h2
      rw [List.getElem_set]
      split
      · rename_i hij; subst hij; rw [List.getElem_map, hnm]
      · rfl
    have hA2 : Apart (M.set i ⟨nm, kd, true⟩) := by unfold Apart; rw [hm]; exact hA
    have hE2 : Each (M.set i ⟨nm, kd, true⟩) := fun c hc => by
      rcases List.mem_or_eq_of_mem_set hc with h | rfl
      · exact hE c h
      · exact ⟨by rw [← hnm]; exact (hE _ (List.getElem_mem hil)).1, hkd⟩
    refine may_of (cols_of hE2 hA2) (by simp; omega) (by simp; omega) hk.1 (by omega) (by simp; omega) fun j hj hjk => ?_
    rw [List.getElem_set_ne (by omega)]
    exact hg.none j (by simpa using hj) hjk
end Go.Proofs.YtiefogofiajmnaaDoor
