/-
  A row behind a change: the document's Turn.
-/
import Derived.Test.YticfhjimbochlaaRow4
import Derived.Test.YticfhjimbochlaaStepA
import Derived.Test.YticfhjimbochlaaTurn
namespace Go.Proofs.Yticfhjimbochlaa
open Go.RowKit Dg
def tStep (ck fi : Int) (k : Nat) (x : Vl) : List Vl := if (k : Int) = fi ∧ ck = 5 then [vlNil] else if (k : Int) = fi ∧ ck = 4 then [] else [x]
def tTo (ck fi : Int) (R : List Vl) (k : Nat) : List Vl := (List.range k).flatMap fun i => tStep ck fi i (R.getD i vlNil)
def rturnF (ck fi : Int) (R : List Vl) : List Vl := tTo ck fi R R.length ++ (if ck = 3 then [vlNil] else [])
theorem tTo_succ (ck fi : Int) (R : List Vl) (k : Nat) (h : k < R.length) : tTo ck fi R (k + 1) = tTo ck fi R k ++ tStep ck fi k R[k] := by
  unfold tTo; rw [List.range_succ, List.flatMap_append]; simp [h]
theorem tStep_len (ck fi : Int) (k : Nat) (x : Vl) : (tStep ck fi k x).length ≤ 1 := by unfold tStep; split <;> (try split) <;> simp
theorem tTo_len (ck fi : Int) (R : List Vl) : ∀ k, (tTo ck fi R k).length ≤ k
  | 0 => by simp [tTo]
  | k + 1 => by
    have ih := tTo_len ck fi R k
    have h := tStep_len ck fi k (R.getD k vlNil)
    unfold tTo at *
    rw [List.range_succ, List.flatMap_append, List.length_append]
    simp only [List.flatMap_cons, List.flatMap_nil, List.append_nil]
    omega
theorem OwnV.drew {B : Nat} {w : World} {v : Value} {L : List Vl} (h : OwnV B w v L) : OwnV B w.drew v L := h.below ((Below.refl _ w).drew)
set_option maxHeartbeats 6000000 in
set_option maxRecDepth 100000 in
theorem rturn_any (A : Option Addr) (L : List Cl) (n c : Nat) (K : Int) (ck : Int) (tn : ByteArray) (A' : Option Addr) (n' c' : Nat) (K' : Int) (cn : ByteArray) (kd : Int) (no : Bool) (Ar : Option Addr) (R : List Vl) (nr cr : Nat) (w : World) (hn : L.length = n) (hl : n ≤ 900) (hr : R.length = nr) (hlr : nr ≤ 900) (hA : CRow w A L) (hR : VRow w Ar R) :
    Calls Try.prog 27 #[.agg #[.slice A n c, .int .i64 K], .agg #[.int .i64 ck, .string tn, .slice A' n' c', .int .i64 K', .string cn, .int .i64 kd, .bool no], .slice Ar nr cr] w fun e w' => ∃ v, e = .returned v ∧ Hid (OwnV w.heap.size w' v (rturnF ck (findI L cn) R)) ∧ Hid (Below w.heap.size w w') := by
  have HN := Lib.hid hn
  have HNR := Lib.hid hr
  have HA := Lib.hid hA
  have HR := Lib.hid hR
  have HB0 := Lib.hid (((Below.refl w.heap.size w).alloc (Nat.le_refl _) (.cells #[.slice A n c, .int .i64 K] 24)).alloc (by simp) (.cells #[.int .i64 ck, .string tn, .slice A' n' c', .int .i64 K', .string cn, .int .i64 kd, .bool no] 35))
  have hq := Has.new (w.alloc (.cells #[.slice A n c, .int .i64 K] 24)) 35 #[.int .i64 ck, .string tn, .slice A' n' c', .int .i64 K', .string cn, .int .i64 kd, .bool no]
  rw [show (w.alloc (.cells #[.slice A n c, .int .i64 K] 24)).heap.size = w.heap.size + 1 by simp] at hq
  have HQ0 := Lib.hid hq
  have HZ0 : Hid (w.heap.size + 2 ≤ ((w.alloc (.cells #[.slice A n c, .int .i64 K] 24)).alloc (.cells #[.int .i64 ck, .string tn, .slice A' n' c', .int .i64 K', .string cn, .int .i64 kd, .bool no] 35)).heap.size) := by show _ ≤ _; simp
  have HF0 := Lib.hid (refFind_any A L n c K cn ((w.alloc (.cells #[.slice A n c, .int .i64 K] 24)).alloc (.cells #[.int .i64 ck, .string tn, .slice A' n' c', .int .i64 K', .string cn, .int .i64 kd, .bool no] 35)) HN.out (by omega) (HA.out.below HB0.out))
  clear hq hn hr hA hR
  go_enter Try.func27, Try.ntmps27
  go_wp2_with fail
  refine HF0.out.mono ?_
  rintro e w1 ⟨rfl, hb⟩
  have HB1 := Lib.hid (HB0.out.trans (hb.out.mono HB0.out.size))
  have HQ1 := Lib.hid (HQ0.out.below hb.out HQ0.out.lt)
  have HZ1 : Hid (w.heap.size + 2 ≤ w1.heap.size) := Nat.le_trans HZ0.out hb.out.size
  obtain ⟨fi, hfi⟩ : ∃ fi, findI L cn = fi := ⟨_, rfl⟩
  rw [hfi]
  have HFI := Lib.hid hfi
  clear hb hfi HF0 HB0 HQ0 HZ0
  go_wp2_with fail
  go_loopw [7, 9] (fun x i wr => ∃ (k : Nat) (u : Value), k ≤ nr ∧ i = .int .i64 k ∧ u = x ∧ Hid (OwnV (w.heap.size + 2) wr u (tTo ck fi R k)) ∧ Hid (Below w.heap.size w wr) ∧ Hid (Has wr (w.heap.size + 1) 35 #[.int .i64 ck, .string tn, .slice A' n' c', .int .i64 K', .string cn, .int .i64 kd, .bool no]) ∧ Hid (w.heap.size + 2 ≤ wr.heap.size)) (fun _ i _ => nr - (intOf i).toNat)
  case atStart => exact ⟨0, _, by omega, rfl, rfl, ownV_nil _ _, HB1.out, HQ1.out, HZ1.out⟩
  case round =>
    obtain ⟨k, u, hk, rfl, rfl, HO, HB, HQ, HZ⟩ := hrel
    have q0 : wr.cell? ⟨w.heap.size + 1, 0, none⟩ = some (.int .i64 ck) := HQ.out.cell 0
    by_cases hlt : k < nr
    · have hkr : k < R.length := by rw [HNR.out]; exact hlt
      obtain ⟨b, off, rfl, hc⟩ := (HR.out.below HB.out) (by intro e; rw [e] at hkr; simp at hkr)
      obtain ⟨d0, d1, d2⟩ := hc k hkr
      have HT := Lib.hid (tTo_succ ck fi R k hkr)
      have hlen := tTo_len ck fi R k
      have HLN := Lib.hid (show (tTo ck fi R k).length ≤ 900 by omega)
      clear hc hlen
      generalize R[k] = y at *
      obtain ⟨yk, yn, ys⟩ := y
      simp only at d0 d1 d2
      generalize tTo ck fi R k = T at *
      have hkz : (k : Int) < (nr : Int) := by omega
      have hk0 : (0 : Int) ≤ (k : Int) := by omega
      by_cases hf : (k : Int) = fi
      · have hfq : ((k : Int) == fi) = true := by simp [hf]
        have hfq2 : ((k : Int) != fi) = false := by simp [hf]
        by_cases h5 : ck = 5
        · have HT2 : Hid (tTo ck fi R (k + 1) = T ++ [vlNil]) := by show _ = _; rw [HT.out]; unfold tStep; rw [if_pos ⟨hf, h5⟩]
          subst h5
          clear HT hf
          have HAP := Lib.hid (appR wr wr.heap.size rfl (w.heap.size + 2) u T vlNil HO.out HZ.out (by have := HLN.out; omega))
          go_wp2_with (at_builtin; refine wpList_app rfl _ _ 41 41 rfl u (.slice (some ⟨wr.heap.size, 0, none⟩) 1 1) rfl rfl ?_; obtain ⟨R9, W', hrun, hmade⟩ := HAP.out; refine ⟨R9, W', hrun, ?_⟩; have HM := Lib.hid hmade; clear hrun hmade HAP)
          go_roundw
          case rel => exact ⟨k + 1, R9, by omega, by go_num, rfl, by rw [HT2.out]; exact HM.out.1, HB.out.trans (HM.out.2.mono (by omega)), HQ.out.below HM.out.2 (by omega), Nat.le_trans HZ.out HM.out.2.size⟩
          case measure => simp [intOf]; omega
        · have h5q : (ck == 5) = false := by simp [h5]
          by_cases h4 : ck = 4
          · have HT2 : Hid (tTo ck fi R (k + 1) = T) := by show _ = _; rw [HT.out]; unfold tStep; rw [if_neg (by omega), if_pos ⟨hf, h4⟩, List.append_nil]
            have h4q : (ck != 4) = false := by simp [h4]
            clear HT h4 hf
            go_wp2_with fail
            go_roundw
            case rel => exact ⟨k + 1, u, by omega, by go_num, rfl, by rw [HT2.out]; exact HO, HB, HQ, HZ⟩
            case measure => simp [intOf]; omega
          · have HT2 : Hid (tTo ck fi R (k + 1) = T ++ [⟨yk, yn, ys⟩]) := by show _ = _; rw [HT.out]; unfold tStep; rw [if_neg (by omega), if_neg (by omega)]
            have h4q : (ck != 4) = true := by simp [h4]
            clear HT hf
            have HAP := Lib.hid (appR wr wr.heap.size rfl (w.heap.size + 2) u T ⟨yk, yn, ys⟩ HO.out HZ.out (by have := HLN.out; omega))
            go_wp2_with (at_builtin; refine wpList_app rfl _ _ 41 41 rfl u (.slice (some ⟨wr.heap.size, 0, none⟩) 1 1) rfl rfl ?_; obtain ⟨R9, W', hrun, hmade⟩ := HAP.out; refine ⟨R9, W', hrun, ?_⟩; have HM := Lib.hid hmade; clear hrun hmade HAP)
            go_roundw
            case rel => exact ⟨k + 1, R9, by omega, by go_num, rfl, by rw [HT2.out]; exact HM.out.1, HB.out.trans (HM.out.2.mono (by omega)), HQ.out.below HM.out.2 (by omega), Nat.le_trans HZ.out HM.out.2.size⟩
            case measure => simp [intOf]; omega
      · have HT2 : Hid (tTo ck fi R (k + 1) = T ++ [⟨yk, yn, ys⟩]) := by show _ = _; rw [HT.out]; unfold tStep; rw [if_neg (by omega), if_neg (by omega)]
        have hfq : ((k : Int) == fi) = false := by simp [hf]
        have hfq2 : ((k : Int) != fi) = true := by simp [hf]
        clear HT
        have HAP := Lib.hid (appR wr wr.heap.size rfl (w.heap.size + 2) u T ⟨yk, yn, ys⟩ HO.out HZ.out (by have := HLN.out; omega))
        go_wp2_with (at_builtin; refine wpList_app rfl _ _ 41 41 rfl u (.slice (some ⟨wr.heap.size, 0, none⟩) 1 1) rfl rfl ?_; obtain ⟨R9, W', hrun, hmade⟩ := HAP.out; refine ⟨R9, W', hrun, ?_⟩; have HM := Lib.hid hmade; clear hrun hmade HAP)
        go_roundw
        case rel => exact ⟨k + 1, R9, by omega, by go_num, rfl, by rw [HT2.out]; exact HM.out.1, HB.out.trans (HM.out.2.mono (by omega)), HQ.out.below HM.out.2 (by omega), Nat.le_trans HZ.out HM.out.2.size⟩
        case measure => simp [intOf]; omega
    · obtain rfl : k = nr := by omega
      have HLN : Hid ((tTo ck fi R k).length ≤ 900) := by have := tTo_len ck fi R k; show _ ≤ _; omega
      by_cases h3 : ck = 3
      · subst h3
        have HE : Hid (rturnF 3 fi R = tTo 3 fi R k ++ [vlNil]) := by show _ = _; unfold rturnF; rw [HNR.out]; rfl
        have HAP := Lib.hid (appR wr wr.heap.size rfl (w.heap.size + 2) u (tTo 3 fi R k) vlNil HO.out HZ.out (by have := HLN.out; omega))
        go_wp2_with (at_builtin; refine wpList_app rfl _ _ 41 41 rfl u (.slice (some ⟨wr.heap.size, 0, none⟩) 1 1) rfl rfl ?_; obtain ⟨R9, W', hrun, hmade⟩ := HAP.out; refine ⟨R9, W', hrun, ?_⟩; have HM := Lib.hid hmade; clear hrun hmade HAP)
        go_ret
        exact ⟨R9, rfl, by rw [HFI.out, HE.out]; exact ownV_dn HM.out.1 (by omega), HB.out.trans (HM.out.2.mono (by omega))⟩
      · have h3q : (ck == 3) = false := by simp [h3]
        have HE : Hid (rturnF ck fi R = tTo ck fi R k) := by show _ = _; unfold rturnF; rw [HNR.out, if_neg h3, List.append_nil]
        go_wp2_with fail
        go_ret
        exact ⟨u, rfl, by rw [HFI.out, HE.out]; exact ownV_dn HO.out (by omega), HB⟩
end Go.Proofs.Yticfhjimbochlaa
