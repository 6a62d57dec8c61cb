/-
  What a change does to a schema's columns: the program's does, which asks a map of functions.
-/
import Derived.Test.YtiefogofiajmnaaDoorDone
import Derived.MapKept
namespace Go.Proofs.YtiefogofiajmnaaDoor
open Go.RowKit Dg
set_option maxRecDepth 100000
theorem upd_at (W : World) (es : Array MapEntry) (clock : Nat) (k : Int) (v : Value) (hn : Instr.findNow (.int .i64) (.int .i64 k) es.toList 0 = some none) :
    (Instr.mapUpdate 114 (.map (some W.heap.size)) (.int .i64 k) v).run Tryd.prog (W.alloc (.map es clock)) = .ok () (W.alloc (.map (es.push ⟨.int .i64 k, v, clock⟩) (clock + 1))) := by
  have hb : (W.alloc (.map es clock)).heap[W.heap.size]? = some (.map es clock) := heap_alloc_new W _
  have hk : MapKept.IsKey (.int .i64) (.int .i64 k) := rfl
  have hc : (Instr.checkKey false 10000 3 (.int .i64 k)).run Tryd.prog (W.alloc (.map es clock)) = .ok () (W.alloc (.map es clock)) := MapKept.run_checkKey Tryd.underlying3 hk false 9999
  simp [Instr.mapUpdate, run_underlying Tryd.underlying114, MapKept.run_getObj_map hb, hc, MapKept.run_findKey Tryd.underlying3 hn, MapKept.run_setObj_map _ hb, Result.andThen]
  simp only [World.alloc]
  congr 1
  apply Array.ext'
  simp [Array.setIfInBounds, Array.toList_push]
theorem look_at (W : World) (es : Array MapEntry) (clock : Nat) (k : Int) (i : Nat) (v : Value) (hn : Instr.findNow (.int .i64) (.int .i64 k) es.toList 0 = some (some (i, v))) :
    (Instr.lookup 114 (.map (some W.heap.size)) (.int .i64 k) true).run Tryd.prog (W.alloc (.map es clock)) = .ok (.tuple #[v, .bool true]) (W.alloc (.map es clock)) := by
  have hb : (W.alloc (.map es clock)).heap[W.heap.size]? = some (.map es clock) := heap_alloc_new W _
  have hk : MapKept.IsKey (.int .i64) (.int .i64 k) := rfl
  have hc : (Instr.checkKey es.isEmpty 10000 3 (.int .i64 k)).run Tryd.prog (W.alloc (.map es clock)) = .ok () (W.alloc (.map es clock)) := MapKept.run_checkKey Tryd.underlying3 hk _ 9999
  simp [Instr.lookup, run_underlying Tryd.underlying114, MapKept.run_getObj_map hb, hc, MapKept.run_findKey Tryd.underlying3 hn, Result.andThen]
theorem look_no (W : World) (es : Array MapEntry) (clock : Nat) (k : Int) (hn : Instr.findNow (.int .i64) (.int .i64 k) es.toList 0 = some none) :
    (Instr.lookup 114 (.map (some W.heap.size)) (.int .i64 k) true).run Tryd.prog (W.alloc (.map es clock)) = .ok (.tuple #[.nilFunc, .bool false]) (W.alloc (.map es clock)) := by
  have hb : (W.alloc (.map es clock)).heap[W.heap.size]? = some (.map es clock) := heap_alloc_new W _
  have hk : MapKept.IsKey (.int .i64) (.int .i64 k) := rfl
  have hc : (Instr.checkKey es.isEmpty 10000 3 (.int .i64 k)).run Tryd.prog (W.alloc (.map es clock)) = .ok () (W.alloc (.map es clock)) := MapKept.run_checkKey Tryd.underlying3 hk _ 9999
  have hz : (zeroValue 110).run Tryd.prog (W.alloc (.map es clock)) = .ok .nilFunc (W.alloc (.map es clock)) := by kernel_rfl
  simp [Instr.lookup, run_underlying Tryd.underlying114, MapKept.run_getObj_map hb, hc, MapKept.run_findKey Tryd.underlying3 hn, Result.andThen, hz]
def kinds : Array MapEntry := #[⟨.int .i64 3, .func (.func 80) #[] #[], 0⟩, ⟨.int .i64 4, .func (.func 81) #[] #[], 1⟩, ⟨.int .i64 5, .func (.func 82) #[] #[], 2⟩]
def doesF (L : List Cl) (K : Int) (ck : Int) (cn : ByteArray) (kd : Int) (no : Bool) : Dn :=
  if ck = 3 then addF L cn kd no else if ck = 4 then cutF L K cn else if ck = 5 then retF L K cn kd else .bad 5
set_option maxHeartbeats 4000000 in
set_option maxRecDepth 100000 in
theorem does_any (A : Option Addr) (L : List Cl) (n c : Nat) (K : Int) (ck : Int) (tn : ByteArray) (A' : Option Addr) (n' c' : Nat) (K' : Int) (cn : ByteArray) (kd : Int) (no : Bool) (w : World) (hn : L.length = n) (hl : n ≤ 900) (hcn : cn.size ≤ 140737488355328) (hA : CRow w A L) :
    Calls Tryd.prog 58 #[.agg #[.slice A n c, .int .i64 K], .agg #[.int .i64 ck, .string tn, .slice A' n' c', .int .i64 K', .string cn, .int .i64 kd, .bool no]] w fun e w' => e = .returned (doesF L K ck cn kd no).val ∧ Hid (Below w.heap.size w w') := by
  obtain ⟨W3, hW3⟩ : ∃ W3, W3 = ((w.alloc (.cells #[.slice A n c, .int .i64 K] 28)).alloc (.cells #[.int .i64 ck, .string tn, .slice A' n' c', .int .i64 K', .string cn, .int .i64 kd, .bool no] 40)).alloc (.cells #[.int .i64 0, .int .i64 0, .int .i64 0] 88) := ⟨_, rfl⟩
  have hs3 : W3.heap.size = w.heap.size + 3 := by rw [hW3]; simp
  have u1 := upd_at W3 #[] 0 3 (.func (.func 80) #[] #[]) rfl
  have u2 := upd_at W3 #[⟨.int .i64 3, .func (.func 80) #[] #[], 0⟩] 1 4 (.func (.func 81) #[] #[]) rfl
  have u3 := upd_at W3 #[⟨.int .i64 3, .func (.func 80) #[] #[], 0⟩, ⟨.int .i64 4, .func (.func 81) #[] #[], 1⟩] 2 5 (.func (.func 82) #[] #[]) rfl
  simp only [List.push_toArray, List.cons_append, List.nil_append] at u1 u2 u3
  have hmk : ∀ W : World, (Instr.makeMap 114 none).run Tryd.prog W = .ok (.map (some W.heap.size)) (W.alloc (.map #[] 0)) := fun W => by simp [Instr.makeMap]
  have HB4 : Hid (Below w.heap.size w (W3.alloc (.map kinds 3))) := by
    show Below _ _ _
    rw [hW3]
    exact ((((Below.refl w.heap.size w).alloc (Nat.le_refl _) _).alloc (by simp) _).alloc (by simp; omega) _).alloc (by simp; omega) _
  have HG4 : Hid (Has (W3.alloc (.map kinds 3)) (w.heap.size + 2) 88 #[.int .i64 0, .int .i64 0, .int .i64 0]) := by
    show Has _ _ _ _
    rw [hW3]
    have h := Has.new ((w.alloc (.cells #[.slice A n c, .int .i64 K] 28)).alloc (.cells #[.int .i64 ck, .string tn, .slice A' n' c', .int .i64 K', .string cn, .int .i64 kd, .bool no] 40)) 88 #[.int .i64 0, .int .i64 0, .int .i64 0]
    rw [show ((w.alloc (.cells #[.slice A n c, .int .i64 K] 28)).alloc (.cells #[.int .i64 ck, .string tn, .slice A' n' c', .int .i64 K', .string cn, .int .i64 kd, .bool no] 40)).heap.size = w.heap.size + 2 by simp] at h
    exact h.alloc _
  have HD : Hid (doesF L K ck cn kd no = if ck = 3 then addF L cn kd no else if ck = 4 then cutF L K cn else if ck = 5 then retF L K cn kd else .bad 5) := rfl
  have HA4 := Lib.hid (hA.below HB4.out)
  have L3 := Lib.hid (look_at W3 kinds 3 3 0 (.func (.func 80) #[] #[]) rfl)
  have L4 := Lib.hid (look_at W3 kinds 3 4 1 (.func (.func 81) #[] #[]) rfl)
  have L5 := Lib.hid (look_at W3 kinds 3 5 2 (.func (.func 82) #[] #[]) rfl)
  have LN := Lib.hid (fun k hk => look_no W3 kinds 3 k hk)
  have HN := Lib.hid hn
  unfold kinds at *
  rw [hs3] at u1 u2 u3
  clear hn hA
  by_cases h3 : ck = 3
  · subst h3
    have hl3 := L3.out
    rw [hs3] at hl3
    have HC := Lib.hid (add_any A L n c K cn kd no _ HN.out hl hcn HA4.out)
    have HE : Hid (doesF L K 3 cn kd no = addF L cn kd no) := by show _ = _; rw [HD.out, if_pos rfl]
    generalize addF L cn kd no = dn at *
    obtain ⟨df, dt, dm, de⟩ := dn
    clear L3 L4 L5 LN HD HA4
    subst hW3
    go_enter Tryd.func58, Tryd.ntmps58
    go_wp2_with fail
    go_at_call 80
    refine HC.out.mono ?_
    rintro e w1 ⟨rfl, hb1⟩
    have HB1 := Lib.hid (HB4.out.trans (hb1.out.mono HB4.out.size))
    have HG1 := Lib.hid (HG4.out.below hb1.out HG4.out.lt)
    clear hb1 HG4 hl3 u1 u2 u3 hmk
    have g0 := HG1.out.cell 0
    have g1 := HG1.out.cell 1
    have g2 := HG1.out.cell 2
    have e0 := HG1.out.free 0
    have e1 := HG1.out.free 1
    have e2 := HG1.out.free 2
    have HP := Lib.hid (((HG1.out.put 0 (.int .i64 df)).put 1 (.int .i64 dt)).put 2 (.int .i64 dm))
    simp at g0 g1 g2
    unfold Dn.val
    go_wp2_with fail
    exact bodyPost_ret (doneEnd rfl _ (w.heap.size + 2) _ _ _ _ rfl HP.out) rfl ⟨by rw [HE.out]; rfl, ((HB1.out.setCell (by show w.heap.size ≤ w.heap.size + 1 + 1; omega) _).setCell (by show w.heap.size ≤ w.heap.size + 1 + 1; omega) _).setCell (by show w.heap.size ≤ w.heap.size + 1 + 1; omega) _⟩
  by_cases h4 : ck = 4
  · subst h4
    have hl3 := L4.out
    rw [hs3] at hl3
    have HC := Lib.hid (cut_any A L n c K cn kd no _ HN.out hl hcn HA4.out)
    have HE : Hid (doesF L K 4 cn kd no = cutF L K cn) := by show _ = _; rw [HD.out, if_neg (by omega), if_pos rfl]
    generalize cutF L K cn = dn at *
    obtain ⟨df, dt, dm, de⟩ := dn
    clear L3 L4 L5 LN HD HA4
    subst hW3
    go_enter Tryd.func58, Tryd.ntmps58
    go_wp2_with fail
    go_at_call 81
    refine HC.out.mono ?_
    rintro e w1 ⟨rfl, hb1⟩
    have HB1 := Lib.hid (HB4.out.trans (hb1.out.mono HB4.out.size))
    have HG1 := Lib.hid (HG4.out.below hb1.out HG4.out.lt)
    clear hb1 HG4 hl3 u1 u2 u3 hmk
    have g0 := HG1.out.cell 0
    have g1 := HG1.out.cell 1
    have g2 := HG1.out.cell 2
    have e0 := HG1.out.free 0
    have e1 := HG1.out.free 1
    have e2 := HG1.out.free 2
    have HP := Lib.hid (((HG1.out.put 0 (.int .i64 df)).put 1 (.int .i64 dt)).put 2 (.int .i64 dm))
    simp at g0 g1 g2
    unfold Dn.val
    go_wp2_with fail
    exact bodyPost_ret (doneEnd rfl _ (w.heap.size + 2) _ _ _ _ rfl HP.out) rfl ⟨by rw [HE.out]; rfl, ((HB1.out.setCell (by show w.heap.size ≤ w.heap.size + 1 + 1; omega) _).setCell (by show w.heap.size ≤ w.heap.size + 1 + 1; omega) _).setCell (by show w.heap.size ≤ w.heap.size + 1 + 1; omega) _⟩
  by_cases h5 : ck = 5
  · subst h5
    have hl3 := L5.out
    rw [hs3] at hl3
    have HC := Lib.hid (retype_any A L n c K cn kd no _ HN.out hl hcn HA4.out)
    have HE : Hid (doesF L K 5 cn kd no = retF L K cn kd) := by show _ = _; rw [HD.out, if_neg (by omega), if_neg (by omega), if_pos rfl]
    generalize retF L K cn kd = dn at *
    obtain ⟨df, dt, dm, de⟩ := dn
    clear L3 L4 L5 LN HD HA4
    subst hW3
    go_enter Tryd.func58, Tryd.ntmps58
    go_wp2_with fail
    go_at_call 82
    refine HC.out.mono ?_
    rintro e w1 ⟨rfl, hb1⟩
    have HB1 := Lib.hid (HB4.out.trans (hb1.out.mono HB4.out.size))
    have HG1 := Lib.hid (HG4.out.below hb1.out HG4.out.lt)
    clear hb1 HG4 hl3 u1 u2 u3 hmk
    have g0 := HG1.out.cell 0
    have g1 := HG1.out.cell 1
    have g2 := HG1.out.cell 2
    have e0 := HG1.out.free 0
    have e1 := HG1.out.free 1
    have e2 := HG1.out.free 2
    have HP := Lib.hid (((HG1.out.put 0 (.int .i64 df)).put 1 (.int .i64 dt)).put 2 (.int .i64 dm))
    simp at g0 g1 g2
    unfold Dn.val
    go_wp2_with fail
    exact bodyPost_ret (doneEnd rfl _ (w.heap.size + 2) _ _ _ _ rfl HP.out) rfl ⟨by rw [HE.out]; rfl, ((HB1.out.setCell (by show w.heap.size ≤ w.heap.size + 1 + 1; omega) _).setCell (by show w.heap.size ≤ w.heap.size + 1 + 1; omega) _).setCell (by show w.heap.size ≤ w.heap.size + 1 + 1; omega) _⟩
  · have q3 : (ck == 3) = false := by simp [h3]
    have q4 : (ck == 4) = false := by simp [h4]
    have q5 : (ck == 5) = false := by simp [h5]
    have hl3 := LN.out ck (by simp [Instr.findNow, Instr.sameNow, q3, q4, q5])
    rw [hs3] at hl3
    have HE : Hid (doesF L K ck cn kd no = .bad 5) := by show _ = _; rw [HD.out, if_neg h3, if_neg h4, if_neg h5]
    clear L3 L4 L5 LN HD HA4
    subst hW3
    have g0 := HG4.out.cell 0
    have g1 := HG4.out.cell 1
    have g2 := HG4.out.cell 2
    have e0 := HG4.out.free 0
    have e1 := HG4.out.free 1
    have e2 := HG4.out.free 2
    simp at g0 g1 g2
    go_enter Tryd.func58, Tryd.ntmps58
    go_wp2_with fail
    exact bodyPost_ret (doneEnd rfl _ (w.heap.size + 2) _ _ _ _ rfl HG4.out) rfl ⟨by rw [HE.out]; rfl, HB4.out⟩
end Go.Proofs.YtiefogofiajmnaaDoor
