/-
  What a change does to a schema's columns: the program's add, cut and retype.
-/
import Derived.Test.YtiefogofiajmnaaDoorFind
import Derived.Laws.ResultCell
namespace Go.Proofs.YtiefogofiajmnaaDoor
open Go.RowKit Dg
/-- What a change does: the places that go, how many are new, and the error. -/
structure Dn where
  f : Nat
  t : Nat
  m : Nat
  e : Int
def Dn.val (d : Dn) : Value := .tuple #[.agg #[.int .i64 d.f, .int .i64 d.t, .int .i64 d.m], .int .i64 d.e]
def Dn.bad (e : Int) : Dn := ⟨0, 0, 0, e⟩
def addF (L : List Cl) (cn : ByteArray) (kd : Int) (no : Bool) : Dn :=
  if (nameF cn && kindF kd && no) = false then .bad 1 else if 0 ≤ findI L cn then .bad 8 else if 16 ≤ L.length then .bad 10 else ⟨L.length, L.length, 1, 0⟩
def cutF (L : List Cl) (K : Int) (cn : ByteArray) : Dn :=
  if findI L cn < 0 then .bad 7 else if findI L cn < K then .bad 10 else ⟨(findI L cn).toNat, (findI L cn).toNat + 1, 0, 0⟩
def noneAt (L : List Cl) (i : Int) : Bool := match L[i.toNat]? with | some c => c.no | none => false
def retF (L : List Cl) (K : Int) (cn : ByteArray) (kd : Int) : Dn :=
  if findI L cn < 0 then .bad 7 else if findI L cn < K ∨ noneAt L (findI L cn) = false then .bad 10 else if kindF kd = false then .bad 1 else ⟨(findI L cn).toNat, (findI L cn).toNat + 1, 1, 0⟩
theorem findI_lt (L : List Cl) (s : ByteArray) : findI L s < L.length := by
  unfold findI; split <;> omega
theorem findI_ge (L : List Cl) (s : ByteArray) : -1 ≤ findI L s := by
  unfold findI; split <;> omega
theorem doneEnd {fn : Func} {p u : Tmp} (h : fn.results = #[.cell p 88, .tmp u]) (w' : World) (g : Nat) (c0 c1 c2 : Value) (tmps : Array Value) (hp : tmps.getD p undef = .pointer (some ⟨g, 0, none⟩)) (hh : Has w' g 88 #[c0, c1, c2]) :
    (results fn tmps).run Tryd.prog w' = .ok (.tuple #[.agg #[c0, c1, c2], tmps.getD u undef]) w' := by
  rw [results_cell_tmp h, hp]
  simp only [asAddr, Sem.run_pure, Result.andThen_ok]
  rw [run_loadVar_row w' g 88 88 #[c0, c1, c2] (0, 0) _ hh Tryd.underlying88 rfl (by kernel_rfl)]
  rfl
set_option maxHeartbeats 4000000 in
set_option maxRecDepth 100000 in
theorem cut_any (A : Option Addr) (L : List Cl) (n c : Nat) (K : Int) (cn : ByteArray) (kd : Int) (no : Bool) (w : World) (hn : L.length = n) (hl : n ≤ 900) (_hcn : cn.size ≤ 140737488355328) (hA : CRow w A L) :
    Calls Tryd.prog 81 #[.agg #[.slice A n c, .int .i64 K, .string cn, .int .i64 kd, .bool no]] w fun e w' => e = .returned (cutF L K cn).val ∧ Hid (Below w.heap.size w w') := by
  have hlt := findI_lt L cn
  have hge := findI_ge L cn
  rw [hn] at hlt
  have HN := Lib.hid hn
  have HA := Lib.hid hA
  have HB0 := Lib.hid (((Below.refl w.heap.size w).alloc (Nat.le_refl _) (.cells #[.slice A n c, .int .i64 K, .string cn, .int .i64 kd, .bool no] 113)).alloc (by simp) (.cells #[.int .i64 0, .int .i64 0, .int .i64 0] 88))
  have HQ0 := Lib.hid ((Has.new w 113 #[.slice A n c, .int .i64 K, .string cn, .int .i64 kd, .bool no]).alloc (.cells #[.int .i64 0, .int .i64 0, .int .i64 0] 88))
  have hg := Has.new (w.alloc (.cells #[.slice A n c, .int .i64 K, .string cn, .int .i64 kd, .bool no] 113)) 88 #[.int .i64 0, .int .i64 0, .int .i64 0]
  rw [show (w.alloc (.cells #[.slice A n c, .int .i64 K, .string cn, .int .i64 kd, .bool no] 113)).heap.size = w.heap.size + 1 by simp] at hg
  have HG0 := Lib.hid hg
  clear hn hA hg
  have HD : Hid (cutF L K cn = if findI L cn < 0 then .bad 7 else if findI L cn < K then .bad 10 else ⟨(findI L cn).toNat, (findI L cn).toNat + 1, 0, 0⟩) := rfl
  go_enter Tryd.func81, Tryd.ntmps81
  go_wp2_with fail
  refine (find_any A L n c K cn _ HN.out (by omega) (HA.out.below HB0.out)).mono ?_
  rintro e w1 ⟨rfl, hb⟩
  have HB1 := Lib.hid (HB0.out.trans (hb.out.mono HB0.out.size))
  have HQ1 := Lib.hid (HQ0.out.below hb.out HQ0.out.lt)
  have HG1 := Lib.hid (HG0.out.below hb.out HG0.out.lt)
  clear hb HQ0 HG0
  have a0 := HQ1.out.cell 0
  have a1 := HQ1.out.cell 1
  have a2 := HQ1.out.cell 2
  have a3 := HQ1.out.cell 3
  have a4 := HQ1.out.cell 4
  have g0 := HG1.out.cell 0
  have g1 := HG1.out.cell 1
  have g2 := HG1.out.cell 2
  have e0 := HG1.out.free 0
  have e1 := HG1.out.free 1
  have e2 := HG1.out.free 2
  simp at a0 a1 a2 a3 a4 g0 g1 g2
  generalize findI L cn = i at *
  by_cases h1 : i < 0
  · have HE : Hid (cutF L K cn = .bad 7) := by show _ = _; rw [HD.out, if_pos h1]
    have HP := Lib.hid (((HG1.out.put 0 (.int .i64 0)).put 1 (.int .i64 0)).put 2 (.int .i64 0))
    go_wp2_with fail
    exact bodyPost_ret (doneEnd rfl _ (w.heap.size + 1) _ _ _ _ rfl HP.out) rfl ⟨by rw [HE.out]; rfl, ((HB1.out.setCell (by simp) _).setCell (by simp) _).setCell (by simp) _⟩
  · by_cases h2 : i < K
    · have HE : Hid (cutF L K cn = .bad 10) := by show _ = _; rw [HD.out, if_neg h1, if_pos h2]
      have HP := Lib.hid (((HG1.out.put 0 (.int .i64 0)).put 1 (.int .i64 0)).put 2 (.int .i64 0))
      go_wp2_with fail
      exact bodyPost_ret (doneEnd rfl _ (w.heap.size + 1) _ _ _ _ rfl HP.out) rfl ⟨by rw [HE.out]; rfl, ((HB1.out.setCell (by simp) _).setCell (by simp) _).setCell (by simp) _⟩
    · have HE : Hid (cutF L K cn = ⟨i.toNat, i.toNat + 1, 0, 0⟩) := by show _ = _; rw [HD.out, if_neg h1, if_neg h2]
      obtain ⟨j, rfl⟩ : ∃ j : Nat, i = j := ⟨i.toNat, by omega⟩
      simp only [Int.toNat_natCast] at HE
      have HP := Lib.hid (((HG1.out.put 0 (.int .i64 j)).put 1 (.int .i64 (j + 1 : Nat))).put 2 (.int .i64 0))
      go_wp2_with fail
      exact bodyPost_ret (doneEnd rfl _ (w.heap.size + 1) _ _ _ _ rfl HP.out) rfl ⟨by rw [HE.out]; rfl, ((HB1.out.setCell (by simp) _).setCell (by simp) _).setCell (by simp) _⟩
set_option maxHeartbeats 4000000 in
set_option maxRecDepth 100000 in
theorem add_any (A : Option Addr) (L : List Cl) (n c : Nat) (K : Int) (cn : ByteArray) (kd : Int) (no : Bool) (w : World) (hn : L.length = n) (hl : n ≤ 900) (hcn : cn.size ≤ 140737488355328) (hA : CRow w A L) :
    Calls Tryd.prog 80 #[.agg #[.slice A n c, .int .i64 K, .string cn, .int .i64 kd, .bool no]] w fun e w' => e = .returned (addF L cn kd no).val ∧ Hid (Below w.heap.size w w') := by
  have hlt := findI_lt L cn
  have hge := findI_ge L cn
  rw [hn] at hlt
  have HN := Lib.hid hn
  have HA := Lib.hid hA
  have HB0 := Lib.hid (((Below.refl w.heap.size w).alloc (Nat.le_refl _) (.cells #[.slice A n c, .int .i64 K, .string cn, .int .i64 kd, .bool no] 113)).alloc (by simp) (.cells #[.int .i64 0, .int .i64 0, .int .i64 0] 88))
  have HQ0 := Lib.hid ((Has.new w 113 #[.slice A n c, .int .i64 K, .string cn, .int .i64 kd, .bool no]).alloc (.cells #[.int .i64 0, .int .i64 0, .int .i64 0] 88))
  have hg := Has.new (w.alloc (.cells #[.slice A n c, .int .i64 K, .string cn, .int .i64 kd, .bool no] 113)) 88 #[.int .i64 0, .int .i64 0, .int .i64 0]
  rw [show (w.alloc (.cells #[.slice A n c, .int .i64 K, .string cn, .int .i64 kd, .bool no] 113)).heap.size = w.heap.size + 1 by simp] at hg
  have HG0 := Lib.hid hg
  clear hn hA hg
  have HD : Hid (addF L cn kd no = if (nameF cn && kindF kd && no) = false then .bad 1 else if 0 ≤ findI L cn then .bad 8 else if 16 ≤ n then .bad 10 else ⟨n, n, 1, 0⟩) := by show _ = _; rw [← HN.out]; rfl
  have q0 := HQ0.out.cell 0
  simp at q0
  go_enter Tryd.func80, Tryd.ntmps80
  go_wp2_with fail
  clear q0
  refine (name_any cn _ hcn).mono ?_
  rintro e w1 ⟨rfl, hb⟩
  have HB1 := Lib.hid (HB0.out.trans (hb.out.mono HB0.out.size))
  have HQ1 := Lib.hid (HQ0.out.below hb.out HQ0.out.lt)
  have HG1 := Lib.hid (HG0.out.below hb.out HG0.out.lt)
  clear hb HQ0 HG0
  have a0 := HQ1.out.cell 0
  have a1 := HQ1.out.cell 1
  have a2 := HQ1.out.cell 2
  have a3 := HQ1.out.cell 3
  have a4 := HQ1.out.cell 4
  have g0 := HG1.out.cell 0
  have g1 := HG1.out.cell 1
  have g2 := HG1.out.cell 2
  have e0 := HG1.out.free 0
  have e1 := HG1.out.free 1
  have e2 := HG1.out.free 2
  simp at a0 a1 a2 a3 a4 g0 g1 g2
  generalize nameF cn = q1 at *
  cases q1
  · have HE : Hid (addF L cn kd no = .bad 1) := by show _ = _; rw [HD.out, if_pos (by rfl)]
    have HP := Lib.hid (((HG1.out.put 0 (.int .i64 0)).put 1 (.int .i64 0)).put 2 (.int .i64 0))
    go_wp2_with fail
    exact bodyPost_ret (doneEnd rfl _ (w.heap.size + 1) _ _ _ _ rfl HP.out) rfl ⟨by rw [HE.out]; rfl, ((HB1.out.setCell (by simp) _).setCell (by simp) _).setCell (by simp) _⟩
  · go_wp2_with fail
    refine (ofColumn_any kd w1).mono ?_
    rintro e w2 ⟨rfl, rfl⟩
    generalize kindF kd = q2 at *
    cases q2
    · have HE : Hid (addF L cn kd no = .bad 1) := by show _ = _; rw [HD.out, if_pos (by rfl)]
      have HP := Lib.hid (((HG1.out.put 0 (.int .i64 0)).put 1 (.int .i64 0)).put 2 (.int .i64 0))
      go_wp2_with fail
      exact bodyPost_ret (doneEnd rfl _ (w.heap.size + 1) _ _ _ _ rfl HP.out) rfl ⟨by rw [HE.out]; rfl, ((HB1.out.setCell (by simp) _).setCell (by simp) _).setCell (by simp) _⟩
    · cases no
      · have HE : Hid (addF L cn kd false = .bad 1) := by show _ = _; rw [HD.out, if_pos (by rfl)]
        have HP := Lib.hid (((HG1.out.put 0 (.int .i64 0)).put 1 (.int .i64 0)).put 2 (.int .i64 0))
        go_wp2_with fail
        exact bodyPost_ret (doneEnd rfl _ (w.heap.size + 1) _ _ _ _ rfl HP.out) rfl ⟨by rw [HE.out]; rfl, ((HB1.out.setCell (by simp) _).setCell (by simp) _).setCell (by simp) _⟩
      · go_wp2_with fail
        refine (find_any A L n c K cn _ HN.out (by omega) (HA.out.below HB1.out)).mono ?_
        rintro e w2 ⟨rfl, hb⟩
        have HB2 := Lib.hid (HB1.out.trans (hb.out.mono HB1.out.size))
        have HQ2 := Lib.hid (HQ1.out.below hb.out HQ1.out.lt)
        have HG2 := Lib.hid (HG1.out.below hb.out HG1.out.lt)
        clear hb HQ1 HG1 a0 a1 a2 a3 a4 g0 g1 g2 e0 e1 e2
        have a0 := HQ2.out.cell 0
        have a1 := HQ2.out.cell 1
        have a2 := HQ2.out.cell 2
        have a3 := HQ2.out.cell 3
        have a4 := HQ2.out.cell 4
        have g0 := HG2.out.cell 0
        have g1 := HG2.out.cell 1
        have g2 := HG2.out.cell 2
        have e0 := HG2.out.free 0
        have e1 := HG2.out.free 1
        have e2 := HG2.out.free 2
        simp at a0 a1 a2 a3 a4 g0 g1 g2
        generalize findI L cn = i at *
        by_cases h1 : 0 ≤ i
        · have HE : Hid (addF L cn kd true = .bad 8) := by show _ = _; rw [HD.out, if_neg (by simp), if_pos h1]
          have HP := Lib.hid (((HG2.out.put 0 (.int .i64 0)).put 1 (.int .i64 0)).put 2 (.int .i64 0))
          go_wp2_with fail
          exact bodyPost_ret (doneEnd rfl _ (w.heap.size + 1) _ _ _ _ rfl HP.out) rfl ⟨by rw [HE.out]; rfl, ((HB2.out.setCell (by simp) _).setCell (by simp) _).setCell (by simp) _⟩
        · have h1' : i < 0 := by omega
          by_cases h2 : 16 ≤ n
          · have HE : Hid (addF L cn kd true = .bad 10) := by show _ = _; rw [HD.out, if_neg (by simp), if_neg h1, if_pos h2]
            have HP := Lib.hid (((HG2.out.put 0 (.int .i64 0)).put 1 (.int .i64 0)).put 2 (.int .i64 0))
            go_wp2_with fail
            exact bodyPost_ret (doneEnd rfl _ (w.heap.size + 1) _ _ _ _ rfl HP.out) rfl ⟨by rw [HE.out]; rfl, ((HB2.out.setCell (by simp) _).setCell (by simp) _).setCell (by simp) _⟩
          · have HE : Hid (addF L cn kd true = ⟨n, n, 1, 0⟩) := by show _ = _; rw [HD.out, if_neg (by simp), if_neg h1, if_neg h2]
            have h2' : (n : Int) < 16 := by omega
            have HP := Lib.hid (((HG2.out.put 0 (.int .i64 n)).put 1 (.int .i64 n)).put 2 (.int .i64 1))
            go_wp2_with fail
            exact bodyPost_ret (doneEnd rfl _ (w.heap.size + 1) _ _ _ _ rfl HP.out) rfl ⟨by rw [HE.out]; rfl, ((HB2.out.setCell (by simp) _).setCell (by simp) _).setCell (by simp) _⟩
set_option maxHeartbeats 4000000 in
set_option maxRecDepth 100000 in
theorem retype_any (A : Option Addr) (L : List Cl) (n c : Nat) (K : Int) (cn : ByteArray) (kd : Int) (no : Bool) (w : World) (hn : L.length = n) (hl : n ≤ 900) (_hcn : cn.size ≤ 140737488355328) (hA : CRow w A L) :
    Calls Tryd.prog 82 #[.agg #[.slice A n c, .int .i64 K, .string cn, .int .i64 kd, .bool no]] w fun e w' => e = .returned (retF L K cn kd).val ∧ Hid (Below w.heap.size w w') := by
  have hlt := findI_lt L cn
  have hge := findI_ge L cn
  rw [hn] at hlt
  have HN := Lib.hid hn
  have HA := Lib.hid hA
  have HB0 := Lib.hid (((Below.refl w.heap.size w).alloc (Nat.le_refl _) (.cells #[.slice A n c, .int .i64 K, .string cn, .int .i64 kd, .bool no] 113)).alloc (by simp) (.cells #[.int .i64 0, .int .i64 0, .int .i64 0] 88))
  have HQ0 := Lib.hid ((Has.new w 113 #[.slice A n c, .int .i64 K, .string cn, .int .i64 kd, .bool no]).alloc (.cells #[.int .i64 0, .int .i64 0, .int .i64 0] 88))
  have hg := Has.new (w.alloc (.cells #[.slice A n c, .int .i64 K, .string cn, .int .i64 kd, .bool no] 113)) 88 #[.int .i64 0, .int .i64 0, .int .i64 0]
  rw [show (w.alloc (.cells #[.slice A n c, .int .i64 K, .string cn, .int .i64 kd, .bool no] 113)).heap.size = w.heap.size + 1 by simp] at hg
  have HG0 := Lib.hid hg
  clear hn hA hg
  have HD : Hid (retF L K cn kd = if findI L cn < 0 then .bad 7 else if findI L cn < K ∨ noneAt L (findI L cn) = false then .bad 10 else if kindF kd = false then .bad 1 else ⟨(findI L cn).toNat, (findI L cn).toNat + 1, 1, 0⟩) := rfl
  go_enter Tryd.func82, Tryd.ntmps82
  go_wp2_with fail
  refine (find_any A L n c K cn _ HN.out (by omega) (HA.out.below HB0.out)).mono ?_
  rintro e w1 ⟨rfl, hb⟩
  have HB1 := Lib.hid (HB0.out.trans (hb.out.mono HB0.out.size))
  have HQ1 := Lib.hid (HQ0.out.below hb.out HQ0.out.lt)
  have HG1 := Lib.hid (HG0.out.below hb.out HG0.out.lt)
  clear hb HQ0 HG0
  have a0 := HQ1.out.cell 0
  have a1 := HQ1.out.cell 1
  have a2 := HQ1.out.cell 2
  have a3 := HQ1.out.cell 3
  have a4 := HQ1.out.cell 4
  have g0 := HG1.out.cell 0
  have g1 := HG1.out.cell 1
  have g2 := HG1.out.cell 2
  have e0 := HG1.out.free 0
  have e1 := HG1.out.free 1
  have e2 := HG1.out.free 2
  simp at a0 a1 a2 a3 a4 g0 g1 g2
  generalize findI L cn = i at *
  by_cases h1 : i < 0
  · have HE : Hid (retF L K cn kd = .bad 7) := by show _ = _; rw [HD.out, if_pos h1]
    have HP := Lib.hid (((HG1.out.put 0 (.int .i64 0)).put 1 (.int .i64 0)).put 2 (.int .i64 0))
    go_wp2_with fail
    exact bodyPost_ret (doneEnd rfl _ (w.heap.size + 1) _ _ _ _ rfl HP.out) rfl ⟨by rw [HE.out]; rfl, ((HB1.out.setCell (by simp) _).setCell (by simp) _).setCell (by simp) _⟩
  · obtain ⟨j, rfl⟩ : ∃ j : Nat, i = j := ⟨i.toNat, by omega⟩
    simp only [Int.toNat_natCast] at HD
    by_cases h2 : (j : Int) < K
    · have HE : Hid (retF L K cn kd = .bad 10) := by show _ = _; rw [HD.out, if_neg h1, if_pos (.inl h2)]
      have HP := Lib.hid (((HG1.out.put 0 (.int .i64 0)).put 1 (.int .i64 0)).put 2 (.int .i64 0))
      go_wp2_with fail
      exact bodyPost_ret (doneEnd rfl _ (w.heap.size + 1) _ _ _ _ rfl HP.out) rfl ⟨by rw [HE.out]; rfl, ((HB1.out.setCell (by simp) _).setCell (by simp) _).setCell (by simp) _⟩
    · have hkl : j < L.length := by rw [HN.out]; omega
      obtain ⟨b, off, rfl, hc⟩ := (HA.out.below HB1.out) (by intro e; rw [e] at hkl; simp at hkl)
      obtain ⟨c0, c1, c2⟩ := hc j hkl
      have HNA : Hid (noneAt L (j : Int) = L[j].no) := by show _ = _; unfold noneAt; rw [Int.toNat_natCast, List.getElem?_eq_getElem hkl]
      clear hc c0 c1
      generalize L[j].no = xc at *
      have hjz : (j : Int) < (n : Int) := by omega
      have hj0 : (0 : Int) ≤ (j : Int) := by omega
      cases xc
      · have HE : Hid (retF L K cn kd = .bad 10) := by show _ = _; rw [HD.out, if_neg h1, if_pos (.inr HNA.out)]
        have HP := Lib.hid (((HG1.out.put 0 (.int .i64 0)).put 1 (.int .i64 0)).put 2 (.int .i64 0))
        go_wp2_with fail
        exact bodyPost_ret (doneEnd rfl _ (w.heap.size + 1) _ _ _ _ rfl HP.out) rfl ⟨by rw [HE.out]; rfl, ((HB1.out.setCell (by simp) _).setCell (by simp) _).setCell (by simp) _⟩
      · go_wp2_with fail
        refine (ofColumn_any kd w1).mono ?_
        rintro e w2 ⟨rfl, rfl⟩
        generalize kindF kd = q2 at *
        have HNN : Hid (¬ ((j : Int) < K ∨ noneAt L (j : Int) = false)) := by show ¬ _; rw [HNA.out]; simp; omega
        cases q2
        · have HE : Hid (retF L K cn kd = .bad 1) := by show _ = _; rw [HD.out, if_neg (by omega), if_neg HNN.out, if_pos rfl]
          have HP := Lib.hid (((HG1.out.put 0 (.int .i64 0)).put 1 (.int .i64 0)).put 2 (.int .i64 0))
          go_wp2_with fail
          exact bodyPost_ret (doneEnd rfl _ (w.heap.size + 1) _ _ _ _ rfl HP.out) rfl ⟨by rw [HE.out]; rfl, ((HB1.out.setCell (by simp) _).setCell (by simp) _).setCell (by simp) _⟩
        · have HE : Hid (retF L K cn kd = ⟨j, j + 1, 1, 0⟩) := by show _ = _; rw [HD.out, if_neg (by omega), if_neg HNN.out, if_neg (by simp)]
          have HP := Lib.hid (((HG1.out.put 0 (.int .i64 j)).put 1 (.int .i64 (j + 1 : Nat))).put 2 (.int .i64 1))
          go_wp2_with fail
          exact bodyPost_ret (doneEnd rfl _ (w.heap.size + 1) _ _ _ _ rfl HP.out) rfl ⟨by rw [HE.out]; rfl, ((HB1.out.setCell (by simp) _).setCell (by simp) _).setCell (by simp) _⟩
end Go.Proofs.YtiefogofiajmnaaDoor
