/-
  Drop of works: the program's, and the document's.
-/
import Derived.Test.YtjmfcbfjeoooeaaDoorCovM
namespace Go.Proofs.YtjmfcbfjeoooeaaDoor
open Go.RowKit Dg
set_option maxRecDepth 100000
theorem sliceNilW (a : Option Addr) (l c : Nat) (w : World) : (binOp .eql 22 (.slice a l c) (.slice none 0 0)).run Tryd.prog w = .ok (.bool a.isNone) w := Lib.run_eql_slice_nil (h := Tryd.underlying22) ..
theorem dropW_sort {T : List Wk} {s : ByteArray} (hS : SortW T) : SortW (dropW T s) := by
  unfold dropW
  split
  · rw [sort_pw] at *
    rw [List.pairwise_append]
    refine ⟨hS.sublist (List.take_sublist _ _), hS.sublist (List.drop_sublist _ _), fun x hx y hy => ?_⟩
    have h1 : x ∈ T.take (lbW T s) := hx
    have h2 := mem_lo (s := s) h1
    have hp : plW T s = true := by assumption
    exact less_trans _ _ _ h2 (mem_hi1 (sort_pw.2 hS) hp hy)
  · exact hS
/-- The first k of works, without those of a table. -/
def remTo (T : List Wk) (s : ByteArray) (k : Nat) : List Wk := (T.take k).filter fun x => x.t.toList != s.toList
theorem remTo_succ (T : List Wk) (s : ByteArray) (k : Nat) (h : k < T.length) : remTo T s (k + 1) = remTo T s k ++ if T[k].t.toList != s.toList then [T[k]] else [] := by
  unfold remTo
  rw [List.take_succ_eq_append_getElem h, List.filter_append]
  congr 1
  cases hq : T[k].t.toList != s.toList <;> simp [hq]
theorem remTo_len (T : List Wk) (s : ByteArray) (k : Nat) : (remTo T s k).length ≤ k := by
  unfold remTo
  exact Nat.le_trans (List.length_filter_le _ _) (by rw [List.length_take]; omega)
theorem less_ne {x y : List UInt8} (h : Op.bytesLess x y = true) : x ≠ y := by
  rintro rfl
  rw [less_irrefl] at h; cases h
theorem remTo_all {T : List Wk} {s : ByteArray} (hS : SortW T) : remTo T s T.length = dropW T s := by
  unfold remTo dropW
  rw [List.take_length]
  split
  · rename_i hp
    have hl := plW_lt hp
    have e : T = T.take (lbW T s) ++ T[lbW T s] :: T.drop (lbW T s + 1) := by rw [← List.drop_eq_getElem_cons hl, List.take_append_drop]
    conv => lhs; rw [e]
    rw [List.filter_append, List.filter_cons]
    have h1 : (T[lbW T s].t.toList != s.toList) = false := by rw [plW_eq hp hl]; simp
    rw [h1]
    have h2 : (T.take (lbW T s)).filter (fun x => x.t.toList != s.toList) = T.take (lbW T s) := List.filter_eq_self.2 fun x hx => by
      have := less_ne (mem_lo hx)
      simpa using this
    have h3 : (T.drop (lbW T s + 1)).filter (fun x => x.t.toList != s.toList) = T.drop (lbW T s + 1) := List.filter_eq_self.2 fun x hx => by
      have := less_ne (mem_hi1 hS hp hx)
      simpa using fun h => this h.symm
    rw [h2, h3]
    simp
  · rename_i hp
    refine List.filter_eq_self.2 fun x hx => ?_
    obtain ⟨i, hi, rfl⟩ := List.getElem_of_mem hx
    have : T[i].t.toList ≠ s.toList := fun h => hp (pl_of hS hi (toList_inj h))
    simpa using this
set_option maxHeartbeats 4000000 in
theorem rdrop_any {B : Nat} {v : Value} {T : List Wk} (s : ByteArray) (w : World) (h : OwnW B w v T) (hl : T.length ≤ 800) (hS : SortW T) :
    Calls Tryd.prog 27 #[v, .string s] w fun e w' => ∃ u, e = .returned u ∧ Hid (OwnW w.heap.size w' u (dropW T s)) ∧ Hid (Below w.heap.size w w') := by
  obtain ⟨A, n, c, rfl, HN, hc, hm, HA, hz⟩ := ownW_open h
  have hl2 : n ≤ 800 := by have := HN.out; omega
  have HE : Hid (remTo T s n = dropW T s) := by show _ = _; rw [← HN.out]; exact remTo_all hS
  clear h hl hS hz
  go_enter Tryd.func27, Tryd.ntmps27
  go_wp2_with fail
  go_loopw [5, 6] (fun g i wr => ∃ (k : Nat) (u : Value), k ≤ n ∧ i = .int .i64 k ∧ u = g ∧ Hid (OwnW w.heap.size wr u (remTo T s k)) ∧ Hid (Below w.heap.size w wr)) (fun _ i _ => n - (intOf i).toNat)
  case atStart => exact ⟨0, _, by omega, rfl, rfl, ownW_nil _ _, Below.refl _ _⟩
  case round =>
    obtain ⟨k, u, hk, rfl, rfl, HO, HB⟩ := hrel
    by_cases hlt : k < n
    · have hkl : k < T.length := by rw [HN.out]; exact hlt
      obtain ⟨b, off, rfl, hc0⟩ := (HA.out.below HB.out) (by intro e; rw [e] at hkl; simp at hkl)
      obtain ⟨c0, c1, c2⟩ := hc0 k hkl
      have HS := Lib.hid (remTo_succ T s k hkl)
      have HLE := remTo_len T s k
      have hkz : (k : Int) < (n : Int) := by omega
      clear hc0
      generalize remTo T s k = M at *
      generalize T[k] = x at *
      obtain ⟨xt, xd, xk⟩ := x
      simp only at c0 c1 c2 HS
      obtain ⟨q, hq⟩ : ∃ q, (xt.toList != s.toList) = q := ⟨_, rfl⟩
      have hqe : (xt.toList == s.toList) = !q := by rw [← hq]; simp [bne]
      rw [hq] at HS
      cases q
      · rw [if_neg (by simp), List.append_nil] at HS
        simp only [Bool.not_false] at hqe
        go_wp2_with fail
        go_roundw
        case rel => exact ⟨k + 1, _, by omega, by go_num, rfl, by rw [HS.out]; exact HO.out, HB⟩
        case measure => simp [intOf]; omega
      · rw [if_pos rfl] at HS
        simp only [Bool.not_true] at hqe
        have HAP := Lib.hid (appW wr wr.heap.size rfl w.heap.size u M ⟨xt, xd, xk⟩ HO.out HB.out.size (by omega))
        go_wp2_with (at_builtin; refine wpList_app rfl _ _ 22 22 rfl u (.slice (some ⟨wr.heap.size, 0, none⟩) 1 1) rfl rfl ?_; obtain ⟨R, W', hrun, hmade⟩ := HAP.out; refine ⟨R, W', hrun, ?_⟩; have HM := Lib.hid hmade; clear hrun hmade HAP)
        go_roundw
        case rel => exact ⟨k + 1, R, by omega, by go_num, rfl, by rw [HS.out]; exact HM.out.1, HB.out.trans HM.out.2⟩
        case measure => simp [intOf]; omega
    · obtain rfl : k = n := by omega
      go_wp2_with fail
      go_ret
      exact ⟨_, rfl, by rw [← HE.out]; exact HO.out, HB⟩
set_option maxHeartbeats 4000000 in
theorem cloneW_any {B : Nat} {v : Value} {T : List Wk} (w : World) (h : OwnW B w v T) (hl : T.length ≤ 800) :
    Calls Tryd.prog 53 #[v] w fun e w' => ∃ u, e = .returned u ∧ Hid (OwnW w.heap.size w' u T) ∧ Hid (Below w.heap.size w w') := by
  obtain ⟨A, n, c, rfl, HN, hc, hm, HA, hz⟩ := ownW_open h
  rcases A with _ | a
  · have hT : T = [] := by
      rcases ownW_addr h with e | ⟨b, off, e⟩
      · rcases h.2 with ⟨_, hn⟩ | ⟨g, cap, cur, hv, _⟩
        · exact List.eq_nil_of_length_eq_zero hn
        · cases hv
      · cases e
    subst hT
    obtain rfl : n = 0 := by have := HN.out; simpa using this.symm
    obtain rfl : c = 0 := hz.out rfl
    have hnil := sliceNilW
    clear h hz HA HN
    go_enter Tryd.func53, Tryd.ntmps53
    go_wp2_with fail
    go_ret
    exact ⟨_, rfl, ownW_nil _ _, Below.refl _ _⟩
  · have HE : Hid (OwnW w.heap.size (w.alloc (.cells #[] 28)) (.slice (some ⟨w.heap.size, 0, none⟩) 0 0) []) :=
      ⟨by simp, .inr ⟨w.heap.size, 0, #[], rfl, Nat.le_refl _, Has.new w 28 _, Nat.le_refl _, by decide, by simp, by simp⟩⟩
    have HB := Lib.hid ((Below.refl w.heap.size w).alloc (Nat.le_refl _) (.cells #[] 28))
    have HAP := Lib.hid (appWs (w.alloc (.cells #[] 28)) w.heap.size (.slice (some ⟨w.heap.size, 0, none⟩) 0 0) [] HE.out (by simp) (some a) T n c HN.out (HA.out.below HB.out) (fun h => by cases h) (by have := HN.out; simp <;> omega))
    have hnil := sliceNilW
    clear h hz HE
    go_enter Tryd.func53, Tryd.ntmps53
    go_wp2_with (at_builtin; refine wpList_app rfl _ _ 22 22 rfl (.slice (some ⟨w.heap.size, 0, none⟩) 0 0) (.slice (some a) n c) rfl rfl ?_; obtain ⟨R, W', hrun, hmade⟩ := HAP.out; refine ⟨R, W', hrun, ?_⟩; have HM := Lib.hid hmade; clear hrun hmade HAP)
    go_ret
    exact ⟨R, rfl, by have h := HM.out.1; rw [List.nil_append] at h; exact h, HB.out.trans HM.out.2⟩
set_option maxHeartbeats 4000000 in
theorem pdrop_any {B : Nat} {v : Value} {T : List Wk} (s : ByteArray) (w : World) (h : OwnW B w v T) (hl : T.length ≤ 800) (hS : SortW T) :
    Calls Tryd.prog 26 #[v, .string s] w fun e w' => ∃ u, e = .returned u ∧ Hid (OwnW w.heap.size w' u (dropW T s)) ∧ Hid (Below w.heap.size w w') := by
  obtain ⟨A, n, c, rfl, hn, hc, hm, hr, hz⟩ := ownW_open h
  have HO := Lib.hid h
  have HP := Lib.hid (wplace_any A T n c s w hn.out (by have := hn.out; omega) hr.out hS)
  have hlb := lw_le T s
  rw [hn.out] at hlb
  have HD : Hid (dropW T s = if plW T s = true then T.take (lbW T s) ++ T.drop (lbW T s + 1) else T) := rfl
  have hpl := @plW_lt T s
  rw [hn.out] at hpl
  have HCL := Lib.hid (fun W (hb : Below w.heap.size w W) => cloneW_any W (h.below hb) hl)
  have HPUT := Lib.hid (fun (i : Nat) (hi : i < n) W (hb : Below w.heap.size w W) => wput_any A T n c i (i + 1) none [] 0 0 W hn.out hc hm (by omega) (by omega) (by have := hn.out; omega) (hr.out.below hb) hz.out (ownW_addr h) rfl (by omega) (WRow.nil _ _) (fun _ => rfl))
  have hn8 : n ≤ 800 := by have := hn.out; omega
  clear hn hr hz h hS
  generalize lbW T s = lb at *
  cases hp : plW T s
  · rw [hp] at HP HD
    clear hp hpl
    go_enter Tryd.func26, Tryd.ntmps26
    go_wp2_with fail
    refine HP.out.mono ?_
    rintro e w1 ⟨rfl, hb1⟩
    go_wp2_with fail
    refine (HCL.out _ hb1.out).mono ?_
    rintro e w2 ⟨u, rfl, ho, hb2⟩
    go_wp2_with fail
    go_ret
    exact ⟨_, rfl, by rw [HD.out]; exact ownW_down ho.out hb1.out.size, hb1.out.trans (hb2.out.mono hb1.out.size)⟩
  · rw [hp] at HP HD
    have hlt := hpl hp
    have hlw : IntKind.i64.wrap ((lb : Int) + 1) = ((lb + 1 : Nat) : Int) := by rw [IntKind.wrap_i64]; omega
    clear hp hpl
    go_enter Tryd.func26, Tryd.ntmps26
    go_wp2_with fail
    refine HP.out.mono ?_
    rintro e w1 ⟨rfl, hb1⟩
    go_wp2_with fail
    refine (HPUT.out lb hlt _ hb1.out).mono ?_
    rintro e w2 ⟨u, rfl, ho, hb2⟩
    go_wp2_with fail
    go_ret
    exact ⟨_, rfl, by rw [HD.out]; have h := ownW_down ho.out hb1.out.size; rw [List.append_nil] at h; exact h, hb1.out.trans (hb2.out.mono hb1.out.size)⟩
end Go.Proofs.YtjmfcbfjeoooeaaDoor
