/-
  The program's Add, Go and Covers.
-/
import Derived.Test.YtjmfcbfjeoooeaaDoorWKey
import Derived.Test.YtjmfcbfjeoooeaaDoorWPut
namespace Go.Proofs.YtjmfcbfjeoooeaaDoor
open Go.RowKit Dg
set_option maxRecDepth 100000
theorem atFirstEnd (w' : World) (g : Nat) (c0 c1 c2 : Value) (tmps : Array Value) (hp : tmps.getD 2 undef = .pointer (some ⟨g, 0, none⟩)) (hh : Has w' g 28 #[c0, c1, c2]) :
    (results Tryd.f52 tmps).run Tryd.prog w' = .ok (.agg #[c0, c1, c2]) w' :=
  results_cell_row rfl _ _ g 28 #[c0, c1, c2] (0, 0) _ hp hh Tryd.underlying28 rfl (by kernel_rfl)
set_option maxHeartbeats 1000000 in
theorem atFirst_any (s : ByteArray) (w : World) : Calls Tryd.prog 52 #[.string s] w fun e w' => e = .returned (.agg #[.string s, .bool false, .string ⟨#[]⟩]) ∧ Hid (Below w.heap.size w w') := by
  have HP := Lib.hid (Has.new w 28 #[.string s, .bool false, .string ⟨#[]⟩])
  have HB := Lib.hid ((Below.refl w.heap.size w).alloc (Nat.le_refl _) (.cells #[.string s, .bool false, .string ⟨#[]⟩] 28))
  go_enter Tryd.func52, Tryd.ntmps52
  go_wp2_with fail
  exact bodyPost_ret (atFirstEnd _ w.heap.size _ _ _ _ rfl HP.out) rfl ⟨rfl, HB⟩
theorem atEndEnd (w' : World) (g : Nat) (c0 c1 c2 : Value) (tmps : Array Value) (hp : tmps.getD 2 undef = .pointer (some ⟨g, 0, none⟩)) (hh : Has w' g 28 #[c0, c1, c2]) :
    (results Tryd.f54 tmps).run Tryd.prog w' = .ok (.agg #[c0, c1, c2]) w' :=
  results_cell_row rfl _ _ g 28 #[c0, c1, c2] (0, 0) _ hp hh Tryd.underlying28 rfl (by kernel_rfl)
set_option maxHeartbeats 1000000 in
theorem atEnd_any (s : ByteArray) (w : World) : Calls Tryd.prog 54 #[.string s] w fun e w' => e = .returned (.agg #[.string s, .bool true, .string ⟨#[]⟩]) ∧ Hid (Below w.heap.size w w') := by
  have HP := Lib.hid (Has.new w 28 #[.string s, .bool true, .string ⟨#[]⟩])
  have HB := Lib.hid ((Below.refl w.heap.size w).alloc (Nat.le_refl _) (.cells #[.string s, .bool true, .string ⟨#[]⟩] 28))
  go_enter Tryd.func54, Tryd.ntmps54
  go_wp2_with fail
  exact bodyPost_ret (atEndEnd _ w.heap.size _ _ _ _ rfl HP.out) rfl ⟨rfl, HB⟩
theorem upToEnd (w' : World) (g : Nat) (c0 c1 c2 : Value) (tmps : Array Value) (hp : tmps.getD 4 undef = .pointer (some ⟨g, 0, none⟩)) (hh : Has w' g 28 #[c0, c1, c2]) :
    (results Tryd.f56 tmps).run Tryd.prog w' = .ok (.agg #[c0, c1, c2]) w' :=
  results_cell_row rfl _ _ g 28 #[c0, c1, c2] (0, 0) _ hp hh Tryd.underlying28 rfl (by kernel_rfl)
set_option maxHeartbeats 1000000 in
theorem upTo_any (s k : ByteArray) (w : World) : Calls Tryd.prog 56 #[.string s, .string k] w fun e w' => e = .returned (.agg #[.string s, .bool false, .string k]) ∧ Hid (Below w.heap.size w w') := by
  have HP := Lib.hid (Has.new w 28 #[.string s, .bool false, .string k])
  have HB := Lib.hid ((Below.refl w.heap.size w).alloc (Nat.le_refl _) (.cells #[.string s, .bool false, .string k] 28))
  go_enter Tryd.func56, Tryd.ntmps56
  go_wp2_with fail
  exact bodyPost_ret (upToEnd _ w.heap.size _ _ _ _ rfl HP.out) rfl ⟨rfl, HB⟩
theorem slice_inj {A A' : Option Addr} {n n' c c' : Nat} (h : Value.slice A n c = .slice A' n' c') : A = A' ∧ n = n' ∧ c = c' := by
  injection h with h1 h2 h3
  exact ⟨h1, h2, h3⟩
/-- put, of a row of the call's own and one work (or none) that lies alone. -/
theorem wput_one {B0 : Nat} {w0 : World} {A : Option Addr} {n c : Nat} {T : List Wk} (h : OwnW B0 w0 (.slice A n c) T) (hl : T.length ≤ 800) (f t : Nat) (hft : f ≤ t) (htn : t ≤ n) (x : Wk) (w : World) (hb : Below w0.heap.size w0 w) :
    Calls Tryd.prog 51 #[.slice A n c, .int .i64 f, .int .i64 t, .slice (some ⟨w.heap.size, 0, none⟩) 1 1] (w.alloc (.cells #[.string x.t, .bool x.d, .string x.k] 28)) fun e w' => ∃ v, e = .returned v ∧ Hid (OwnW w.heap.size w' v (T.take f ++ [x] ++ T.drop t)) ∧ Hid (Below w.heap.size w w') := by
  obtain ⟨A2, c2, e, hc, hm, hr, hz⟩ := ownW_row h
  obtain ⟨rfl, rfl, rfl⟩ := slice_inj e
  have hb2 : Below w0.heap.size w0 (w.alloc (.cells #[.string x.t, .bool x.d, .string x.k] 28)) := hb.alloc hb.size _
  refine (wput_any A T T.length c f t (some ⟨w.heap.size, 0, none⟩) [x] 1 1 _ rfl hc hm hft htn (by omega) (hr.below hb2) hz (ownW_addr h) rfl (by omega) (WRow.one w x) (fun e => by cases e)).mono ?_
  rintro e w' ⟨v, rfl, ho, hb'⟩
  exact ⟨v, rfl, ownW_down ho.out (by simp), ((Below.refl w.heap.size w).alloc (Nat.le_refl _) _).trans (hb'.out.mono (by simp))⟩
set_option maxHeartbeats 4000000 in
theorem wadd_any {B : Nat} {v : Value} {T : List Wk} (s : ByteArray) (w : World) (h : OwnW B w v T) (hl : T.length ≤ 800) (hS : SortW T) (hs : s.size ≤ 140737488355328) :
    Calls Tryd.prog 23 #[v, .string s] w fun e w' => ∃ u, e = .returned (.tuple #[u, .int .i64 (addE T s)]) ∧ Hid (OwnW w.heap.size w' u (addL T s)) ∧ Hid (Below w.heap.size w w') := by
  obtain ⟨A, n, c, rfl, hn, hc, hm, hr, hz⟩ := ownW_open h
  have HO := Lib.hid h
  have HP := Lib.hid (wplace_any A T n c s w hn.out (by have := hn.out; omega) hr.out hS)
  have hlb := lw_le T s
  rw [hn.out] at hlb
  have HE1 : Hid (addE T s = if nameF s = false then 6 else if plW T s = true then 8 else 0) := rfl
  have HL1 : Hid (addL T s = if nameF s = false ∨ plW T s = true then [] else T.take (lbW T s) ++ [⟨s, false, ⟨#[]⟩⟩] ++ T.drop (lbW T s)) := rfl
  have HPUT := Lib.hid (fun W hb => wput_one HO.out hl (lbW T s) (lbW T s) (Nat.le_refl _) hlb ⟨s, false, ⟨#[]⟩⟩ W hb)
  have HNM := Lib.hid (fun W => name_any s W hs)
  clear hn hr hz h hS hs
  generalize addE T s = aE at *
  generalize addL T s = aL at *
  generalize plW T s = pw at *
  generalize nameF s = nf at *
  generalize lbW T s = lb at *
  go_enter Tryd.func23, Tryd.ntmps23
  go_wp2_with fail
  refine HP.out.mono ?_
  rintro e w1 ⟨rfl, hb1⟩
  go_wp2_with fail
  refine (HNM.out w1).mono ?_
  rintro e w2 ⟨rfl, hb2⟩
  have HB2 : Hid (Below w.heap.size w w2) := hb1.out.trans (hb2.out.mono hb1.out.size)
  clear hb1 hb2
  cases nf
  · go_wp2_with fail
    go_ret2
    exact ⟨_, by rw [HE1.out]; rfl, by rw [HL1.out]; exact ownW_nil _ _, HB2⟩
  · cases pw
    · go_wp2_with fail
      refine (atFirst_any s _).mono ?_
      rintro e w3 ⟨rfl, hb3⟩
      have HB3 : Hid (Below w.heap.size w w3) := HB2.out.trans (hb3.out.mono HB2.out.size)
      clear hb3
      go_wp2_with fail
      refine (HPUT.out _ HB3.out).mono ?_
      rintro e w4 ⟨u, rfl, ho, hb4⟩
      have HB4 : Hid (Below w.heap.size w w4) := HB3.out.trans (hb4.out.mono HB3.out.size)
      have HOO := Lib.hid (ownW_down ho.out HB3.out.size)
      clear ho hb4
      go_wp2_with fail
      go_ret2
      exact ⟨_, by rw [HE1.out]; rfl, by rw [HL1.out]; exact HOO.out, HB4⟩
    · go_wp2_with fail
      go_ret2
      exact ⟨_, by rw [HE1.out]; rfl, by rw [HL1.out]; exact ownW_nil _ _, HB2⟩
end Go.Proofs.YtjmfcbfjeoooeaaDoor
