/-
  Tables at an address; the place of a table, and its schema: the document's At and Find.
-/
import Derived.Test.YtiefogofiajmnaaDoorSsame
import Derived.Test.YtiefogofiajmnaaDoorSrmay
import Derived.Laws.ResultCell
namespace Go.Proofs.YtiefogofiajmnaaDoor
open Go.RowKit Dg
set_option maxRecDepth 100000
/-- A table: its name, where its columns lie, they, and its keys. -/
structure Tb where
  nm : ByteArray
  A : Option Addr
  n : Nat
  c : Nat
  L : List Cl
  K : Int
/-- The cells at A read as the tables T. -/
def TRow (w : World) (A : Option Addr) (T : List Tb) : Prop :=
  T ≠ [] → ∃ b off, A = some ⟨b, off, none⟩ ∧ ∀ i (h : i < T.length), w.cell? ⟨b, off + i * 3, none⟩ = some (.string T[i].nm) ∧ w.cell? ⟨b, off + i * 3 + 1, none⟩ = some (.slice T[i].A T[i].n T[i].c) ∧ w.cell? ⟨b, off + i * 3 + 2, none⟩ = some (.int .i64 T[i].K)
/-- The tables' columns lie where they should. -/
def TIn (w : World) (T : List Tb) : Prop := ∀ x ∈ T, x.L.length = x.n ∧ x.n ≤ x.c ∧ x.c ≤ maxLen ∧ CRow w x.A x.L
theorem TRow.below {w w' : World} {A : Option Addr} {T : List Tb} (h : TRow w A T) (hb : Below w.heap.size w w') : TRow w' A T := fun hne => by
  obtain ⟨b, off, e, hc⟩ := h hne
  have k := fun (a : Addr) (v : Value) (h : w.cell? a = some v) => (hb.cell (World.block_lt_of_cell? _ _ h)).trans h
  exact ⟨b, off, e, fun i hi => ⟨k _ _ (hc i hi).1, k _ _ (hc i hi).2.1, k _ _ (hc i hi).2.2⟩⟩
theorem TIn.below {w w' : World} {T : List Tb} (h : TIn w T) (hb : Below w.heap.size w w') : TIn w' T := fun x hx =>
  ⟨(h x hx).1, (h x hx).2.1, (h x hx).2.2.1, (h x hx).2.2.2.below hb⟩
/-- The place of the first table of that name; -1, if there is none. -/
def tatN (T : List Tb) (s : ByteArray) : Nat := T.findIdx fun x => x.nm.toList == s.toList
def tatI (T : List Tb) (s : ByteArray) : Int := if tatN T s < T.length then (tatN T s : Int) else -1
theorem tatN_at {T : List Tb} {s : ByteArray} {k : Nat} (h : k < T.length) (he : (T[k].nm.toList == s.toList) = true) (hb : ∀ j (hj : j < k), (T[j].nm.toList == s.toList) = false) : tatN T s = k := by
  unfold tatN
  rw [List.findIdx_eq h]
  exact ⟨he, fun j hj => hb j hj⟩
theorem tatI_at {T : List Tb} {s : ByteArray} {k : Nat} (h : k < T.length) (he : (T[k].nm.toList == s.toList) = true) (hb : ∀ j (hj : j < k), (T[j].nm.toList == s.toList) = false) : tatI T s = k := by
  unfold tatI; rw [tatN_at h he hb, if_pos h]
theorem tatI_none {T : List Tb} {s : ByteArray} (hb : ∀ j (hj : j < T.length), (T[j].nm.toList == s.toList) = false) : tatI T s = -1 := by
  unfold tatI
  rw [if_neg]
  unfold tatN
  have : T.findIdx (fun x => x.nm.toList == s.toList) = T.length := List.findIdx_eq_length.2 fun x hx => by
    obtain ⟨j, hj, rfl⟩ := List.getElem_of_mem hx
    exact hb j hj
  omega
set_option maxHeartbeats 2000000 in
theorem at_any (A : Option Addr) (T : List Tb) (n c : Nat) (s : ByteArray) (w : World) (hn : T.length = n) (hl : n ≤ 1000) (hA : TRow w A T) :
    Calls Tryd.prog 27 #[.slice A n c, .string s] w fun e w' => e = .returned (.int .i64 (tatI T s)) ∧ w' = w := by
  have HN := Lib.hid hn
  have HA := Lib.hid hA
  clear hn hA
  go_enter Tryd.func27, Tryd.ntmps27
  go_wp2_with fail
  go_loopw [5] (fun i wr => ∃ k : Nat, k ≤ n ∧ i = .int .i64 k ∧ Hid (∀ j (hj : j < k) (hj2 : j < T.length), (T[j].nm.toList == s.toList) = false) ∧ wr = w) (fun i _ => n - (intOf i).toNat)
  case atStart => exact ⟨0, by omega, rfl, (fun j hj => absurd hj (by omega)), rfl⟩
  case round =>
    obtain ⟨k, hk, rfl, HF, rfl⟩ := hrel
    by_cases hlt : k < n
    · have hkl : k < T.length := by rw [HN.out]; exact hlt
      obtain ⟨b, off, rfl, hc⟩ := HA.out (by intro e; rw [e] at hkl; simp at hkl)
      obtain ⟨c0, c1, c2⟩ := hc k hkl
      have HAT := Lib.hid (fun he => tatI_at (s := s) hkl he (fun j hj => HF.out j hj (by omega)))
      have HNX : Hid ((T[k].nm.toList == s.toList) = false → ∀ j (hj : j < k + 1) (hj2 : j < T.length), (T[j].nm.toList == s.toList) = false) := fun he j hj hj2 => by
        by_cases e : j = k
        · subst e; exact he
        · exact HF.out j (by omega) hj2
      clear hc c1 c2
      generalize T[k].nm = xa at *
      have hkz : (k : Int) < (n : Int) := by omega
      cases q : (xa.toList == s.toList)
      · go_wp2_with fail
        go_roundw
        case rel => exact ⟨k + 1, by omega, by go_num, HNX.out q, by trivial⟩
        case measure => simp [intOf]; omega
      · go_wp2_with fail
        go_ret
        exact ⟨by rw [HAT.out q]; rfl, by trivial⟩
    · obtain rfl : k = n := by omega
      have HF2 := Lib.hid (tatI_none (T := T) (s := s) (fun j hj => HF.out j (by rw [← HN.out]; exact hj) hj))
      go_wp2_with fail
      go_ret
      exact ⟨by rw [HF2.out]; rfl, by trivial⟩
/-- What is found under a name: columns' place, their keys, and whether it is there. -/
def tfV (T : List Tb) (s : ByteArray) : Value := match T[tatN T s]? with
  | some x => .tuple #[.agg #[.slice x.A x.n x.c, .int .i64 x.K], .bool true]
  | none => .tuple #[.agg #[.slice none 0 0, .int .i64 0], .bool false]
theorem schEnd6 {fn : Func} {p u : Tmp} (h : fn.results = #[.cell p 28, .tmp u]) (w' : World) (g : Nat) (c0 c1 : Value) (tmps : Array Value) (hp : tmps.getD p undef = .pointer (some ⟨g, 0, none⟩)) (hh : Has w' g 28 #[c0, c1]) :
    (results fn tmps).run Tryd.prog w' = .ok (.tuple #[.agg #[c0, c1], tmps.getD u undef]) w' := by
  rw [results_cell_tmp h, hp]
  simp only [asAddr, Sem.run_pure, Result.andThen_ok]
  rw [run_loadVar_row w' g 28 28 #[c0, c1] (0, 0) _ hh Tryd.underlying28 rfl (by kernel_rfl)]
  rfl
set_option maxHeartbeats 2000000 in
theorem find6_any (A : Option Addr) (T : List Tb) (n c : Nat) (s : ByteArray) (w : World) (hn : T.length = n) (hl : n ≤ 1000) (hA : TRow w A T) :
    Calls Tryd.prog 11 #[.slice A n c, .string s] w fun e w' => e = .returned (tfV T s) ∧ Hid (Below w.heap.size w w') := by
  have HB := Lib.hid ((Below.refl w.heap.size w).alloc (Nat.le_refl _) (.cells #[.slice none 0 0, .int .i64 0] 28))
  have HC := Lib.hid (at_any A T n c s _ hn hl (hA.below HB.out))
  have HN := Lib.hid hn
  have HA := Lib.hid (hA.below HB.out)
  have HG := Lib.hid (Has.new w 28 #[.slice none 0 0, .int .i64 0])
  have g0 := HG.out.cell 0
  have g1 := HG.out.cell 1
  have f0 := HG.out.free 0
  have f1 := HG.out.free 1
  simp at g0 g1
  clear hn hA
  go_enter Tryd.func11, Tryd.ntmps11
  go_wp2_with fail
  refine HC.out.mono ?_
  rintro e w1 ⟨rfl, rfl⟩
  by_cases hk : tatN T s < T.length
  · obtain ⟨k, hkk⟩ : ∃ k, tatN T s = k := ⟨_, rfl⟩
    have hTI : tatI T s = (k : Int) := by unfold tatI; rw [if_pos hk, hkk]
    rw [hTI]
    rw [hkk] at hk
    have HV : Hid (tfV T s = .tuple #[.agg #[.slice T[k].A T[k].n T[k].c, .int .i64 T[k].K], .bool true]) := by
      show _ = _
      unfold tfV
      rw [hkk, List.getElem?_eq_getElem hk]
    obtain ⟨b, off, rfl, hc⟩ := HA.out (by intro e; rw [e] at hk; simp at hk)
    obtain ⟨c0, c1, c2⟩ := hc k hk
    have hkz : (k : Int) < (n : Int) := by rw [← HN.out]; omega
    clear hTI hkk hc HC c0 HN
    generalize T[k] = x at *
    obtain ⟨xs, xA, xn, xc, xL, xK⟩ := x
    simp only at c1 c2 HV
    clear HG g0 g1 f0 f1
    go_wp2_with fail
    exact bodyPost_ret (schEnd6 rfl _ w.heap.size _ _ _ rfl (Has.new w 28 #[.slice xA xn xc, .int .i64 xK])) rfl ⟨by rw [HV.out]; rfl, (Below.refl w.heap.size w).alloc (Nat.le_refl _) _⟩
  · have hTI : tatI T s = -1 := by unfold tatI; rw [if_neg hk]
    rw [hTI]
    have HV : Hid (tfV T s = .tuple #[.agg #[.slice none 0 0, .int .i64 0], .bool false]) := by
      show _ = _
      unfold tfV
      rw [List.getElem?_eq_none (by omega)]
    clear hTI hk HC
    go_wp2_with fail
    exact bodyPost_ret (schEnd6 rfl _ w.heap.size _ _ _ rfl HG.out) rfl ⟨by rw [HV.out]; rfl, HB⟩
end Go.Proofs.YtiefogofiajmnaaDoor
