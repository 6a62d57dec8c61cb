/-
  Put together, as far as it is used: Ql, Qe, Args, Qq, Qr, Lives7, B7V, B7A, B7FrW, CardD, B7BuW.
-/
import Derived.Test.YtncfehjpkcjflaaGreatDoorPbb
import Derived.Lib.LazyBuf
import Derived.Deep.RegionHeld3
import Derived.IntWalk
import Derived.Test.YtncfehjpkcjflaaGreatDoorRows
import Derived.ProofKit
import Derived.OpenShut
import Derived.ChangeOld
import Derived.Below
import Derived.Deep.Slices
import Derived.Lib.SmallJoins
import Derived.SizedLaws
import Derived.Deep.CutRange
import Derived.Deep.Onto
import Derived.Deep.DeepCutAuto
import Derived.StillTailTactics
import Derived.Deep.AppendLies
import Derived.Deep.RegionWith
import Derived.Test.YtncfehjpkcjflaaGreatDoorTie
import Derived.LaidMore
import Derived.Lay
import Derived.SevenTiedAt
import Derived.PinnedBridge
import Derived.Stop.Joined
namespace Go.Proofs.YtncfehjpkcjflaaGreatDoor
open Go.RowKit Dg
structure CSt (w : World) (A : Option Addr) (n c : Nat) (K : Int) (wr : World) (v : Value) (M : List Cl) : Prop where
  own : OwnC (w.heap.size + 3) wr v M
  bel : Below w.heap.size w wr
  prm : Has wr w.heap.size 84 #[.slice A n c, .int .i64 K]
  res : Has wr (w.heap.size + 1) 84 #[.slice none 0 0, .int .i64 0]
  out : Has wr (w.heap.size + 2) 84 #[v, .int .i64 K]
  big : w.heap.size + 3 ≤ wr.heap.size
section
variable {w wr w' : World} {A : Option Addr} {n c : Nat} {K : Int} {v : Value} {M : List Cl}
theorem CSt.below (h : CSt w A n c K wr v M) (hb : Below wr.heap.size wr w') : CSt w A n c K w' v M :=
  ⟨h.own.below hb, h.bel.trans (hb.mono h.bel.size), h.prm.below hb h.prm.lt, h.res.below hb h.res.lt, h.out.below hb h.out.lt, Nat.le_trans h.big hb.size⟩
end
end Go.Proofs.YtncfehjpkcjflaaGreatDoor
namespace Go.Proofs.YtncfehjpkcjflaaGreatDoor
open Go.RowKit Dg
theorem OwnC.drew {B : Nat} {w : World} {v : Value} {L : List Cl} (h : OwnC B w v L) : OwnC B w.drew v L := h.below ((Below.refl _ w).drew)
theorem OwnC.row {B : Nat} {w : World} {v : Value} {L : List Cl} (h : OwnC B w v L) {A : Option Addr} {n c : Nat} (hv : v = .slice A n c) : CRow w A L := by
  obtain ⟨A2, c2, e, _, _, hr, _⟩ := ownC_row h
  rw [hv] at e
  injection e with e1 _ _
  rw [e1]; exact hr
end Go.Proofs.YtncfehjpkcjflaaGreatDoor
namespace Go.Proofs.YtncfehjpkcjflaaGreatDoor
open Go.RowKit Dg
set_option maxRecDepth 100000
/-- A table's columns lie where they should; they are few. -/
structure TOk (w : World) (x : Tb) : Prop where
  len : x.L.length = x.n
  cap : x.n ≤ x.c
  max : x.c ≤ maxLen
  row : CRow w x.A x.L
  nil : x.A = none → x.c = 0
  few : x.n ≤ 900
theorem TOk.below {w w' : World} {x : Tb} (h : TOk w x) (hb : Below w.heap.size w w') : TOk w' x := ⟨h.len, h.cap, h.max, h.row.below hb, h.nil, h.few⟩
def TOks (w : World) (T : List Tb) : Prop := ∀ x ∈ T, TOk w x
theorem TOks.below {w w' : World} {T : List Tb} (h : TOks w T) (hb : Below w.heap.size w w') : TOks w' T := fun x hx => (h x hx).below hb
/-- A table is another one's clone, in memory of its own. -/
structure Cln (B : Nat) (w : World) (x y : Tb) : Prop where
  td : y.td = x.td
  own : OwnC B w (.slice y.A y.n y.c) y.L
theorem Cln.ok {B : Nat} {w : World} {x y : Tb} (h : Cln B w x y) (hx : x.L.length ≤ 900) : TOk w y := by
  obtain ⟨A, c, e, h1, h2, h3, h4⟩ := ownC_row h.own
  injection e with e1 e2 e3
  have hL : y.L = x.L := congrArg Td.L h.td
  subst e1 e3
  exact ⟨e2.symm, by omega, h2, h3, h4, by rw [e2, hL]; exact hx⟩
def Clns (B : Nat) (w : World) (T T' : List Tb) : Prop := T'.length = T.length ∧ ∀ i (h : i < T.length) (h' : i < T'.length), Cln B w T[i] T'[i]
theorem Clns.td {B : Nat} {w : World} {T T' : List Tb} (h : Clns B w T T') : tds T' = tds T := by
  apply List.ext_getElem
  · rw [tds_len, tds_len]; exact h.1
  · intro i h1 h2
    rw [tds_len] at h1 h2
    rw [tds_get T' i h1, tds_get T i h2]
    exact (h.2 i h2 h1).td
theorem Clns.ok {B : Nat} {w : World} {T T' : List Tb} (h : Clns B w T T') (hx : ∀ x ∈ T, x.L.length ≤ 900) : TOks w T' := fun y hy => by
  obtain ⟨i, hi, rfl⟩ := List.getElem_of_mem hy
  have hi' : i < T.length := by rw [← h.1]; exact hi
  exact (h.2 i hi' hi).ok (hx _ (List.getElem_mem hi'))
theorem Cln.below {B : Nat} {w w' : World} {x y : Tb} (h : Cln B w x y) (hb : Below w.heap.size w w') : Cln B w' x y := ⟨h.td, h.own.below hb⟩
theorem Clns.below {B : Nat} {w w' : World} {T T' : List Tb} (h : Clns B w T T') (hb : Below w.heap.size w w') : Clns B w' T T' := ⟨h.1, fun i h1 h2 => (h.2 i h1 h2).below hb⟩
/-- How the memory stands while clones are made: the row, and what is in it. -/
structure PSt (w : World) (D : Nat) (A9 : Option Addr) (n9 c9 : Nat) (T0 : List Tb) (k : Nat) (wr : World) (T1 : List Tb) : Prop where
  own : OwnT w.heap.size wr (.slice A9 n9 c9) T1
  dom : ∀ g, A9 = some ⟨g, 0, none⟩ → g < D
  len : T1.length = T0.length
  lo : ∀ i (h : i < T0.length) (h' : i < T1.length), i < k → Cln D wr T0[i] T1[i]
  hi : ∀ i (h : i < T0.length) (h' : i < T1.length), k ≤ i → T1[i] = T0[i]
  bel : Below w.heap.size w wr
  big : D ≤ wr.heap.size
theorem PSt.cells {w : World} {D g n9 c9 : Nat} {T0 : List Tb} {k : Nat} {wr : World} {T1 : List Tb} (h : PSt w D (some ⟨g, 0, none⟩) n9 c9 T0 k wr T1) (hk : k < T0.length) :
    wr.cell? ⟨g, k * 3 + 1, none⟩ = some (.slice T0[k].A T0[k].n T0[k].c) ∧ wr.cell? ⟨g, k * 3 + 2, none⟩ = some (.int .i64 T0[k].K) ∧ k < n9 ∧ w.heap.size ≤ g := by
  have hk1 : k < T1.length := by rw [h.len]; exact hk
  obtain ⟨g2, c2, hv, hg, hc, hf, hcell, _⟩ := ownT_put h.own k hk1 1 (by omega) (.slice T1[k].A T1[k].n T1[k].c) T1[k] rfl
  obtain ⟨_, _, hv', _, _, _, hcell2, _⟩ := ownT_put h.own k hk1 2 (by omega) (.int .i64 T1[k].K) T1[k] rfl
  injection hv with e1 e2 _
  injection e1 with e1
  injection e1 with e1
  injection hv' with e1' _ _
  injection e1' with e1'
  injection e1' with e1'
  subst e1 e1'
  rw [h.hi k hk hk1 (Nat.le_refl _)] at hcell hcell2
  exact ⟨hcell, hcell2, by omega, hg⟩
theorem PSt.step {w : World} {D g n9 c9 : Nat} {T0 : List Tb} {k : Nat} {wr : World} {T1 : List Tb} (h : PSt w D (some ⟨g, 0, none⟩) n9 c9 T0 k wr T1) (hk : k < T0.length) {w2 : World} {A8 : Option Addr} {n8 c8 : Nat} (ho : OwnC wr.heap.size w2 (.slice A8 n8 c8) T0[k].L) (hb : Below wr.heap.size wr w2) :
    w2.frozen? ⟨g, k * 3 + 1, none⟩ = false ∧ (w2.setCell ⟨g, k * 3 + 1, none⟩ (.slice A8 n8 c8)).frozen? ⟨g, k * 3 + 2, none⟩ = false ∧
    PSt w D (some ⟨g, 0, none⟩) n9 c9 T0 (k + 1) ((w2.setCell ⟨g, k * 3 + 1, none⟩ (.slice A8 n8 c8)).setCell ⟨g, k * 3 + 2, none⟩ (.int .i64 T0[k].K)) (T1.set k ⟨T0[k].nm, A8, n8, c8, T0[k].L, T0[k].K⟩) := by
  have hg : g < D := h.dom g rfl
  have hk1 : k < T1.length := by rw [h.len]; exact hk
  have hT := h.hi k hk hk1 (Nat.le_refl _)
  obtain ⟨hgB, hf1, ho1⟩ := ownT_put2 (h.own.below hb) k hk1 1 (by omega) (.slice A8 n8 c8) ⟨T0[k].nm, A8, n8, c8, T0[k].L, T0[k].K⟩ (by rw [hT]; rfl)
  have hk2 : k < (T1.set k ⟨T0[k].nm, A8, n8, c8, T0[k].L, T0[k].K⟩).length := by rw [List.length_set]; exact hk1
  obtain ⟨_, hf2, ho2⟩ := ownT_put2 ho1 k hk2 2 (by omega) (.int .i64 T0[k].K) ⟨T0[k].nm, A8, n8, c8, T0[k].L, T0[k].K⟩ (by rw [List.getElem_set_self]; rfl)
  rw [List.set_set] at ho2
  refine ⟨hf1, hf2, ho2, h.dom, by rw [List.length_set]; exact h.len, fun i h1 h2 hik => ?_, fun i h1 h2 hik => ?_, ?_, ?_⟩
  · rw [List.length_set] at h2
    by_cases e : k = i
    · subst e
      rw [List.getElem_set_self]
      exact ⟨rfl, ((ownC_down ho h.big).far (p := ⟨g, k * 3 + 1, none⟩) hg _).far (p := ⟨g, k * 3 + 2, none⟩) hg _⟩
    · rw [List.getElem_set_ne e]
      have hc := h.lo i h1 h2 (by omega)
      exact ⟨hc.td, ((hc.own.below hb).far (p := ⟨g, k * 3 + 1, none⟩) hg _).far (p := ⟨g, k * 3 + 2, none⟩) hg _⟩
  · rw [List.length_set] at h2
    rw [List.getElem_set_ne (by omega)]
    exact h.hi i h1 h2 (by omega)
  · exact ((h.bel.trans (hb.mono h.bel.size)).setCell hgB _).setCell hgB _
  · have h1 := h.big
    have h2 := hb.size
    simp
    omega
theorem PSt.done {w wr : World} {D : Nat} {A9 : Option Addr} {n9 c9 : Nat} {T0 T1 : List Tb} (h : PSt w D A9 n9 c9 T0 T0.length wr T1) (hD : w.heap.size ≤ D) : Clns w.heap.size wr T0 T1 :=
  ⟨h.len, fun i h1 h2 => ⟨(h.lo i h1 h2 h1).td, ownC_down (h.lo i h1 h2 h1).own hD⟩⟩
end Go.Proofs.YtncfehjpkcjflaaGreatDoor
namespace Go.Proofs.YtncfehjpkcjflaaGreatDoor
open Go.RowKit Dg
/-- An event. -/
structure Ev where
  k : Int
  n : Int
  t : ByteArray
  B : List Vl
  A : List Vl
  ck : Int
  ct : ByteArray
  L : List Cl
  K : Int
  cl : Cl
def chF (x y : Ev) : Bool := x.ck == y.ck && x.ct.toList == y.ct.toList && x.cl.eqb y.cl && ssF x.L x.K y.L y.K
def evF (x y : Ev) : Bool := x.k == y.k && x.n == y.n && x.t.toList == y.t.toList && vsF x.B y.B && vsF x.A y.A && chF x y
theorem vsF_refl (L : List Vl) : vsF L L = true := (vsF_iff L L).2 rfl
theorem Cl.eqb_iff (x y : Cl) : x.eqb y = true ↔ x = y := by
  obtain ⟨a, b, c⟩ := x
  obtain ⟨a', b', c'⟩ := y
  simp only [Cl.eqb, Bool.and_eq_true, beq_iff_eq, Cl.mk.injEq]
  constructor
  · rintro ⟨⟨h, rfl⟩, rfl⟩; exact ⟨toList_inj h, rfl, rfl⟩
  · rintro ⟨rfl, rfl, rfl⟩; exact ⟨⟨rfl, rfl⟩, rfl⟩
theorem chF_refl (x : Ev) : chF x x = true := by simp [chF, Cl.eqb_refl, ssF_refl]
theorem evF_refl (x : Ev) : evF x x = true := by simp [evF, chF_refl, vsF_refl]
set_option maxHeartbeats 4000000 in
set_option maxRecDepth 100000 in
theorem equalV_any (A : Option Addr) (L : List Vl) (n c : Nat) (A' : Option Addr) (M : List Vl) (n' c' : Nat) (w : World) (hn : L.length = n) (hn' : M.length = n') (hl : (n : Int) ≤ 9223372036854775807) (hA : VRow w A L) (hA' : VRow w A' M) :
    Calls Tryz.prog 248 #[.slice A n c, .slice A' n' c'] w fun e w' => e = .returned (.bool (vsF L M)) ∧ Hid (Below w.heap.size w w') := by
  have HN := Lib.hid hn
  have HN' := Lib.hid hn'
  have HA := Lib.hid hA
  have HA' := Lib.hid hA'
  have eq := eqV
  clear hn hA hA' hn'
  by_cases hnn : n = n'
  · subst hnn
    have HC : Hid (vsF L M = vsTo L M n) := by show _ = _; unfold vsF; rw [HN.out, HN'.out]; simp
    go_enter Tryz.func248, Tryz.ntmps248
    go_wp2_with fail
    go_loopw [13] (fun i wr => ∃ k : Nat, k ≤ n ∧ i = .int .i64 k ∧ Hid (vsTo L M k = true) ∧ Hid (Below w.heap.size w wr)) (fun i _ => n - (intOf i).toNat)
    case atStart => exact ⟨0, by omega, rfl, rfl, Below.refl _ _⟩
    case round =>
      obtain ⟨k, hk, rfl, HT, HB⟩ := hrel
      by_cases hlt : k < n
      · have hkl : k < L.length := by rw [HN.out]; exact hlt
        have hkm : k < M.length := by rw [HN'.out]; exact hlt
        obtain ⟨b, off, rfl, hc⟩ := (HA.out.below HB.out) (by intro e; rw [e] at hkl; simp at hkl)
        obtain ⟨b', off', rfl, hc'⟩ := (HA'.out.below HB.out) (by intro e; rw [e] at hkm; simp at hkm)
        obtain ⟨c0, c1, c2⟩ := hc k hkl
        obtain ⟨d0, d1, d2⟩ := hc' k hkm
        have HS := Lib.hid (vsTo_succ L M k hkl hkm)
        have HF := Lib.hid (vsTo_false L M k n hlt hkl hkm)
        clear hc hc'
        generalize L[k] = x at *
        generalize M[k] = y at *
        obtain ⟨xk, xn, xs⟩ := x
        obtain ⟨yk, yn, ys⟩ := y
        simp only at c0 c1 c2 d0 d1 d2
        have hkz : (k : Int) < (n : Int) := by omega
        have hk0 : (0 : Int) ≤ (k : Int) := by omega
        have HE : Hid (Vl.eqb ⟨xk, xn, xs⟩ ⟨yk, yn, ys⟩ = (xk == yk && xn == yn && xs.toList == ys.toList)) := rfl
        generalize hq : (xk == yk && xn == yn && xs.toList == ys.toList) = q at *
        have eq2 : ∀ W, (Op.equalIn 10000 88 (.agg #[.int .i64 xk, .int .i64 xn, .string xs]) (.agg #[.int .i64 yk, .int .i64 yn, .string ys])).run Tryz.prog W = .ok q W := fun W => by rw [eq, hq]
        clear eq hq
        cases q
        · go_wp2_with fail
          go_region
          all_goals
            go_wp2_with fail
            go_ret
            exact ⟨by rw [HC.out, HF.out HE.out]; rfl, HB.out.drew⟩
        · go_wp2_with fail
          go_region
          all_goals
            go_wp2_with fail
            go_roundw
            case rel => exact ⟨k + 1, by omega, by go_num, by show _ = _; rw [HS.out, HT.out, HE.out]; rfl, HB.out.drew⟩
            case measure => simp [intOf]; omega
      · obtain rfl : k = n := by omega
        go_wp2_with fail
        go_ret
        exact ⟨by rw [HC.out, HT.out]; rfl, HB⟩
  · have HC : Hid (vsF L M = false) := by show _ = _; unfold vsF; rw [HN.out, HN'.out]; simp [hnn]
    have hq : ((n : Int) != (n' : Int)) = true := by simp; omega
    go_enter Tryz.func248, Tryz.ntmps248
    go_wp2_with fail
    go_ret
    exact ⟨by rw [HC.out]; rfl, Below.refl _ _⟩
end Go.Proofs.YtncfehjpkcjflaaGreatDoor
namespace Go.Proofs.YtncfehjpkcjflaaGreatDoor
open Go.RowKit Dg
def chG (ck ck' : Int) (ct ct' : ByteArray) (q q' : Cl) (L L' : List Cl) (K K' : Int) : Bool := ck == ck' && ct.toList == ct'.toList && q.eqb q' && ssF L K L' K'
theorem chF_eq (x y : Ev) : chF x y = chG x.ck y.ck x.ct y.ct x.cl y.cl x.L y.L x.K y.K := rfl
/-- An event whose value and rows are known. -/
structure EvAt (w : World) (v : Value) (x : Ev) : Prop where
  known : ∃ Ab nb zb Aa na za A n c, v = .agg #[.int .i64 x.k, .int .i64 x.n, .string x.t, .slice Ab nb zb, .slice Aa na za, .int .i64 x.ck, .string x.ct, .slice A n c, .int .i64 x.K, .string x.cl.nm, .int .i64 x.cl.k, .bool x.cl.no] ∧ (x.B.length = nb ∧ (nb : Int) ≤ 9223372036854775807 ∧ VRow w Ab x.B) ∧ (x.A.length = na ∧ (na : Int) ≤ 9223372036854775807 ∧ VRow w Aa x.A) ∧ x.L.length = n ∧ n ≤ 4398046511104 ∧ CRow w A x.L
theorem EvAt.below {w w' : World} {v : Value} {x : Ev} (h : EvAt w v x) (hb : Below w.heap.size w w') : EvAt w' v x := by
  obtain ⟨Ab, nb, zb, Aa, na, za, A, n, c, e, ⟨h1, h2, h3⟩, ⟨h4, h5, h6⟩, h7, h8, h9⟩ := h.known
  exact ⟨Ab, nb, zb, Aa, na, za, A, n, c, e, ⟨h1, h2, h3.below hb⟩, ⟨h4, h5, h6.below hb⟩, h7, h8, h9.below hb⟩
set_option maxHeartbeats 2000000 in
set_option maxRecDepth 100000 in
theorem schange_any (ck : Int) (ct : ByteArray) (A : Option Addr) (L : List Cl) (n c : Nat) (K : Int) (cn : ByteArray) (cq : Int) (cb : Bool) (ck' : Int) (ct' : ByteArray) (A' : Option Addr) (L' : List Cl) (n' c' : Nat) (K' : Int) (cn' : ByteArray) (cq' : Int) (cb' : Bool) (w : World) (hn : L.length = n) (hn' : L'.length = n') (hl : n ≤ 4398046511104) (hl' : n' ≤ 4398046511104) (hA : CRow w A L) (hA' : CRow w A' L') :
    Calls Tryz.prog 249 #[.agg #[.int .i64 ck, .string ct, .slice A n c, .int .i64 K, .string cn, .int .i64 cq, .bool cb], .agg #[.int .i64 ck', .string ct', .slice A' n' c', .int .i64 K', .string cn', .int .i64 cq', .bool cb']] w fun e w' => e = .returned (.bool (chG ck ck' ct ct' ⟨cn, cq, cb⟩ ⟨cn', cq', cb'⟩ L L' K K')) ∧ Hid (Below w.heap.size w w') := by
  have HB := Lib.hid (((Below.refl w.heap.size w).alloc (Nat.le_refl _) (.cells #[.int .i64 ck, .string ct, .slice A n c, .int .i64 K, .string cn, .int .i64 cq, .bool cb] 96)).alloc (by simp) (.cells #[.int .i64 ck', .string ct', .slice A' n' c', .int .i64 K', .string cn', .int .i64 cq', .bool cb'] 96))
  have HC := Lib.hid (same4_any A L n c K A' L' n' c' K' ((w.alloc (.cells #[.int .i64 ck, .string ct, .slice A n c, .int .i64 K, .string cn, .int .i64 cq, .bool cb] 96)).alloc (.cells #[.int .i64 ck', .string ct', .slice A' n' c', .int .i64 K', .string cn', .int .i64 cq', .bool cb'] 96)) hn hn' hl hl' (hA.below HB.out) (hA'.below HB.out))
  have eq := eqC
  clear hn hn' hA hA'
  cases h0 : (ck == ck')
  · have HS : Hid (chG ck ck' ct ct' ⟨cn, cq, cb⟩ ⟨cn', cq', cb'⟩ L L' K K' = false) := by show _ = _; unfold chG; simp [h0]
    go_enter Tryz.func249, Tryz.ntmps249
    go_wp2_with fail
    go_ret
    exact ⟨by rw [HS.out]; rfl, HB⟩
  · skip
    cases h1 : (ct.toList == ct'.toList)
    · have HS : Hid (chG ck ck' ct ct' ⟨cn, cq, cb⟩ ⟨cn', cq', cb'⟩ L L' K K' = false) := by show _ = _; unfold chG; simp [h0, h1]
      go_enter Tryz.func249, Tryz.ntmps249
      go_wp2_with fail
      go_ret
      exact ⟨by rw [HS.out]; rfl, HB⟩
    · skip
      cases h2 : Cl.eqb ⟨cn, cq, cb⟩ ⟨cn', cq', cb'⟩
      · have HS : Hid (chG ck ck' ct ct' ⟨cn, cq, cb⟩ ⟨cn', cq', cb'⟩ L L' K K' = false) := by show _ = _; unfold chG; simp [h0, h1, h2]
        go_enter Tryz.func249, Tryz.ntmps249
        go_wp2_with fail
        go_ret
        exact ⟨by rw [HS.out]; rfl, HB⟩
      · skip
        have HS : Hid (chG ck ck' ct ct' ⟨cn, cq, cb⟩ ⟨cn', cq', cb'⟩ L L' K K' = ssF L K L' K') := by show _ = _; unfold chG; simp [h0, h1, h2]
        go_enter Tryz.func249, Tryz.ntmps249
        go_wp2_with fail
        refine HC.out.mono ?_
        rintro e w1 ⟨rfl, hb1⟩
        have HB1 := Lib.hid (HB.out.trans (hb1.out.mono HB.out.size))
        clear hb1 HC
        go_wp2_with fail
        go_ret
        exact ⟨by rw [HS.out]; rfl, HB1⟩
end Go.Proofs.YtncfehjpkcjflaaGreatDoor
namespace Go.Proofs.YtncfehjpkcjflaaGreatDoor
open Go.RowKit Dg
set_option maxHeartbeats 4000000 in
set_option maxRecDepth 100000 in
theorem esame_any (v v' : Value) (x y : Ev) (w : World) (hx : EvAt w v x) (hy : EvAt w v' y) :
    Calls Tryz.prog 216 #[v, v'] w fun e w' => e = .returned (.bool (evF x y)) ∧ Hid (Below w.heap.size w w') := by
  obtain ⟨Ab, nb, zb, Aa, na, za, A, n, c, rfl, ⟨h1, h2, h3⟩, ⟨h4, h5, h6⟩, h7, h8, h9⟩ := hx.known
  obtain ⟨Ab', nb', zb', Aa', na', za', A', n', c', rfl, ⟨h1', h2', h3'⟩, ⟨h4', h5', h6'⟩, h7', h8', h9'⟩ := hy.known
  clear hx hy
  obtain ⟨k, m, t, Bl, Al, ck, ct, L, K, ⟨cn, cq, cb⟩⟩ := x
  obtain ⟨k', m', t', Bl', Al', ck', ct', L', K', ⟨cn', cq', cb'⟩⟩ := y
  simp only at h1 h3 h4 h6 h7 h9 h1' h3' h4' h6' h7' h9'
  obtain ⟨qc, hqc⟩ : ∃ q, chG ck ck' ct ct' ⟨cn, cq, cb⟩ ⟨cn', cq', cb'⟩ L L' K K' = q := ⟨_, rfl⟩
  obtain ⟨qb, hqb⟩ : ∃ q, vsF Bl Bl' = q := ⟨_, rfl⟩
  obtain ⟨qa, hqa⟩ : ∃ q, vsF Al Al' = q := ⟨_, rfl⟩
  have HS : Hid (evF ⟨k, m, t, Bl, Al, ck, ct, L, K, ⟨cn, cq, cb⟩⟩ ⟨k', m', t', Bl', Al', ck', ct', L', K', ⟨cn', cq', cb'⟩⟩ = (k == k' && m == m' && t.toList == t'.toList && qb && qa && qc)) := by
    show _ = _; unfold evF; rw [chF_eq]; simp only [hqb, hqa, hqc]
  have HB := Lib.hid (((Below.refl w.heap.size w).alloc (Nat.le_refl _) (.cells #[.int .i64 k, .int .i64 m, .string t, .slice Ab nb zb, .slice Aa na za, .int .i64 ck, .string ct, .slice A n c, .int .i64 K, .string cn, .int .i64 cq, .bool cb] 98)).alloc (by simp) (.cells #[.int .i64 k', .int .i64 m', .string t', .slice Ab' nb' zb', .slice Aa' na' za', .int .i64 ck', .string ct', .slice A' n' c', .int .i64 K', .string cn', .int .i64 cq', .bool cb'] 98))
  have HX := Lib.hid ((Has.new w 98 #[.int .i64 k, .int .i64 m, .string t, .slice Ab nb zb, .slice Aa na za, .int .i64 ck, .string ct, .slice A n c, .int .i64 K, .string cn, .int .i64 cq, .bool cb]).alloc (.cells #[.int .i64 k', .int .i64 m', .string t', .slice Ab' nb' zb', .slice Aa' na' za', .int .i64 ck', .string ct', .slice A' n' c', .int .i64 K', .string cn', .int .i64 cq', .bool cb'] 98))
  have hy := Has.new (w.alloc (.cells #[.int .i64 k, .int .i64 m, .string t, .slice Ab nb zb, .slice Aa na za, .int .i64 ck, .string ct, .slice A n c, .int .i64 K, .string cn, .int .i64 cq, .bool cb] 98)) 98 #[.int .i64 k', .int .i64 m', .string t', .slice Ab' nb' zb', .slice Aa' na' za', .int .i64 ck', .string ct', .slice A' n' c', .int .i64 K', .string cn', .int .i64 cq', .bool cb']
  rw [show (w.alloc (.cells #[.int .i64 k, .int .i64 m, .string t, .slice Ab nb zb, .slice Aa na za, .int .i64 ck, .string ct, .slice A n c, .int .i64 K, .string cn, .int .i64 cq, .bool cb] 98)).heap.size = w.heap.size + 1 by simp] at hy
  have HY := Lib.hid hy
  have CB := Lib.hid (fun (W : World) (hb : Below w.heap.size w W) => equalV_any Ab Bl nb zb Ab' Bl' nb' zb' W h1 h1' (by omega) (h3.below hb) (h3'.below hb))
  have CA := Lib.hid (fun (W : World) (hb : Below w.heap.size w W) => equalV_any Aa Al na za Aa' Al' na' za' W h4 h4' (by omega) (h6.below hb) (h6'.below hb))
  have CC := Lib.hid (fun (W : World) (hb : Below w.heap.size w W) => schange_any ck ct A L n c K cn cq cb ck' ct' A' L' n' c' K' cn' cq' cb' W h7 h7' h8 h8' (h9.below hb) (h9'.below hb))
  rw [hqb] at CB
  rw [hqa] at CA
  rw [hqc] at CC
  clear hy h1 h1' h3 h3' h4 h4' h6 h6' h7 h7' h9 h9' hqa hqb hqc
  cases g0 : (k == k')
  · replace HS := Lib.hid (HS.out.trans (show _ = false by simp [g0]))
    go_enter Tryz.func216, Tryz.ntmps216
    go_wp2_with fail
    go_ret
    exact ⟨by rw [HS.out]; rfl, HB⟩
  · skip
    cases g1 : (m == m')
    · replace HS := Lib.hid (HS.out.trans (show _ = false by simp [g0, g1]))
      go_enter Tryz.func216, Tryz.ntmps216
      go_wp2_with fail
      go_ret
      exact ⟨by rw [HS.out]; rfl, HB⟩
    · skip
      cases g2 : (t.toList == t'.toList)
      · replace HS := Lib.hid (HS.out.trans (show _ = false by simp [g0, g1, g2]))
        go_enter Tryz.func216, Tryz.ntmps216
        go_wp2_with fail
        go_ret
        exact ⟨by rw [HS.out]; rfl, HB⟩
      · skip
        replace HS := Lib.hid (HS.out.trans (show _ = (qb && qa && qc) by simp [g0, g1, g2]))
        go_enter Tryz.func216, Tryz.ntmps216
        go_wp2_with fail
        refine (CB.out _ HB.out).mono ?_
        rintro e w1 ⟨rfl, hb1⟩
        have HB0 := Lib.hid (HB.out.trans (hb1.out.mono HB.out.size))
        have HX0 := Lib.hid (HX.out.below hb1.out HX.out.lt)
        have HY0 := Lib.hid (HY.out.below hb1.out HY.out.lt)
        clear hb1 HB HX HY
        have HB := HB0
        have HX := HX0
        have HY := HY0
        clear HB0 HX0 HY0
        have ax4 : w1.cell? ⟨w.heap.size, 4, none⟩ = some (.slice Aa na za) := HX.out.cell 4
        have ax5 : w1.cell? ⟨w.heap.size, 5, none⟩ = some (.int .i64 ck) := HX.out.cell 5
        have ax6 : w1.cell? ⟨w.heap.size, 6, none⟩ = some (.string ct) := HX.out.cell 6
        have ax7 : w1.cell? ⟨w.heap.size, 7, none⟩ = some (.slice A n c) := HX.out.cell 7
        have ax8 : w1.cell? ⟨w.heap.size, 8, none⟩ = some (.int .i64 K) := HX.out.cell 8
        have ax9 : w1.cell? ⟨w.heap.size, 9, none⟩ = some (.string cn) := HX.out.cell 9
        have ax10 : w1.cell? ⟨w.heap.size, 10, none⟩ = some (.int .i64 cq) := HX.out.cell 10
        have ax11 : w1.cell? ⟨w.heap.size, 11, none⟩ = some (.bool cb) := HX.out.cell 11
        have ay4 : w1.cell? ⟨w.heap.size + 1, 4, none⟩ = some (.slice Aa' na' za') := HY.out.cell 4
        have ay5 : w1.cell? ⟨w.heap.size + 1, 5, none⟩ = some (.int .i64 ck') := HY.out.cell 5
        have ay6 : w1.cell? ⟨w.heap.size + 1, 6, none⟩ = some (.string ct') := HY.out.cell 6
        have ay7 : w1.cell? ⟨w.heap.size + 1, 7, none⟩ = some (.slice A' n' c') := HY.out.cell 7
        have ay8 : w1.cell? ⟨w.heap.size + 1, 8, none⟩ = some (.int .i64 K') := HY.out.cell 8
        have ay9 : w1.cell? ⟨w.heap.size + 1, 9, none⟩ = some (.string cn') := HY.out.cell 9
        have ay10 : w1.cell? ⟨w.heap.size + 1, 10, none⟩ = some (.int .i64 cq') := HY.out.cell 10
        have ay11 : w1.cell? ⟨w.heap.size + 1, 11, none⟩ = some (.bool cb') := HY.out.cell 11
        cases qb
        · go_wp2_with fail
          go_ret
          exact ⟨by rw [HS.out]; rfl, HB⟩
        · go_wp2_with fail
          refine (CA.out _ HB.out).mono ?_
          rintro e w2 ⟨rfl, hb1⟩
          clear ax4 ax5 ax6 ax7 ax8 ax9 ax10 ax11 ay4 ay5 ay6 ay7 ay8 ay9 ay10 ay11
          have HB0 := Lib.hid (HB.out.trans (hb1.out.mono HB.out.size))
          have HX0 := Lib.hid (HX.out.below hb1.out HX.out.lt)
          have HY0 := Lib.hid (HY.out.below hb1.out HY.out.lt)
          clear hb1 HB HX HY
          have HB := HB0
          have HX := HX0
          have HY := HY0
          clear HB0 HX0 HY0
          have bx5 : w2.cell? ⟨w.heap.size, 5, none⟩ = some (.int .i64 ck) := HX.out.cell 5
          have bx6 : w2.cell? ⟨w.heap.size, 6, none⟩ = some (.string ct) := HX.out.cell 6
          have bx7 : w2.cell? ⟨w.heap.size, 7, none⟩ = some (.slice A n c) := HX.out.cell 7
          have bx8 : w2.cell? ⟨w.heap.size, 8, none⟩ = some (.int .i64 K) := HX.out.cell 8
          have bx9 : w2.cell? ⟨w.heap.size, 9, none⟩ = some (.string cn) := HX.out.cell 9
          have bx10 : w2.cell? ⟨w.heap.size, 10, none⟩ = some (.int .i64 cq) := HX.out.cell 10
          have bx11 : w2.cell? ⟨w.heap.size, 11, none⟩ = some (.bool cb) := HX.out.cell 11
          have by5 : w2.cell? ⟨w.heap.size + 1, 5, none⟩ = some (.int .i64 ck') := HY.out.cell 5
          have by6 : w2.cell? ⟨w.heap.size + 1, 6, none⟩ = some (.string ct') := HY.out.cell 6
          have by7 : w2.cell? ⟨w.heap.size + 1, 7, none⟩ = some (.slice A' n' c') := HY.out.cell 7
          have by8 : w2.cell? ⟨w.heap.size + 1, 8, none⟩ = some (.int .i64 K') := HY.out.cell 8
          have by9 : w2.cell? ⟨w.heap.size + 1, 9, none⟩ = some (.string cn') := HY.out.cell 9
          have by10 : w2.cell? ⟨w.heap.size + 1, 10, none⟩ = some (.int .i64 cq') := HY.out.cell 10
          have by11 : w2.cell? ⟨w.heap.size + 1, 11, none⟩ = some (.bool cb') := HY.out.cell 11
          cases qa
          · go_wp2_with fail
            go_ret
            exact ⟨by rw [HS.out]; rfl, HB⟩
          · go_wp2_with fail
            refine (CC.out _ HB.out).mono ?_
            rintro e w3 ⟨rfl, hb1⟩
            clear bx5 bx6 bx7 bx8 bx9 bx10 bx11 by5 by6 by7 by8 by9 by10 by11
            have HB0 := Lib.hid (HB.out.trans (hb1.out.mono HB.out.size))
            have HX0 := Lib.hid (HX.out.below hb1.out HX.out.lt)
            have HY0 := Lib.hid (HY.out.below hb1.out HY.out.lt)
            clear hb1 HB HX HY
            have HB := HB0
            have HX := HX0
            have HY := HY0
            clear HB0 HX0 HY0
            go_wp2_with fail
            go_ret
            exact ⟨by rw [HS.out]; rfl, HB⟩
end Go.Proofs.YtncfehjpkcjflaaGreatDoor
namespace Go.Proofs.YtncfehjpkcjflaaGreatDoor
open Go.ChangeShapes Go.WideShapes Go.RowKit Go.Joins Go.Deep Go.Lib
set_option maxRecDepth 100000
section
variable {H : Type} {enc : TypeId × Value → H} {w : World} {base : Nat} {spare : Nat → Bool} {held : Bool}
/-- A datum no text of which is too long to be read. -/
def Lite (t : TypeId) (d : DataW H) : Prop := ∀ n ∈ d.weights Tryz.prog t, n ≤ reachBytes
theorem lite_of {ts : List TypeId} {ds : List (DataW H)} (h : (DataW.weightsEach Tryz.prog ts ds).all (· ≤ reachBytes) = true) {j : Nat} {t : TypeId} {d : DataW H} (ht : ts[j]? = some t) (hd : ds[j]? = some d) : Lite t d := fun n hn => by
  have := List.all_eq_true.1 h n (DataW.weights_mem_each ht hd n hn)
  simpa using this
theorem bounds_int {n : Int} (h : (Lit.int .i64 n).wf = true) : -9223372036854775808 ≤ n ∧ n ≤ 9223372036854775807 := by
  simpa [Lit.wf, IntKind.min, IntKind.max, IntKind.signed, IntKind.bits] using h
end
end Go.Proofs.YtncfehjpkcjflaaGreatDoor
namespace Go.Proofs.YtncfehjpkcjflaaGreatDoor
open Go.RowKit Dg
set_option linter.unusedVariables false
end Go.Proofs.YtncfehjpkcjflaaGreatDoor
namespace Go.Proofs.YtncfehjpkcjflaaGreatDoor
open Go.RowKit Dg
def pool6 (i : Nat) : ByteArray := if i = 0 then ⟨#[116]⟩ else if i = 1 then ⟨#[117]⟩ else ⟨#[118]⟩
def nm6 (s : ByteArray) (i : Nat) : ByteArray := if nameF s = true then s else pool6 i
/-- A table put where it belongs, if none of its name is there. -/
def insD (D : List Td) (x : Td) : List Td := if plD D x.nm = true then D else D.take (lbD D x.nm) ++ [x] ++ D.drop (lbD D x.nm)
def g6To (T : List Tb) : Nat → List Td
  | 0 => []
  | k + 1 => match T[k]? with
    | some x => insD (g6To T k) ⟨nm6 x.nm k, gdC x.L x.K, gdK x.L x.K⟩
    | none => g6To T k
theorem g6To_succ (T : List Tb) (k : Nat) (h : k < T.length) : g6To T (k + 1) = insD (g6To T k) ⟨nm6 T[k].nm k, gdC T[k].L T[k].K, gdK T[k].L T[k].K⟩ := by
  show (match T[k]? with | some x => _ | none => _) = _
  rw [List.getElem?_eq_getElem h]
end Go.Proofs.YtncfehjpkcjflaaGreatDoor
namespace Go.Proofs.YtncfehjpkcjflaaGreatDoor
open Go.ChangeShapes Go.WideShapes Go.RowKit Go.Joins Go.Deep Go.Lib
set_option maxRecDepth 100000
section
variable {H : Type} {enc : TypeId × Value → H} {w : World} {base : Nat} {spare : Nat → Bool} {held : Bool}
end
end Go.Proofs.YtncfehjpkcjflaaGreatDoor
namespace Go.Proofs.YtncfehjpkcjflaaGreatDoor
open Go.ChangeShapes Go.WideShapes Go.RowKit Go.Joins Go.Deep Go.Lib
set_option maxRecDepth 100000
section
variable {H : Type} {enc : TypeId × Value → H} {w : World} {base : Nat} {spare : Nat → Bool} {held : Bool}
end
end Go.Proofs.YtncfehjpkcjflaaGreatDoor
namespace Go.Proofs.YtncfehjpkcjflaaGreatDoor
open Go.ChangeShapes Go.WideShapes Go.RowKit Go.Joins Go.Deep Go.Lib
set_option maxRecDepth 100000
def Tb.cells (x : Tb) : List Value := [.string x.nm, .slice x.A x.n x.c, .int .i64 x.K]
section
variable {H : Type} {enc : TypeId × Value → H} {w : World} {base : Nat} {spare : Nat → Bool} {held : Bool}
end
end Go.Proofs.YtncfehjpkcjflaaGreatDoor
namespace Go.Proofs.YtncfehjpkcjflaaGreatDoor
open Go.RowKit Dg
set_option maxRecDepth 100000
/-- How the memory stands while Good goes on. -/
structure G6 (w : World) (Ti : List Tb) (k : Nat) (wr : World) (v : Value) (T : List Tb) : Prop where
  own : OwnT (w.heap.size + 1) wr v T
  bel : Below w.heap.size w wr
  pool : Has wr w.heap.size 9 #[.string ⟨#[116]⟩, .string ⟨#[117]⟩, .string ⟨#[118]⟩]
  td : tds T = g6To Ti k
  ok : TOks wr T
  col : ∀ x ∈ T, OwnC (w.heap.size + 1) wr (.slice x.A x.n x.c) x.L
theorem G6.below {w wr w' : World} {Ti : List Tb} {k : Nat} {v : Value} {T : List Tb} (h : G6 w Ti k wr v T) (hb : Below wr.heap.size wr w') : G6 w Ti k w' v T :=
  ⟨h.own.below hb, h.bel.trans (hb.mono h.bel.size), h.pool.below hb h.pool.lt, h.td, h.ok.below hb, fun x hx => (h.col x hx).below hb⟩
theorem G6.more {w wr w' : World} {Ti : List Tb} {k : Nat} {v v' : Value} {T : List Tb} {A' : Option Addr} {n' c' : Nat} (h : G6 w Ti k wr v T) (hk : k < Ti.length) (hp : plF T (nm6 Ti[k].nm k) = false) (hb : Below wr.heap.size wr w')
    (hx : OwnC wr.heap.size w' (.slice A' n' c') (gdC Ti[k].L Ti[k].K)) (ho : OwnT (w.heap.size + 1) w' v' (T.take (lbN T (nm6 Ti[k].nm k)) ++ [⟨nm6 Ti[k].nm k, A', n', c', gdC Ti[k].L Ti[k].K, gdK Ti[k].L Ti[k].K⟩] ++ T.drop (lbN T (nm6 Ti[k].nm k)))) :
    G6 w Ti (k + 1) w' v' (T.take (lbN T (nm6 Ti[k].nm k)) ++ [⟨nm6 Ti[k].nm k, A', n', c', gdC Ti[k].L Ti[k].K, gdK Ti[k].L Ti[k].K⟩] ++ T.drop (lbN T (nm6 Ti[k].nm k))) := by
  refine ⟨ho, h.bel.trans (hb.mono h.bel.size), h.pool.below hb h.pool.lt, ?_, ?_, ?_⟩
  · rw [g6To_succ Ti k hk, ← h.td, tds_ins]
    unfold insD
    rw [← plF_d, if_neg (by rw [hp]; simp), ← lbN_d]
    rfl
  · intro x hx'
    rw [List.append_assoc, List.mem_append] at hx'
    rcases hx' with hx' | hx'
    · exact (h.ok x (List.mem_of_mem_take hx')).below hb
    · rw [List.singleton_append, List.mem_cons] at hx'
      rcases hx' with rfl | hx'
      · obtain ⟨A, c, e, h1, h2, h3, h4⟩ := ownC_row hx
        injection e with e1 e2 e3
        subst e1 e3
        have h9 := (goodS_is Ti[k].L Ti[k].K).len.2
        exact ⟨e2.symm, by show n' ≤ c'; omega, h2, h3, h4, by show n' ≤ 900; omega⟩
      · exact (h.ok x (List.mem_of_mem_drop hx')).below hb
  · intro x hx'
    rw [List.append_assoc, List.mem_append] at hx'
    rcases hx' with hx' | hx'
    · exact (h.col x (List.mem_of_mem_take hx')).below hb
    · rw [List.singleton_append, List.mem_cons] at hx'
      rcases hx' with rfl | hx'
      · exact ownC_down hx h.pool.lt
      · exact (h.col x (List.mem_of_mem_drop hx')).below hb
end Go.Proofs.YtncfehjpkcjflaaGreatDoor
namespace Go.Proofs.YtncfehjpkcjflaaGreatDoor
open Go.RowKit Dg
set_option maxHeartbeats 400000 in
theorem Number_any (A : Option Addr) (l : List Nat) (c : Nat) (n : Nat) (w : World) (hn : l.length ≤ c) (hA : Rd w A l) (hb : l.length ≤ 900000) (hn63 : (n : Int) ≤ 9223372036854775807) :
    Calls Tryz.prog 44 #[.slice A l.length c, .int .i64 n] w (Out w (l ++ digs n)) := by
  have hbig : n < big := by unfold big; omega
  have ht := digs_le_ten n hbig
  have hp := digs_pos n
  go_enter Tryz.func44, Tryz.ntmps44
  go_wp2_with fail
  refine (digits_any n _ hbig).mono ?_
  intro e w1 hd
  obtain ⟨A', d, rfl, hr, hb1⟩ := hd.out
  have HR := Lib.hid hr
  clear hr hd
  go_wp2_with fail
  refine (behind_any A l c A' (digs n) d _ hn (hA.below hb1) HR.out hp (by omega)).mono ?_
  intro e w2 ho
  have HO := Lib.hid ho
  clear ho
  obtain ⟨v, rfl, hv⟩ := HO.out
  have HV := Lib.hid hv
  clear hv
  go_wp2_with fail
  go_ret
  exact ⟨v, rfl, HV.out.after hb1⟩

end Go.Proofs.YtncfehjpkcjflaaGreatDoor
namespace Go.Proofs.YtncfehjpkcjflaaGreatDoor
open Go.RowKit Dg
structure D6 (w wr : World) (v : Value) (M : List Cl) (P : Array Value) : Prop where
  own : OwnC (w.heap.size + 2) wr v M
  bel : Below w.heap.size w wr
  prm : Has wr w.heap.size 96 P
  res : Has wr (w.heap.size + 1) 96 #[.int .i64 0, .string ⟨#[]⟩, .slice none 0 0, .int .i64 0, .string ⟨#[]⟩, .int .i64 0, .bool false]
  big : w.heap.size + 2 ≤ wr.heap.size
section
variable {w wr w' : World} {v : Value} {M : List Cl} {P : Array Value}
theorem D6.below (h : D6 w wr v M P) (hb : Below wr.heap.size wr w') : D6 w w' v M P :=
  ⟨h.own.below hb, h.bel.trans (hb.mono h.bel.size), h.prm.below hb h.prm.lt, h.res.below hb h.res.lt, Nat.le_trans h.big hb.size⟩
theorem D6.grown (h : D6 w wr v M P) {R : Value} {M' : List Cl} (ho : OwnC (w.heap.size + 2) w' R M') (hb : Below (w.heap.size + 2) wr w') : D6 w w' R M' P :=
  ⟨ho, h.bel.trans (hb.mono (by omega)), h.prm.below hb (by omega), h.res.below hb (by omega), Nat.le_trans h.big hb.size⟩
end
end Go.Proofs.YtncfehjpkcjflaaGreatDoor
namespace Go.Proofs.YtncfehjpkcjflaaGreatDoor
open Go.RowKit Dg Cr
set_option maxRecDepth 100000
theorem out7_open {w w' : World} {l : List Nat} {e : Ending} (h : Out w l e w') : ∃ A n c, e = .returned (.slice A n c) ∧ Hid (l.length = n) ∧ n ≤ c ∧ Hid (Rd w' A l) ∧ Hid (Below w.heap.size w w') := by
  obtain ⟨v, he, A, c, rfl, hc, hr, hb⟩ := h
  exact ⟨A, l.length, c, he, rfl, hc, hr, hb⟩
theorem ev1_at (w : World) : EvAt w (.agg #[.int .i64 1, .int .i64 1, .string ⟨#[]⟩, .slice none 0 0, .slice none 0 0, .int .i64 0, .string ⟨#[]⟩, .slice none 0 0, .int .i64 0, .string ⟨#[]⟩, .int .i64 0, .bool false]) ⟨1, 1, ⟨#[]⟩, [], [], 0, ⟨#[]⟩, [], 0, ⟨⟨#[]⟩, 0, false⟩⟩ :=
  ⟨none, 0, 0, none, 0, 0, none, 0, 0, rfl, ⟨rfl, by simp, fun h => absurd rfl h⟩, ⟨rfl, by simp, fun h => absurd rfl h⟩, rfl, by omega, fun h => absurd rfl h⟩
set_option maxHeartbeats 2000000 in
set_option maxRecDepth 100000 in
theorem mayNumber1 (w : World) : Calls Tryz.prog 165 #[.agg #[.int .i64 1, .int .i64 1, .string ⟨#[]⟩, .slice none 0 0, .slice none 0 0, .int .i64 0, .string ⟨#[]⟩, .slice none 0 0, .int .i64 0, .string ⟨#[]⟩, .int .i64 0, .bool false]] w fun e w' => e = .returned (.int .i64 0) ∧ Hid (Below w.heap.size w w') := by
  have HB := Lib.hid ((Below.refl w.heap.size w).alloc (Nat.le_refl _) (.cells #[.int .i64 1, .int .i64 1, .string ⟨#[]⟩, .slice none 0 0, .slice none 0 0, .int .i64 0, .string ⟨#[]⟩, .slice none 0 0, .int .i64 0, .string ⟨#[]⟩, .int .i64 0, .bool false] 98))
  have HS := fun (W : World) => Lib.hid (esame_any (.agg #[.int .i64 1, .int .i64 1, .string ⟨#[]⟩, .slice none 0 0, .slice none 0 0, .int .i64 0, .string ⟨#[]⟩, .slice none 0 0, .int .i64 0, .string ⟨#[]⟩, .int .i64 0, .bool false]) (.agg #[.int .i64 1, .int .i64 1, .string ⟨#[]⟩, .slice none 0 0, .slice none 0 0, .int .i64 0, .string ⟨#[]⟩, .slice none 0 0, .int .i64 0, .string ⟨#[]⟩, .int .i64 0, .bool false]) _ _ W (ev1_at W) (ev1_at W))
  go_enter Tryz.func165, Tryz.ntmps165
  go_wp2_with fail
  refine ((HS _).out).mono ?_
  rintro e w1 ⟨rfl, hb1⟩
  rw [evF_refl]
  have HB1 := Lib.hid (HB.out.trans (hb1.out.mono HB.out.size))
  clear hb1 HS
  go_wp2_with fail
  go_ret
  exact ⟨rfl, HB1⟩
set_option maxHeartbeats 2000000 in
set_option maxRecDepth 100000 in
theorem may1 (w : World) : Calls Tryz.prog 114 #[.agg #[.int .i64 1, .int .i64 1, .string ⟨#[]⟩, .slice none 0 0, .slice none 0 0, .int .i64 0, .string ⟨#[]⟩, .slice none 0 0, .int .i64 0, .string ⟨#[]⟩, .int .i64 0, .bool false], .slice none 0 0] w fun e w' => e = .returned (.int .i64 0) ∧ Hid (Below w.heap.size w w') := by
  have HB := Lib.hid ((Below.refl w.heap.size w).alloc (Nat.le_refl _) (.cells #[.int .i64 1, .int .i64 1, .string ⟨#[]⟩, .slice none 0 0, .slice none 0 0, .int .i64 0, .string ⟨#[]⟩, .slice none 0 0, .int .i64 0, .string ⟨#[]⟩, .int .i64 0, .bool false] 98))
  go_enter Tryz.func114, Tryz.ntmps114
  go_wp2_with fail
  refine (mayNumber1 _).mono ?_
  rintro e w1 ⟨rfl, hb1⟩
  have HB1 := Lib.hid (HB.out.trans (hb1.out.mono HB.out.size))
  clear hb1
  go_wp2_with fail
  go_ret
  exact ⟨rfl, HB1⟩
theorem digs1 : digs 1 = [1] := by rw [digs]; simp
set_option maxHeartbeats 2000000 in
set_option maxRecDepth 100000 in
theorem write1 (w : World) : Calls Tryz.prog 101 #[.agg #[.int .i64 1, .int .i64 1, .string ⟨#[]⟩, .slice none 0 0, .slice none 0 0, .int .i64 0, .string ⟨#[]⟩, .slice none 0 0, .int .i64 0, .string ⟨#[]⟩, .int .i64 0, .bool false], .slice none 0 0] w fun e w' => (∃ A c, e = .returned (.tuple #[.slice A 2 c, .int .i64 0]) ∧ Hid (Rd w' A [1, 1])) ∧ Hid (Below w.heap.size w w') := by
  have HB := Lib.hid ((Below.refl w.heap.size w).alloc (Nat.le_refl _) (.cells #[.int .i64 1, .int .i64 1, .string ⟨#[]⟩, .slice none 0 0, .slice none 0 0, .int .i64 0, .string ⟨#[]⟩, .slice none 0 0, .int .i64 0, .string ⟨#[]⟩, .int .i64 0, .bool false] 98))
  have HX := Lib.hid (Has.new w 98 #[.int .i64 1, .int .i64 1, .string ⟨#[]⟩, .slice none 0 0, .slice none 0 0, .int .i64 0, .string ⟨#[]⟩, .slice none 0 0, .int .i64 0, .string ⟨#[]⟩, .int .i64 0, .bool false])
  go_enter Tryz.func101, Tryz.ntmps101
  go_wp2_with fail
  refine (may1 _).mono ?_
  rintro e w1 ⟨rfl, hb1⟩
  have HB1 := Lib.hid (HB.out.trans (hb1.out.mono HB.out.size))
  have HX1 := Lib.hid (HX.out.below hb1.out (by simp))
  clear hb1 HB HX
  have x0 : w1.cell? ⟨w.heap.size, 0, none⟩ = some (.int .i64 1) := HX1.out.cell 0
  have x1 : w1.cell? ⟨w.heap.size, 1, none⟩ = some (.int .i64 1) := HX1.out.cell 1
  have HB2 : Hid (Below w.heap.size w (w1.alloc (.cells #[.int .u8 1] 5))) := HB1.out.trans (((Below.refl w1.heap.size w1).alloc (Nat.le_refl _) _).mono HB1.out.size)
  have HX2 := Lib.hid (HX1.out.alloc (.cells #[.int .u8 1] 5))
  have y0 : (w1.alloc (.cells #[.int .u8 1] 5)).cell? ⟨w.heap.size, 0, none⟩ = some (.int .i64 1) := HX2.out.cell 0
  have y1 : (w1.alloc (.cells #[.int .u8 1] 5)).cell? ⟨w.heap.size, 1, none⟩ = some (.int .i64 1) := HX2.out.cell 1
  have HR := Lib.hid (show Rd (w1.alloc (.cells #[.int .u8 1] 5)) (some ⟨w1.heap.size, 0, none⟩) [1] from fun _ => ⟨w1.heap.size, 0, rfl, fun i hi => by
    obtain rfl : i = 0 := by simp at hi; omega
    exact (Has.new w1 5 #[.int .u8 1]).cell 0⟩)
  clear HX1 HX2 HB1
  go_wp2_with fail
  refine (Number_any (some ⟨w1.heap.size, 0, none⟩) [1] 1 1 _ (by simp) HR.out (by simp) (by omega)).mono ?_
  intro e w2 ho
  obtain ⟨v, rfl, Av, cv, rfl, _, hr, hb⟩ := ho
  have HR2 := Lib.hid hr
  have HB3 := Lib.hid (HB2.out.trans (hb.mono HB2.out.size))
  clear hr hb HB2 HR x0 x1 y0 y1
  rw [digs1] at *
  go_wp2_with fail
  go_ret2
  exact ⟨⟨_, _, rfl, HR2⟩, HB3⟩
theorem stEnd (w' : World) (g : Nat) (cs : Array Value) (tmps : Array Value) (hz : cs.size = 12) (hp : tmps.getD 0 undef = .pointer (some ⟨g, 0, none⟩)) (hh : Has w' g 98 cs) :
    (results Tryz.f102 tmps).run Tryz.prog w' = .ok (.agg cs) w' :=
  results_cell_row rfl _ _ g 98 cs (0, 0) _ hp hh Tryz.underlying98 rfl (by rw [hz]; kernel_rfl)
set_option maxHeartbeats 1000000 in
theorem start_any (w : World) : Calls Tryz.prog 102 #[] w fun e w' => e = .returned (.agg #[.int .i64 1, .int .i64 1, .string ⟨#[]⟩, .slice none 0 0, .slice none 0 0, .int .i64 0, .string ⟨#[]⟩, .slice none 0 0, .int .i64 0, .string ⟨#[]⟩, .int .i64 0, .bool false]) ∧ Hid (Below w.heap.size w w') := by
  have HB := Lib.hid ((Below.refl w.heap.size w).alloc (Nat.le_refl _) (.cells #[.int .i64 1, .int .i64 1, .string ⟨#[]⟩, .slice none 0 0, .slice none 0 0, .int .i64 0, .string ⟨#[]⟩, .slice none 0 0, .int .i64 0, .string ⟨#[]⟩, .int .i64 0, .bool false] 98))
  have HX := Lib.hid (Has.new w 98 #[.int .i64 1, .int .i64 1, .string ⟨#[]⟩, .slice none 0 0, .slice none 0 0, .int .i64 0, .string ⟨#[]⟩, .slice none 0 0, .int .i64 0, .string ⟨#[]⟩, .int .i64 0, .bool false])
  go_enter Tryz.func102, Tryz.ntmps102
  go_wp2_with fail
  exact bodyPost_ret (stEnd _ w.heap.size _ _ rfl rfl HX.out) rfl ⟨rfl, HB⟩
set_option maxHeartbeats 1000000 in
/-- A body's frame. -/
theorem frame_any (A : Option Addr) (l : List Nat) (n c : Nat) (A' : Option Addr) (m : List Nat) (k d : Nat) (w : World) (hn : l.length = n) (hnc : n ≤ c) (hb : n ≤ 200) (hA : Rd w A l) (hk : m.length = k) (hkb : k ≤ 200) (hm : ∀ x ∈ m, x < 256) (hA' : Rd w A' m) (h0' : A' = none → d = 0) :
    Calls Tryz.prog 14 #[.slice A n c, .slice A' k d] w (OutO w (l ++ digs k ++ m ++ le4 (sum m))) := by
  obtain ⟨R, hR⟩ : ∃ R, l ++ digs k ++ m ++ le4 (sum m) = R := ⟨_, rfl⟩
  rw [hR]
  have HR := Lib.hid hR
  clear hR
  subst hn
  have HNB := Lib.hid (Number_any A l c k w hnc hA (by omega) (by omega))
  have HA' := Lib.hid hA'
  have hp := digs_pos k
  have ht := digs_le_ten k (by omega)
  go_enter Tryz.func14, Tryz.ntmps14
  go_wp2_with fail
  refine HNB.out.mono ?_
  intro e w1 ho
  obtain ⟨A1, n1, c1, rfl, HN1, hnc1, HR1, HB1⟩ := out7_open ho
  have hA1 : A1 = none → c1 = 0 := fun e => by
    obtain ⟨b, off, e2, _⟩ := HR1.out (by intro e; have h := congrArg List.length e; rw [List.length_append, List.length_nil] at h; omega)
    rw [e] at e2; cases e2
  have hn1 : n1 ≤ 210 := by rw [← HN1.out, List.length_append]; omega
  have HPT := Lib.hid (put_any A1 (l ++ digs k) n1 c1 A' m k d w1 HN1.out hk (by omega) hm HR1.out (HA'.out.below HB1.out) hA1 h0')
  rw [HR.out] at HPT
  go_wp2_with fail
  refine HPT.out.mono ?_
  rintro e w2 ⟨v, rfl, hown, hbb⟩
  have HO := Lib.hid (own_down hown HB1.out.size)
  have HB2 := Lib.hid (HB1.out.trans (hbb.mono HB1.out.size))
  obtain ⟨A2, c2, hv, _, _⟩ := own_full HO.out
  subst hv
  clear hown hbb
  go_wp2_with fail
  go_ret
  exact ⟨_, rfl, HO.out, HB2.out⟩
set_option maxHeartbeats 1000000 in
/-- A log of the Start alone. -/
theorem new_any (w : World) : Calls Tryz.prog 48 #[] w (OutO w ([2, 1, 1] ++ le4 (sum [1, 1]))) := by
  have hd : digs 2 = [2] := by rw [digs]; simp
  obtain ⟨R, hR⟩ : ∃ R, [2, 1, 1] ++ le4 (sum [1, 1]) = R := ⟨_, rfl⟩
  rw [hR]
  have HRR := Lib.hid hR
  clear hR
  go_enter Tryz.func48, Tryz.ntmps48
  go_wp2_with fail
  refine (start_any _).mono ?_
  rintro e w1 ⟨rfl, hb1⟩
  go_wp2_with fail
  refine (write1 _).mono ?_
  rintro e w2 ⟨⟨A, c, rfl, hr⟩, hb2⟩
  have HB2 := Lib.hid (hb1.out.trans (hb2.out.mono hb1.out.size))
  have HFR := Lib.hid (frame_any none [] 0 0 A [1, 1] 2 c w2 rfl (Nat.le_refl _) (by omega) (fun h => absurd rfl h) rfl (by omega) (by simp) hr.out (fun e => by obtain ⟨b, off, e2, _⟩ := hr.out (by simp); rw [e] at e2; cases e2))
  rw [hd] at HFR
  have e9 : [] ++ [2] ++ [1, 1] ++ le4 (sum [1, 1]) = R := HRR.out
  rw [e9] at HFR
  clear e9
  clear hr hb1 hb2 hd
  go_wp2_with fail
  refine HFR.out.mono ?_
  rintro e w3 ⟨v, rfl, hown, hbb⟩
  have HO := Lib.hid (own_down hown HB2.out.size)
  have HB3 := Lib.hid (HB2.out.trans (hbb.mono HB2.out.size))
  obtain ⟨A2, c2, hv, _, _⟩ := own_full HO.out
  subst hv
  clear hown hbb
  go_wp2_with fail
  go_ret
  exact ⟨_, rfl, HO.out, HB3.out⟩
end Go.Proofs.YtncfehjpkcjflaaGreatDoor
namespace Go.Proofs.YtncfehjpkcjflaaGreatDoor
open Go.RowKit Dg Cr
set_option maxRecDepth 100000
set_option linter.unusedVariables false
attribute [local go_sem] Oper.semAt_some
/-- A log of the Start alone. -/
def nb7 : List Nat := [2, 1, 1] ++ le4 (sum [1, 1])
theorem nb7_len : nb7.length = 7 := rfl
/-- Where the loop stands. -/
def EvI (w : World) (g p : Nat) (A : Option Addr) (pre : List Unit) (Y : List Nat) (U : World) : Prop :=
  Y = [p, p + 1] ∧ w.heap.size ≤ g ∧ g < p ∧ Below w.heap.size w U ∧ Has U g 175 #[.slice A 0 0, .int .i64 7, .int .i64 7, .slice none 0 0, .slice none 0 0, .bool false, .int .i64 0] ∧ (∃ q cq, Has U p 35 #[.slice (some ⟨q, 0, none⟩) 1 cq]) ∧ Has U (p + 1) 26 #[.int .i64 (if pre = [] then 0 else 7)]
set_option maxHeartbeats 8000000 in
theorem events0 (A : Option Addr) (c : Nat) (w : World) (hc7 : 7 ≤ c) (hcm : c ≤ maxLen) (hA : Rd w A nb7) :
    Calls Tryz.prog 49 #[.slice A 7 c] w fun e w' => ∃ v cq, e = .returned (.tuple #[.slice v 1 cq, .int .i64 7, .int .i64 7]) ∧ Hid (Below w.heap.size w w') := by
  obtain ⟨b, off, rfl, _⟩ := hA (by decide)
  obtain ⟨k, hk⟩ : ∃ k : Nat, Hid (k = 3) := ⟨3, rfl⟩
  refine (callsIn_wide (n := k)).1 ?_
  have hro : Fence.wide.round = none := rfl
  have hdd : ∀ k : Nat, (Fence.wide.depth.isSome = true → 1 ≤ k) := fun k h => by cases h
  refine callsIn_of_wp_marks Tryz.func49 rfl trivial ?_ rfl
  simp only [Tryz.ntmps49, List.size_toArray, List.length_cons, List.length_nil, Nat.reduceAdd, Nat.reduceSub, Array.replicate_succ, Array.replicate_zero, List.push_toArray, List.append_toArray, List.nil_append, List.cons_append]
  have HA := Lib.hid hA
  clear hA
  gi_wp2
  refine ⟨trivial, hdd _, ?_⟩
  refine (callsIn_wide.2 (new_any w)).mono ?_
  intro e w1 ho
  obtain ⟨v1, rfl, ho1, hb1⟩ := ho
  obtain ⟨A1, c1, rfl, hc1, hr1⟩ := own_full ho1
  have HR1 := Lib.hid (show Rd w1 A1 nb7 from hr1)
  have HB1 := Lib.hid hb1
  have hl7 : ([2, 1, 1] ++ le4 (sum [1, 1])).length = 7 := rfl
  rw [hl7] at hc1 ⊢
  clear ho1 hb1 hr1 hl7
  gi_wp2
  refine ⟨trivial, hdd _, ?_⟩
  refine (callsIn_wide.2 (prefix7_any (some ⟨b, off, none⟩) nb7 7 c A1 c1 w1 nb7_len hc7 hcm (HA.out.below HB1.out) HR1.out)).mono ?_
  rintro e w2 ⟨rfl, rfl⟩
  gi_wp2
  refine ⟨trivial, hdd _, ?_⟩
  refine (callsIn_wide.2 (scan0 b off c w2 hc7 hcm)).mono ?_
  rintro e w3 ⟨g, A3, rfl, hg, hh3, hb3⟩
  have HB3 := Lib.hid (HB1.out.trans (hb3.out.mono HB1.out.size))
  clear HR1 hb3
  gi_wp2
  refine ⟨trivial, hdd _, ?_⟩
  refine (callsIn_wide.2 (start_any w3)).mono ?_
  rintro e w4 ⟨rfl, hb4⟩
  have HH4 := Lib.hid (hh3.out.below hb4.out hh3.out.lt)
  have HB4 := Lib.hid (HB3.out.trans (hb4.out.mono HB3.out.size))
  clear hh3 hb4 HB3
  gi_wp2
  have hs3 := HB4.out.size
  obtain ⟨p, hp⟩ : ∃ p, w4.heap.size + 1 = p := ⟨_, rfl⟩
  obtain ⟨W5, hW5⟩ : ∃ W, W = (((w4.alloc (.cells #[.int .i64 1, .int .i64 1, .string ⟨#[]⟩, .slice none 0 0, .slice none 0 0, .int .i64 0, .string ⟨#[]⟩, .slice none 0 0, .int .i64 0, .string ⟨#[]⟩, .int .i64 0, .bool false] 98)).alloc (.cells #[.slice (some ⟨w4.heap.size, 0, none⟩) 1 1] 35)).alloc (.cells #[.int .i64 0] 26)) := ⟨_, rfl⟩
  have hP := (Has.new (w4.alloc (.cells #[.int .i64 1, .int .i64 1, .string ⟨#[]⟩, .slice none 0 0, .slice none 0 0, .int .i64 0, .string ⟨#[]⟩, .slice none 0 0, .int .i64 0, .string ⟨#[]⟩, .int .i64 0, .bool false] 98)) 35 #[.slice (some ⟨w4.heap.size, 0, none⟩) 1 1]).alloc (.cells #[.int .i64 0] 26)
  have hQ := Has.new ((w4.alloc (.cells #[.int .i64 1, .int .i64 1, .string ⟨#[]⟩, .slice none 0 0, .slice none 0 0, .int .i64 0, .string ⟨#[]⟩, .slice none 0 0, .int .i64 0, .string ⟨#[]⟩, .int .i64 0, .bool false] 98)).alloc (.cells #[.slice (some ⟨w4.heap.size, 0, none⟩) 1 1] 35)) 26 #[.int .i64 0]
  have hH := ((HH4.out.alloc (.cells #[.int .i64 1, .int .i64 1, .string ⟨#[]⟩, .slice none 0 0, .slice none 0 0, .int .i64 0, .string ⟨#[]⟩, .slice none 0 0, .int .i64 0, .string ⟨#[]⟩, .int .i64 0, .bool false] 98)).alloc (.cells #[.slice (some ⟨w4.heap.size, 0, none⟩) 1 1] 35)).alloc (.cells #[.int .i64 0] 26)
  have hB := ((HB4.out.alloc hs3 (.cells #[.int .i64 1, .int .i64 1, .string ⟨#[]⟩, .slice none 0 0, .slice none 0 0, .int .i64 0, .string ⟨#[]⟩, .slice none 0 0, .int .i64 0, .string ⟨#[]⟩, .int .i64 0, .bool false] 98)).alloc (by simp; omega) (.cells #[.slice (some ⟨w4.heap.size, 0, none⟩) 1 1] 35)).alloc (by simp; omega) (.cells #[.int .i64 0] 26)
  rw [World.size_alloc] at hP hQ
  rw [World.size_alloc] at hQ
  rw [← hW5] at hP hQ hH hB ⊢
  rw [hp] at hP hQ ⊢
  have hg4 : g < w4.heap.size := HH4.out.lt
  have hsz : W5.heap.size = p + 2 := by rw [hW5]; simp; omega
  have hg0 : w.heap.size ≤ g := Nat.le_trans HB1.out.size hg
  have HH5 := Lib.hid hH
  clear hW5 HH4 HB4 hH
  refine wp_tellsM rfl rfl (gf := 105) (by rfl) trivial (enters_of Tryz.func105 (by kernel_rfl) rfl)
    (rest_tells g A3 0 W5 HH5.out (fun _ => rfl) (Nat.zero_le _)) (fun _ _ _ _ h _ _ _ => h) (fun _ _ _ _ h _ _ _ => h) (fun _ h => h.elim) (Nat.le_refl _) ⟨rfl, rfl, rfl⟩ (fun _ _ => rfl)
    (fun b hb => by rw [hb]; omega) (fun x => rfl)
    (EvI w g p A3) (fun _ _ _ _ => False) ?stI ?stX ?ltI [p, p + 1] (by intro b hb; simp at hb; omega) ⟨rfl, hg0, by omega, hB, HH5.out, ⟨_, _, hP⟩, hQ⟩ ?loop ?done ?stop
  case stI =>
    rintro pre Y U U' Z ⟨rfl, h1, h2, h3, h4, ⟨q, cq, h5⟩, h6⟩ ht hz
    have hz1 : ∀ b ∈ Z, W5.heap.size ≤ b := fun b hb => (hz b hb).1.elim id (fun h => h.elim)
    exact ⟨rfl, h1, h2, h3.trans (ht.below (fun b hb => by have := hz1 b hb; omega) h3.size), h4.tur ht (fun h => by have := hz1 _ h; omega), ⟨q, cq, h5.tur ht (fun h => (hz _ h).2 (by simp))⟩, h6.tur ht (fun h => (hz _ h).2 (by simp))⟩
  case stX =>
    rintro cd pre Y U U' Z h _ _
    exact h
  case ltI =>
    rintro pre Y U ⟨rfl, h1, h2, h3, h4, ⟨q, cq, h5⟩, h6⟩ b hb
    have := h6.lt
    simp at hb
    omega
  case loop =>
    refine ⟨?_, fun x U => U.alloc (.cells #[.int .i64 0, .int .i64 0, .string ⟨#[]⟩, .slice none 0 0, .slice none 0 0, .int .i64 0, .string ⟨#[]⟩, .slice none 0 0, .int .i64 0, .string ⟨#[]⟩, .int .i64 0, .bool false] 98), fun x U => Tur.alloc [] U _, ?_, ?_⟩
    rotate_left
    · intro m' l' x U K hK
      dsimp only [zEv]
      gi_wp2
      exact hK
    · rintro m' l' b pre x Y U0 U hb0 htb ⟨rfl, h1, h2, h3, h4, ⟨q, cq, h5⟩, h6⟩ hC
      have f6 := h6.free 0
      have c6 := h6.cell 0
      gi_wp2
      refine ⟨[p, p + 1], ⟨rfl, h1, h2, h3.setCell (p := ⟨p + 1, 0, none⟩) (by show w.heap.size ≤ p + 1; omega) _, h4.far (p := ⟨p + 1, 0, none⟩) (by show g ≠ p + 1; omega) _, ⟨q, cq, h5.far (p := ⟨p + 1, 0, none⟩) (by show p ≠ p + 1; omega) _⟩, ?_⟩, Tur.setCell _ (p := ⟨p + 1, 0, none⟩) (by simp) _, Fre.refl _ _⟩
      rw [if_neg (by simp)]
      exact h6.put 0 _
  case done =>
    rintro D xs Y U hD hfin ⟨rfl, h1, h2, h3, h4, ⟨q, cq, h5⟩, h6⟩ hDY hDd
    subst hfin
    rw [if_neg (by simp)] at h6
    have c5 := h5.cell 0
    have c6 := h6.cell 0
    have d0 := h4.cell 0
    have d2 := h4.cell 2
    have d5 := h4.cell 5
    gi_wp2
    rename_i hKr
    refine wpIn_noPanic ?_
    refine wpIn_wide.2 ?_
    refine wp_region_held_drew (S := fun X : World => X.cell? ⟨p, 0, none⟩ = some (.slice (some ⟨q, 0, none⟩) 1 cq) ∧ X.cell? ⟨g, 2, none⟩ = some (.int .i64 7) ∧ X.cell? ⟨p + 1, 0, none⟩ = some (.int .i64 7)) (by kernel_rfl) (by exact ⟨c5, d2, c6⟩) (fun _ => ?_)
    (refine wpAnyH_take (i := 0) (v := ?_) rfl (by kernel_rfl) (by kernel_rfl) (by kernel_rfl) (fun _ _ _ h => h) (Or.inl ⟨by rfl, ?_⟩) (by assumption) ?_; rotate_left; (intro w hSw; (try dsimp only at hSw); go_simp; try with_reducible rfl); ((try simp only [List.getElem_toArray]); (try simp only [List.getElem_cons_succ]); (try simp only [List.getElem_cons_zero]); (try simp only [Act.put]); (try simp only [List.setIfInBounds_toArray]); (try simp only [List.set_cons_succ]); (try simp only [List.set_cons_zero])))
    (refine wpAnyH_take (i := 1) (v := ?_) rfl (by kernel_rfl) (by kernel_rfl) (by kernel_rfl) (fun _ _ _ h => h) (Or.inl ⟨by rfl, ?_⟩) (by assumption) ?_; rotate_left; (intro w hSw; (try dsimp only at hSw); go_simp; try with_reducible rfl); ((try simp only [List.getElem_toArray]); (try simp only [List.getElem_cons_succ]); (try simp only [List.getElem_cons_zero]); (try simp only [Act.put]); (try simp only [List.setIfInBounds_toArray]); (try simp only [List.set_cons_succ]); (try simp only [List.set_cons_zero])))
    (refine wpAnyH_take (i := 2) (v := ?_) rfl (by kernel_rfl) (by kernel_rfl) (by kernel_rfl) (fun _ _ _ h => h) (Or.inl ⟨by rfl, ?_⟩) (by assumption) ?_; rotate_left; (intro w hSw; (try dsimp only at hSw); go_simp; try with_reducible rfl); ((try simp only [List.getElem_toArray]); (try simp only [List.getElem_cons_succ]); (try simp only [List.getElem_cons_zero]); (try simp only [Act.put]); (try simp only [List.setIfInBounds_toArray]); (try simp only [List.set_cons_succ]); (try simp only [List.set_cons_zero])))
    (refine wpAnyH_take (i := 3) (v := ?_) rfl (by kernel_rfl) (by kernel_rfl) (by kernel_rfl) (fun _ _ _ h => h) (Or.inl ⟨by rfl, ?_⟩) (by assumption) ?_; rotate_left; (intro w hSw; (try dsimp only at hSw); go_simp; try with_reducible rfl); ((try simp only [List.getElem_toArray]); (try simp only [List.getElem_cons_succ]); (try simp only [List.getElem_cons_zero]); (try simp only [Act.put]); (try simp only [List.setIfInBounds_toArray]); (try simp only [List.set_cons_succ]); (try simp only [List.set_cons_zero])))
    (refine wpAnyH_take (i := 4) (v := ?_) rfl (by kernel_rfl) (by kernel_rfl) (by kernel_rfl) (fun _ _ _ h => h) (Or.inl ⟨by rfl, ?_⟩) (by assumption) ?_; rotate_left; (intro w hSw; (try dsimp only at hSw); go_simp; try with_reducible rfl); ((try simp only [List.getElem_toArray]); (try simp only [List.getElem_cons_succ]); (try simp only [List.getElem_cons_zero]); (try simp only [Act.put]); (try simp only [List.setIfInBounds_toArray]); (try simp only [List.set_cons_succ]); (try simp only [List.set_cons_zero])))
    (refine wpAnyH_take (i := 5) (v := ?_) rfl (by kernel_rfl) (by kernel_rfl) (by kernel_rfl) (fun _ _ _ h => h) (Or.inl ⟨by rfl, ?_⟩) (by assumption) ?_; rotate_left; (intro w hSw; (try dsimp only at hSw); go_simp; try with_reducible rfl); ((try simp only [List.getElem_toArray]); (try simp only [List.getElem_cons_succ]); (try simp only [List.getElem_cons_zero]); (try simp only [Act.put]); (try simp only [List.setIfInBounds_toArray]); (try simp only [List.set_cons_succ]); (try simp only [List.set_cons_zero])))
    (refine wpAnyH_take (i := 6) (v := ?_) rfl (by kernel_rfl) (by kernel_rfl) (by kernel_rfl) (fun _ _ _ h => h) (Or.inl ⟨by rfl, ?_⟩) (by assumption) ?_; rotate_left; (intro w hSw; (try dsimp only at hSw); go_simp; try with_reducible rfl); ((try simp only [List.getElem_toArray]); (try simp only [List.getElem_cons_succ]); (try simp only [List.getElem_cons_zero]); (try simp only [Act.put]); (try simp only [List.setIfInBounds_toArray]); (try simp only [List.set_cons_succ]); (try simp only [List.set_cons_zero])))
    (refine wpAnyH_take (i := 7) (v := ?_) rfl (by kernel_rfl) (by kernel_rfl) (by kernel_rfl) (fun _ _ _ h => h) (Or.inl ⟨by rfl, ?_⟩) (by assumption) ?_; rotate_left; (intro w hSw; (try dsimp only at hSw); go_simp; try with_reducible rfl); ((try simp only [List.getElem_toArray]); (try simp only [List.getElem_cons_succ]); (try simp only [List.getElem_cons_zero]); (try simp only [Act.put]); (try simp only [List.setIfInBounds_toArray]); (try simp only [List.set_cons_succ]); (try simp only [List.set_cons_zero])))
    (refine wpAnyH_take (i := 8) (v := ?_) rfl (by kernel_rfl) (by kernel_rfl) (by kernel_rfl) (fun _ _ _ h => h) (Or.inl ⟨by rfl, ?_⟩) (by assumption) ?_; rotate_left; (intro w hSw; (try dsimp only at hSw); go_simp; try with_reducible rfl); ((try simp only [List.getElem_toArray]); (try simp only [List.getElem_cons_succ]); (try simp only [List.getElem_cons_zero]); (try simp only [Act.put]); (try simp only [List.setIfInBounds_toArray]); (try simp only [List.set_cons_succ]); (try simp only [List.set_cons_zero])))
    refine wpAnyH_done (by kernel_rfl) ?_ _
    refine hKr _ _ ?_
    gi_wp2
    have htD : Tur [D] U.drew (U.drew.putObj D (.deferred none)) := Tur.putObj U.drew (by simp) _
    have hsD : w.heap.size ≤ D := by have := hB.size; omega
    refine ⟨by simp, .inl ⟨_, _, rfl, run_takeDeferred hDd, ?_⟩⟩
    exact ⟨_, results_tmp3 rfl _ _ _, _, _, rfl, h3.drew.trans (htD.below (B := w.heap.size) (by simp; exact hsD) h3.size)⟩
  case stop =>
    rintro D cd pre Y U hD h _ _
    exact h.elim
/-- A row of the call's own, as a slice. -/
theorem own7 {B : Nat} {w : World} {v : Value} {l : List Nat} (h : Own B w v l) : ∃ A c, v = .slice A l.length c ∧ l.length ≤ c ∧ c ≤ maxLen ∧ Rd w A l ∧ (A = none → c = 0) := by
  obtain ⟨A, c, e, h1, h2⟩ := own_full h
  refine ⟨A, c, e, h1, ?_, h2, ?_⟩ <;> rcases h.2 with ⟨hv, _⟩ | ⟨g, cap, cur, hv, _, _, _, hm, _, _⟩ <;> rw [e] at hv <;> injection hv with e1 e2 e3
  · rw [e3]; exact Nat.zero_le _
  · rw [e3]; exact hm
  · intro _; exact e3
  · intro h0; rw [e1] at h0; cases h0
set_option maxHeartbeats 2000000 in
/-- The document's example. -/
theorem livesB_any (w : World) : Calls Tryz.prog 17 #[] w fun e w' => e = .returned (.bool true) ∧ Hid (Below w.heap.size w w') := by
  go_enter Tryz.func17, Tryz.ntmps17
  go_wp2_with fail
  refine (new_any w).mono ?_
  intro e w1 ho
  obtain ⟨v1, rfl, ho1, hb1⟩ := ho
  obtain ⟨A1, c1, rfl, hc1, hm1, hr1, _⟩ := own7 ho1
  have hl7 : ([2, 1, 1] ++ le4 (sum [1, 1])).length = 7 := rfl
  rw [hl7] at hc1 ⊢
  have HB1 := Lib.hid hb1
  have HR1 := Lib.hid (show Rd w1 A1 nb7 from hr1)
  clear ho1 hb1 hr1 hl7
  obtain ⟨b, off, rfl, hcell⟩ := HR1.out (by decide)
  go_wp2_with fail
  refine (events0 (some ⟨b, off, none⟩) c1 w1 hc1 hm1 HR1.out).mono ?_
  rintro e w2 ⟨v2, cq, rfl, hb2⟩
  have x0 : w2.cell? ⟨b, off, none⟩ = some (.int .u8 2) := (hb2.out.cell (World.block_lt_of_cell? _ _ (hcell 0 (by decide)))).trans (hcell 0 (by decide))
  have x1 : w2.cell? ⟨b, off + 1, none⟩ = some (.int .u8 1) := (hb2.out.cell (World.block_lt_of_cell? _ _ (hcell 1 (by decide)))).trans (hcell 1 (by decide))
  have x2 : w2.cell? ⟨b, off + 2, none⟩ = some (.int .u8 1) := (hb2.out.cell (World.block_lt_of_cell? _ _ (hcell 2 (by decide)))).trans (hcell 2 (by decide))
  have HB2 := Lib.hid (HB1.out.trans (hb2.out.mono HB1.out.size))
  clear hb2 hcell HR1 HB1
  go_wp2_with fail
  go_ret
  exact ⟨rfl, HB2⟩
end Go.Proofs.YtncfehjpkcjflaaGreatDoor
namespace Go.Proofs.YtncfehjpkcjflaaGreatDoor
open Go.RowKit Dg Cr
set_option maxRecDepth 100000
set_option linter.unusedVariables false
namespace B7
theorem takeF_put (l : List Nat) (h : ∀ x ∈ l, x < 256) : takeF (l ++ le4 (sum l)) = (l, 0) := by
  have hl : (l ++ le4 (sum l)).length = l.length + 4 := by rw [List.length_append, le4_len]
  have h1 : (l ++ le4 (sum l)).take ((l ++ le4 (sum l)).length - 4) = l := by rw [hl, show l.length + 4 - 4 = l.length by omega]; exact List.take_left
  have hb : ∀ x ∈ l ++ le4 (sum l), x < 256 := by
    intro x hx
    rcases List.mem_append.1 hx with hx | hx
    · exact h x hx
    · exact le4_byte _ (sum_lt l h) x hx
  have hs := (take_stands (l ++ le4 (sum l)) hb (by omega)).1 (by rw [h1])
  unfold takeF
  rw [if_neg (by omega), if_pos hs, h1]
theorem OutO.full {w w' : World} {l : List Nat} {e : Ending} (h : OutO w l e w') : ∃ A n c, e = .returned (.slice A n c) ∧ Hid (Str w l A n w') ∧ n ≤ c ∧ c ≤ maxLen ∧ Hid (A = none → c = 0) := by
  obtain ⟨v, he, ho, hb⟩ := h
  rcases ho.2 with ⟨hv, hn⟩ | ⟨g, cap, cur, hv, _, hh, hc, hm, _, ht⟩
  · obtain rfl := List.eq_nil_of_length_eq_zero hn
    have hs : Str w [] none 0 w' := ⟨rfl, Rd.nil _ _, hb⟩
    exact ⟨none, 0, 0, by rw [he, hv], hs, Nat.le_refl _, Nat.zero_le _, fun _ => rfl⟩
  · subst hv
    have hr : Rd w' (some ⟨g, 0, none⟩) l := Rd.of_has (t := 5) (cs := cur) hh fun i hi => by
      have h1 : (l.map bv)[i]? = some (bv l[i]) := by simp [hi]
      rw [← ht, List.getElem?_take, if_pos (by omega)] at h1
      simpa using h1
    have hs : Str w l (some ⟨g, 0, none⟩) l.length w' := ⟨rfl, hr, hb⟩
    exact ⟨_, _, _, he, hs, hc, hm, fun e => by cases e⟩
set_option maxHeartbeats 400000 in
theorem few100_any (A : Option Addr) (n c : Nat) (w : World) (hn : n ≤ c) (hc : c ≤ maxLen) :
    Calls Tryz.prog 13 #[.slice A n c, .int .i64 100] w fun e w' => e = .returned (.slice A (min n 100) c) ∧ w = w' := by
  unfold maxLen at hc
  by_cases h : 100 < n
  · have e : min n 100 = 100 := by omega
    rw [e]
    go_enter Tryz.func13, Tryz.ntmps13
    go_wp2_with fail
    go_ret
    exact ⟨rfl, rfl⟩
  · have e : min n 100 = n := by omega
    rw [e]
    go_enter Tryz.func13, Tryz.ntmps13
    go_wp2_with fail
    go_ret
    exact ⟨rfl, rfl⟩
set_option maxHeartbeats 400000 in
theorem few60_any (A : Option Addr) (n c : Nat) (w : World) (hn : n ≤ c) (hc : c ≤ maxLen) :
    Calls Tryz.prog 13 #[.slice A n c, .int .i64 60] w fun e w' => e = .returned (.slice A (min n 60) c) ∧ w = w' := by
  unfold maxLen at hc
  by_cases h : 60 < n
  · have e : min n 60 = 60 := by omega
    rw [e]
    go_enter Tryz.func13, Tryz.ntmps13
    go_wp2_with fail
    go_ret
    exact ⟨rfl, rfl⟩
  · have e : min n 60 = n := by omega
    rw [e]
    go_enter Tryz.func13, Tryz.ntmps13
    go_wp2_with fail
    go_ret
    exact ⟨rfl, rfl⟩
/-- Bytes that came in, the first of them: all that a law's walk asks of them. -/
structure Came (most : Nat) (w : World) (a : Option Addr) (len cap : Nat) (m : Nat) (l : List Nat) : Prop where
  few : ∀ W, Calls Tryz.prog 13 #[.slice a len cap, .int .i64 most] W fun e w' => e = .returned (.slice a m cap) ∧ W = w'
  len_ : l.length = m
  bytes : ∀ x ∈ l, x < 256
  rd : Rd w a l
  nil_ : a = none → cap = 0
  cap_ : cap ≤ maxLen
theorem came100 {w : World} {a : Option Addr} {len cap : Nat} {l : List Nat} (hl : l.length = len) (hc : len ≤ cap) (hm : cap ≤ maxLen) (hb : ∀ x ∈ l, x < 256) (hr : Rd w a l) (hz : a = none → cap = 0) : ∃ m l', Came 100 w a len cap m l' ∧ m ≤ 100 ∧ m ≤ cap :=
  ⟨min len 100, l.take (min len 100), ⟨fun W => few100_any a len cap W hc hm, by rw [List.length_take]; omega, fun x hx => hb x (List.mem_of_mem_take hx), hr.take _, hz, hm⟩, by omega, by omega⟩
theorem came60 {w : World} {a : Option Addr} {len cap : Nat} {l : List Nat} (hl : l.length = len) (hc : len ≤ cap) (hm : cap ≤ maxLen) (hb : ∀ x ∈ l, x < 256) (hr : Rd w a l) (hz : a = none → cap = 0) : ∃ m l', Came 60 w a len cap m l' ∧ m ≤ 60 ∧ m ≤ cap :=
  ⟨min len 60, l.take (min len 60), ⟨fun W => few60_any a len cap W hc hm, by rw [List.length_take]; omega, fun x hx => hb x (List.mem_of_mem_take hx), hr.take _, hz, hm⟩, by omega, by omega⟩
set_option maxHeartbeats 1000000 in
/-- The document's frame of a body. -/
theorem ref7_any (A' : Option Addr) (m : List Nat) (k d : Nat) (w : World) (hk : m.length = k) (hkb : k ≤ 200) (hm : ∀ x ∈ m, x < 256) (hA' : Rd w A' m) (h0' : A' = none → d = 0) :
    Calls Tryz.prog 15 #[.slice A' k d] w (OutO w (digs k ++ m ++ le4 (sum m))) := by
  have HN := Lib.hid (refNumber_any k w (by omega))
  have HA := Lib.hid hA'
  have ht := digs_le_ten k (by omega)
  clear hA'
  go_enter Tryz.func15, Tryz.ntmps15
  go_wp2_with fail
  refine HN.out.mono ?_
  intro e w1 ho
  obtain ⟨A1, n1, c1, rfl, S1, hc1, hm1, hz1⟩ := OutO.full ho
  have HP := Lib.hid (refPut_any A1 (digs k) n1 c1 A' m k d w1 S1.out.1 hk (by have := S1.out.1; omega) hm S1.out.2.1 (HA.out.below S1.out.2.2) hz1.out h0')
  have HB := Lib.hid S1.out.2.2
  clear ho S1 hz1 HN HA h0'
  go_wp2_with fail
  refine HP.out.mono ?_
  intro e w2 ho
  obtain ⟨v, rfl, hO, hB⟩ := ho
  have HO := Lib.hid (World.ownsRow.mono (show World.ownsRow _ _ _ _ _ _ _ from hO) HB.out.size)
  have HB2 := Lib.hid (HB.out.trans (hB.mono HB.out.size))
  clear hO hB
  go_wp2_with fail
  go_ret
  refine ⟨_, rfl, ?_, HB2.out⟩
  exact HO.out
theorem own_below {B : Nat} {w w' : World} {v : Value} {l : List Nat} (h : Own B w v l) (hb : Below w.heap.size w w') : Own B w' v l := by
  obtain ⟨h1, h2⟩ := h
  refine ⟨h1, ?_⟩
  rcases h2 with h2 | ⟨g, cap, cur, e, hg, hh, r⟩
  · exact .inl h2
  · exact .inr ⟨g, cap, cur, e, hg, (hb.block g (by exact (Array.getElem?_eq_some_iff.1 hh).1)).trans hh, r⟩
/-- Bytes, of which those from place k on, i of them, are changed by those of a number. -/
def T (c : List Nat) (k v i : Nat) : List Nat := c.mapIdx (fun j x => if k ≤ j ∧ j < k + i then x ^^^ v / 2 ^ (8 * (j - k)) % 256 else x)
theorem T_len (c : List Nat) (k v i : Nat) : (T c k v i).length = c.length := by unfold T; rw [List.length_mapIdx]
theorem T_get (c : List Nat) (k v i j : Nat) (h : j < (T c k v i).length) (h' : j < c.length) : (T c k v i)[j] = if k ≤ j ∧ j < k + i then c[j] ^^^ v / 2 ^ (8 * (j - k)) % 256 else c[j] := by
  have e : (T c k v i)[j]? = c[j]?.map (fun x => if k ≤ j ∧ j < k + i then x ^^^ v / 2 ^ (8 * (j - k)) % 256 else x) := by unfold T; rw [List.getElem?_mapIdx]
  rw [List.getElem?_eq_getElem h, List.getElem?_eq_getElem h'] at e
  simpa using e
theorem T_zero (c : List Nat) (k v : Nat) : T c k v 0 = c := by
  apply List.ext_getElem (T_len _ _ _ _)
  intro j h1 h2
  rw [T_get c k v 0 j h1 h2, if_neg (by omega)]
theorem T_succ (c : List Nat) (k v i : Nat) (h : k + i < (T c k v i).length) : T c k v (i + 1) = (T c k v i).set (k + i) ((T c k v i)[k + i] ^^^ v / 2 ^ (8 * i) % 256) := by
  have hc : k + i < c.length := by rw [T_len] at h; exact h
  apply List.ext_getElem (by rw [List.length_set, T_len, T_len])
  intro j h1 h2
  have hj : j < c.length := by rw [T_len] at h1; exact h1
  rw [T_get c k v (i + 1) j h1 hj, List.getElem_set]
  by_cases e : k + i = j
  · subst e
    rw [if_pos rfl, if_pos (by omega), T_get c k v i (k + i) h hc, if_neg (by omega), show k + i - k = i by omega]
  · rw [if_neg e, T_get c k v i j (by rw [T_len]; exact hj) hj]
    by_cases h3 : k ≤ j ∧ j < k + i
    · rw [if_pos h3, if_pos (by omega)]
    · rw [if_neg h3, if_neg (by omega)]
theorem T_byte (c : List Nat) (k v i : Nat) (h : ∀ x ∈ c, x < 256) : ∀ x ∈ T c k v i, x < 256 := by
  intro x hx
  obtain ⟨j, hj, rfl⟩ := List.getElem_of_mem hx
  have hc : j < c.length := by rw [T_len] at hj; exact hj
  have hb := h _ (List.getElem_mem hc)
  rw [T_get c k v i j hj hc]
  split
  · exact Nat.xor_lt_two_pow (n := 8) hb (Nat.mod_lt _ (by omega))
  · exact hb
theorem le4_get (v i : Nat) (hi : i < (le4 v).length) (hv : v < 4294967296) : (le4 v)[i] = v / 2 ^ (8 * i) % 256 := by
  have h : i = 0 ∨ i = 1 ∨ i = 2 ∨ i = 3 := by rw [le4_len] at hi; omega
  rcases h with rfl | rfl | rfl | rfl <;> simp [le4]
  omega
theorem burst_get (n k v j : Nat) (hk : k ≤ n) (hv : v < 4294967296) (hj : j < n + 4) : (burst n k v)[j]? = some (if k ≤ j ∧ j < k + 4 then v / 2 ^ (8 * (j - k)) % 256 else 0) := by
  have l1 : (List.replicate k 0 ++ le4 v).length = k + 4 := by rw [List.length_append, List.length_replicate, le4_len]
  unfold burst
  by_cases h1 : j < k
  · rw [if_neg (by omega), List.getElem?_append_left (by omega), List.getElem?_append_left (by rw [List.length_replicate]; exact h1), List.getElem?_replicate, if_pos h1]
  · by_cases h2 : j < k + 4
    · rw [if_pos (by omega), List.getElem?_append_left (by omega), List.getElem?_append_right (by rw [List.length_replicate]; omega), List.length_replicate, List.getElem?_eq_getElem (by rw [le4_len]; omega)]
      rw [le4_get v (j - k) (by rw [le4_len]; omega) hv]
    · rw [if_neg (by omega), List.getElem?_append_right (by omega), l1, List.getElem?_replicate, if_pos (by omega)]
theorem T_end (c : List Nat) (n k v : Nat) (hc : c.length = n + 4) (hk : k ≤ n) (hv : v < 4294967296) : T c k v 4 = xl c (burst n k v) := by
  have hb := burst_len n k v hk
  apply List.ext_getElem?
  intro j
  by_cases hj : j < n + 4
  · have h1 : (xl c (burst n k v))[j]? = some (c[j] ^^^ (if k ≤ j ∧ j < k + 4 then v / 2 ^ (8 * (j - k)) % 256 else 0)) := by
      unfold xl
      rw [List.getElem?_zipWith, burst_get n k v j hk hv hj, List.getElem?_eq_getElem (by omega)]
    have ht : j < (T c k v 4).length := by rw [T_len]; omega
    rw [h1, List.getElem?_eq_getElem ht, T_get c k v 4 j ht (by omega)]
    split
    · rfl
    · rw [Nat.xor_zero]
  · rw [List.getElem?_eq_none (by rw [T_len]; omega), List.getElem?_eq_none (by unfold xl; rw [List.length_zipWith]; omega)]
/-- What is taken of bytes with their check of which a burst is changed. -/
theorem take_burst (l : List Nat) (n k v : Nat) (hn : l.length = n) (hl : ∀ x ∈ l, x < 256) (hk : k ≤ n) (hv : v < 4294967296) (h0 : v ≠ 0) : takeF (T (l ++ le4 (sum l)) k v 4) = ([], 3) := by
  have hc : (l ++ le4 (sum l)).length = n + 4 := by rw [List.length_append, le4_len, hn]
  have hbc : ∀ x ∈ l ++ le4 (sum l), x < 256 := by
    intro x hx
    rcases List.mem_append.1 hx with hx | hx
    · exact hl x hx
    · exact le4_byte _ (sum_lt l hl) x hx
  have hb := T_byte (l ++ le4 (sum l)) k v 4 hbc
  have hlen : (T (l ++ le4 (sum l)) k v 4).length = n + 4 := by rw [T_len, hc]
  have he := T_end (l ++ le4 (sum l)) n k v hc hk hv
  generalize T (l ++ le4 (sum l)) k v 4 = t at *
  have hd : (t.drop n).length = 4 := by rw [List.length_drop]; omega
  obtain ⟨h1, h2⟩ := le4_un4 (t.drop n) hd (fun x hx => hb x (List.mem_of_mem_drop hx))
  have hs := burst_seen l k v hl (by omega) hv h0 (t.take n) (un4 (t.drop n)) (fun x hx => hb x (List.mem_of_mem_take hx)) h2 (by rw [h1, List.take_append_drop, he, hn])
  unfold takeF
  rw [if_neg (by omega), hlen, show n + 4 - 4 = n by omega, if_neg hs]
/-- A store into a row of the call's own. -/
theorem own_set {B : Nat} {w : World} {g n c : Nat} {l : List Nat} (h : Own B w (.slice (some ⟨g, 0, none⟩) n c) l) (i y : Nat) (_ : i < l.length) : Own B (w.setCell ⟨g, i, none⟩ (.int .u8 (y : Nat))) (.slice (some ⟨g, 0, none⟩) n c) (l.set i y) := by
  obtain ⟨h1, h2⟩ := h
  rcases h2 with ⟨h2, _⟩ | ⟨g', cap, cur, e, hg, hh, hc, hm, hs, ht⟩
  · cases h2
  · injection e with e1 e2 e3
    injection e1 with e1
    injection e1 with e1
    subst e1; subst e2; subst e3
    refine ⟨by rw [List.length_set, ← h1]; simp, .inr ⟨g, c, cur.setIfInBounds i (.int .u8 (y : Nat)), by rw [List.length_set], hg, heap_setCell_same w g i cur 5 _ hh, by rw [List.length_set]; exact hc, hm, by simpa using hs, ?_⟩⟩
    rw [List.length_set]
    have hb : bv y = Value.int .u8 (y : Nat) := rfl
    rw [List.map_set, ← ht, hb, Array.toList_setIfInBounds, List.take_set]
theorem own_cell {B : Nat} {w : World} {g n c : Nat} {l : List Nat} (h : Own B w (.slice (some ⟨g, 0, none⟩) n c) l) (i : Nat) (hi : i < l.length) : w.cell? ⟨g, i, none⟩ = some (.int .u8 (l[i] : Nat)) ∧ w.frozen? ⟨g, i, none⟩ = false := by
  obtain ⟨h1, h2⟩ := h
  rcases h2 with ⟨h2, _⟩ | ⟨g', cap, cur, e, hg, hh, hc, hm, hs, ht⟩
  · cases h2
  · injection e with e1 e2 e3
    injection e1 with e1
    injection e1 with e1
    subst e1
    refine ⟨?_, frozen_of_row w g i cur 5 hh⟩
    rw [cell_of_row w g i cur 5 _ hh]
    have h1 : (l.map bv)[i]? = some (bv l[i]) := by simp [hi]
    rw [← ht, List.getElem?_take, if_pos (by omega)] at h1
    simpa [bv] using h1
end B7
end Go.Proofs.YtncfehjpkcjflaaGreatDoor
namespace Go.Proofs.YtncfehjpkcjflaaGreatDoor.binlogFrames
open Go.RowKit Dg Cr B7
set_option linter.unusedVariables false
theorem next_put (l q more : List Nat) (k : Nat) (hk : q.length = k) (hb : k ≤ 100) (hq : ∀ x ∈ q, x < 256) : nextF (l ++ digs k ++ q ++ le4 (sum q) ++ more) l.length = (q, (l ++ digs k ++ q ++ le4 (sum q)).length, 0) := by
  have e : (l ++ digs k ++ q ++ le4 (sum q) ++ more).drop l.length = digs k ++ (q ++ le4 (sum q)) ++ more := by
    rw [show l ++ digs k ++ q ++ le4 (sum q) ++ more = l ++ (digs k ++ (q ++ le4 (sum q)) ++ more) by simp only [List.append_assoc]]
    exact List.drop_left
  have hf := firstF_at k (q ++ le4 (sum q)) more (by omega) (by rw [List.length_append, le4_len, hk])
  rw [takeF_put q hq] at hf
  unfold nextF
  rw [e, hf, if_neg (by simp)]
  simp only [List.length_append, le4_len, hk]
  exact congrArg (fun x => (q, x, 0)) (by omega)
set_option maxHeartbeats 4000000 in
set_option maxRecDepth 100000 in
theorem walk (a0 : Option Addr) (len0 cap0 : Nat) (B0 : List Nat) (a1 : Option Addr) (len1 cap1 : Nat) (B1 : List Nat) (a2 : Option Addr) (len2 cap2 : Nat) (B2 : List Nat) (W : World)
    (hl0 : B0.length = len0) (hc0 : len0 ≤ cap0) (hm0 : cap0 ≤ maxLen) (hb0 : ∀ x ∈ B0, x < 256) (hr0 : Rd W a0 B0) (hz0 : a0 = none → cap0 = 0)
    (hl1 : B1.length = len1) (hc1 : len1 ≤ cap1) (hm1 : cap1 ≤ maxLen) (hb1 : ∀ x ∈ B1, x < 256) (hr1 : Rd W a1 B1) (hz1 : a1 = none → cap1 = 0)
    (hl2 : B2.length = len2) (hc2 : len2 ≤ cap2) (hm2 : cap2 ≤ maxLen) (hb2 : ∀ x ∈ B2, x < 256) (hr2 : Rd W a2 B2) (hz2 : a2 = none → cap2 = 0) :
    Calls Tryz.prog 3 #[.slice a0 len0 cap0, .slice a1 len1 cap1, .slice a2 len2 cap2] W fun e w' => e = .returned (.bool true) ∧ Below W.heap.size W w' := by
  obtain ⟨m, l, came, hm, hmc⟩ := came100 hl0 hc0 hm0 hb0 hr0 hz0
  obtain ⟨n, q, came', hn, hnc⟩ := came100 hl1 hc1 hm1 hb1 hr1 hz1
  obtain ⟨n2, r, came2, hn2, hnc2⟩ := came100 hl2 hc2 hm2 hb2 hr2 hz2
  clear hl0 hc0 hm0 hb0 hr0 hz0 hl1 hc1 hm1 hb1 hr1 hz1 hl2 hc2 hm2 hb2 hr2 hz2
  have HC := Lib.hid came
  have HC' := Lib.hid came'
  have HC2 := Lib.hid came2
  clear came came' came2
  go_enter Tryz.func3, Tryz.ntmps3
  go_wp2_with fail
  refine (HC.out.few _).mono ?_
  rintro e w1 ⟨rfl, rfl⟩
  go_wp2_with fail
  refine (HC'.out.few _).mono ?_
  rintro e w1 ⟨rfl, rfl⟩
  go_wp2_with fail
  refine (frame_any a0 l m cap0 a1 q n cap1 _ HC.out.len_ hmc (by omega) HC.out.rd HC'.out.len_ (by omega) HC'.out.bytes HC'.out.rd HC'.out.nil_).mono ?_
  intro e w1 ho
  obtain ⟨v1, rfl, hO, hB⟩ := ho
  obtain ⟨A1, c1, hv, hc1, hm1, hr1, hz1⟩ := own7 hO
  subst hv
  have HO := Lib.hid hO
  have HB1 := Lib.hid hB
  have HR1 := Lib.hid hr1
  clear hO hB hr1
  have hd := digs_le_ten n (by omega)
  have HN := Lib.hid (next_put l q r n HC'.out.len_ hn HC'.out.bytes)
  have HBY : Hid (∀ x ∈ l ++ digs n ++ q ++ le4 (sum q) ++ r, x < 256) := by
    intro x hx
    rcases List.mem_append.1 hx with hx | hx
    · rcases List.mem_append.1 hx with hx | hx
      · rcases List.mem_append.1 hx with hx | hx
        · rcases List.mem_append.1 hx with hx | hx
          · exact HC.out.bytes x hx
          · exact digs_byte n x hx
        · exact HC'.out.bytes x hx
      · exact le4_byte _ (sum_lt q HC'.out.bytes) x hx
    · exact HC2.out.bytes x hx
  obtain ⟨K, hK⟩ : ∃ K, (l ++ digs n ++ q ++ le4 (sum q)).length = K := ⟨_, rfl⟩
  have hK2 : K ≤ 300 := by rw [← hK]; simp only [List.length_append, le4_len, HC.out.len_, HC'.out.len_]; omega
  have HK := Lib.hid hK
  rw [hK] at HN hc1 ⊢
  clear hK
  obtain ⟨sl, hsl⟩ : ∃ s, bs l = s := ⟨_, rfl⟩
  obtain ⟨sq, hsq⟩ : ∃ s, bs (digs n ++ q ++ le4 (sum q)) = s := ⟨_, rfl⟩
  have HSP : Hid (bs (l ++ digs n ++ q ++ le4 (sum q)) = sl ++ sq) := by show _ = _; rw [← hsq, ← hsl, ← bs_append]; simp only [List.append_assoc]
  have hs1 : sl.size ≤ 100 := by rw [← hsl, bs_size, HC.out.len_]; exact hm
  have hs2 : sq.size ≤ 300 := by rw [← hsq, bs_size]; simp only [List.length_append, le4_len, HC'.out.len_]; omega
  have HSL := Lib.hid hsl
  have HSQ := Lib.hid hsq
  clear hsl hsq
  have cC0 : Sem.run Tryz.prog (convert 22 9 (.slice A1 K c1)) w1.drew = .ok (.string (sl ++ sq)) w1.drew := by rw [conv_len w1.drew A1 _ K c1 HK.out (HR1.out.below (Below.refl _ w1).drew), HSP.out]
  have cB0 : Sem.run Tryz.prog (convert 22 9 (.slice a0 m cap0)) w1.drew = .ok (.string sl) w1.drew := by rw [conv_len w1.drew a0 l m cap0 HC.out.len_ (HC.out.rd.below HB1.out.drew), HSL.out]
  go_wp2_with fail
  go_cut [26] (fun s26 wx => s26 = Go.Value.bool false ∧ Hid (Below w1.heap.size w1 wx))
  case' first =>
    go_region_with (first
      | (go_at_call 15; refine (ref7_any a1 q n cap1 _ HC'.out.len_ (by omega) HC'.out.bytes (HC'.out.rd.below HB1.out.drew) HC'.out.nil_).mono ?_; intro e x1 ho; obtain ⟨A4, n4, c4, rfl, eq4, S4⟩ := ho.str; rw [HSQ.out] at eq4; clear ho; have bb := (Below.refl _ w1).drew.trans S4.out.2.2; have cC1 : Sem.run Tryz.prog (convert 22 9 (.slice A1 K c1)) x1 = .ok (.string (sl ++ sq)) x1 := (by rw [conv_len x1 A1 _ K c1 HK.out (HR1.out.below bb), HSP.out]); have cB1 : Sem.run Tryz.prog (convert 22 9 (.slice a0 m cap0)) x1 = .ok (.string sl) x1 := (by rw [conv_len x1 a0 l m cap0 HC.out.len_ (HC.out.rd.below (HB1.out.trans (bb.mono HB1.out.size))), HSL.out]); have HOX := Lib.hid bb; clear bb))
    all_goals (go_wp2_with fail)
    all_goals go_meet
    all_goals exact ⟨rfl, HOX⟩
  case rest =>
    obtain ⟨rfl, HX⟩ := hcut
    clear cC0 cB0 HSP HSL HSQ hs1 hs2
    have hox := own_below HO.out HX.out
    rw [HK.out] at hox
    have HOX := Lib.hid hox
    clear hox
    have HBX := Lib.hid (HB1.out.trans (HX.out.mono HB1.out.size))
    clear HO HB1 HR1 HX
    go_wp2_with fail
    refine (HC2.out.few _).mono ?_
    rintro e w2 ⟨rfl, rfl⟩
    go_wp2_with (at_builtin; refine wpList_app rfl _ _ 22 22 rfl (.slice A1 K c1) (.slice a2 n2 cap2) rfl rfl ?_; obtain ⟨R, W', hrun, hown, hbel⟩ := own_app wc W.heap.size _ _ HOX.out HBX.out.size a2 r n2 cap2 HC2.out.len_ (HC2.out.rd.below HBX.out) (by rw [HK.out]; omega) HC2.out.nil_; refine ⟨R, W', hrun, ?_⟩; have HO2 := Lib.hid hown; have HB2 := Lib.hid (HBX.out.trans hbel); clear hrun hown hbel)
    obtain ⟨A2, c2, hv, hc2, hm2, hr2, hz2⟩ := own7 HO2.out
    subst hv
    have HR2 := Lib.hid hr2
    clear hr2 HO2 HOX HBX
    obtain ⟨K2, hK2'⟩ : ∃ K2, (l ++ digs n ++ q ++ le4 (sum q) ++ r).length = K2 := ⟨_, rfl⟩
    have hK3 : K2 ≤ 400 := by rw [← hK2', List.length_append, HK.out, HC2.out.len_]; omega
    have hmK : m ≤ K2 := by rw [← hK2', ← HC.out.len_]; simp only [List.length_append]; omega
    have HK2 := Lib.hid hK2'
    rw [hK2'] at hc2 ⊢
    clear hK2'
    have hNX := HN.out
    rw [HC.out.len_] at hNX
    have HNX := Lib.hid (next_any A2 _ K2 c2 m W' HK2.out hc2 hm2 (by omega) HBY.out HR2.out hz2 hmK)
    rw [hNX] at HNX
    clear hNX HN
    go_wp2_with fail
    refine HNX.out.mono ?_
    rintro e w5 ⟨A5, n5, c5, rfl, N5, hn5, R5, B5⟩
    obtain rfl : n = n5 := HC'.out.len_.symm.trans N5.out
    have HB5 := Lib.hid (HB2.out.trans (B5.out.mono HB2.out.size))
    have HL := Lib.hid (fun w => livesB_any w)
    have cC5 : Sem.run Tryz.prog (convert 22 9 (.slice A5 n c5)) w5.drew = .ok (.string (bs q)) w5.drew := conv_len w5.drew A5 q n c5 N5.out (R5.out.below (Below.refl _ w5).drew)
    have cB5 : Sem.run Tryz.prog (convert 22 9 (.slice a1 n cap1)) w5.drew = .ok (.string (bs q)) w5.drew := conv_len w5.drew a1 q n cap1 HC'.out.len_ (HC'.out.rd.below HB5.out.drew)
    have cC6 : Sem.run Tryz.prog (convert 22 9 (.slice A5 n c5)) w5 = .ok (.string (bs q)) w5 := conv_len w5 A5 q n c5 N5.out R5.out
    have cB6 : Sem.run Tryz.prog (convert 22 9 (.slice a1 n cap1)) w5 = .ok (.string (bs q)) w5 := conv_len w5 a1 q n cap1 HC'.out.len_ (HC'.out.rd.below HB5.out)
    clear B5 HB2 HNX
    go_wp2_with fail
    refine (HL.out _).mono ?_
    rintro e w6 ⟨rfl, B6⟩
    go_wp2_with fail
    go_ret
    exact ⟨rfl, HB5.out.trans (B6.out.mono HB5.out.size)⟩
end Go.Proofs.YtncfehjpkcjflaaGreatDoor.binlogFrames
namespace Go.Proofs.YtncfehjpkcjflaaGreatDoor
open Go.ChangeShapes Go.WideShapes Go.RowKit Go.Joins Go.Deep Go.Lib
set_option maxRecDepth 100000
theorem own : ownKnob Tryz.prog.godebug = none := by kernel_rfl
theorem laidOut : laidOutB Tryz.prog = true := by kernel_rfl
/-- What a row of this seat lists. -/
def listed : List (String × DataW Unit) := [("unicode/utf8.acceptRanges", Rows.laid_unicode_utf8_acceptRanges), ("unicode/utf8.first", Rows.laid_unicode_utf8_first)]
section
variable {H : Type} {enc : TypeId × Value → H} {w : World} {base : Nat} {spare : Nat → Bool} {held : Bool}
theorem bytes_in {r : Reach} {b0 : Nat} {v : Value} {d : DataW H} {p : List MemPlace} (hv : Value.okWide Tryz.prog w r b0 22 v) (h : DataW.Trod enc Tryz.prog w base spare held 22 v d p) :
    ∃ (A : Option Addr) (len cap : Nat) (l : List Nat), v = .slice A len cap ∧ l.length = len ∧ len ≤ cap ∧ cap ≤ maxLen ∧ (∀ x ∈ l, x < 256) ∧ Rd w A l ∧ (A = none → cap = 0) := by
  obtain ⟨a, l0, c0, rfl⟩ := okWide_slice Tryz.underlying22 hv
  obtain ⟨fuel, hf⟩ := h
  rcases open_ints Tryz.underlying22 Tryz.underlying5 (by kernel_rfl) hf with ⟨hcs, _⟩ | ⟨x, len, cap, zs, hcs, _, h1, h2, hz, _, hc, hw⟩
  · simp [Value.cells] at hcs
    obtain ⟨rfl, rfl, rfl⟩ := hcs
    exact ⟨none, 0, 0, [], rfl, rfl, Nat.le_refl _, Nat.zero_le _, fun _ h => (by cases h), Rd.nil _ _, fun _ => rfl⟩
  · simp [Value.cells] at hcs
    obtain ⟨rfl, rfl, rfl⟩ := hcs
    have h3 : l0 ≤ zs.length := by
      rw [show zs.length = _ by simpa using hz]
      first | exact h1 | (split <;> omega)
    have hb : ∀ i, i < zs.length → 0 ≤ zs.getD i 0 ∧ zs.getD i 0 ≤ 255 := fun i hi => by
      have := hw (zs.getD i 0) (by rw [List.getD_eq_getElem?_getD, List.getElem?_eq_getElem hi]; exact List.getElem_mem hi)
      exact bounds_u8 this
    refine ⟨some x, l0, c0, (zs.take l0).map Int.toNat, rfl, by rw [List.length_map, List.length_take]; omega, h1, h2, ?_, fun hl => ?_, fun e => by cases e⟩
    · intro y hy
      obtain ⟨z, hz, rfl⟩ := List.mem_map.1 hy
      have := bounds_u8 (hw z (List.mem_of_mem_take hz))
      omega
    · have hp : 0 < zs.length := by
        rcases zs with _ | ⟨z, zs⟩
        · simp at hl
        · simp
      obtain ⟨b, off, rfl, hc'⟩ := ints_at hc hp
      refine ⟨b, off, rfl, fun i hi => ?_⟩
      rw [List.length_map, List.length_take] at hi
      rw [hc' i (by omega)]
      have h0 := hb i (by omega)
      have e : zs.getD i 0 = zs[i]'(by omega) := by rw [List.getD_eq_getElem?_getD, List.getElem?_eq_getElem (by omega)]; rfl
      rw [e] at h0 ⊢
      simp only [bv, List.getElem_map, List.getElem_take, Option.some.injEq, Value.int.injEq, true_and]
      omega
end
end Go.Proofs.YtncfehjpkcjflaaGreatDoor
namespace Go.Proofs.YtncfehjpkcjflaaGreatDoor.binlogBursts
open Go.RowKit Dg Cr B7
set_option linter.unusedVariables false
theorem T_cons (x : Nat) (c : List Nat) (k v i : Nat) : T (x :: c) (k + 1) v i = x :: T c k v i := by
  apply List.ext_getElem (by rw [T_len, List.length_cons, List.length_cons, T_len])
  intro j h1 h2
  have hj : j < (x :: c).length := by rw [T_len] at h1; exact h1
  rw [T_get _ _ _ _ _ h1 hj]
  cases j with
  | zero => rw [if_neg (by omega)]; rfl
  | succ j =>
    have hj' : j < c.length := by rw [List.length_cons] at hj; omega
    simp only [List.getElem_cons_succ]
    rw [T_get c k v i j (by rw [T_len]; exact hj') hj']
    by_cases h : k ≤ j ∧ j < k + i
    · rw [if_pos h, if_pos (by omega), show j + 1 - (k + 1) = j - k by omega]
    · rw [if_neg h, if_neg (by omega)]
theorem next_burst (l : List Nat) (n k v : Nat) (hn : l.length = n) (hb : n ≤ 60) (hl : ∀ x ∈ l, x < 256) (hk : k ≤ n) (hv : v < 4294967296) (h0 : v ≠ 0) : nextF (T (n :: (l ++ le4 (sum l))) (1 + k) v 4) 0 = ([], 0, 3) := by
  have ht := take_burst l n k v hn hl hk hv h0
  have hf := firstF_at n (T (l ++ le4 (sum l)) k v 4) [] (by omega) (by rw [T_len, List.length_append, le4_len, hn])
  rw [ht, if_pos (by simp), digs_lt (by omega)] at hf
  dsimp only at hf
  rw [Nat.add_comm 1 k, T_cons]
  unfold nextF
  rw [List.drop_zero, show n :: T (l ++ le4 (sum l)) k v 4 = [n] ++ T (l ++ le4 (sum l)) k v 4 ++ [] by simp, hf]
  rfl
set_option maxHeartbeats 4000000 in
set_option maxRecDepth 100000 in
theorem walk (a0 : Option Addr) (len0 cap0 : Nat) (B0 : List Nat) (a1 a2 : Int) (W : World)
    (hl0 : B0.length = len0) (hc0 : len0 ≤ cap0) (hm0 : cap0 ≤ maxLen) (hb0 : ∀ x ∈ B0, x < 256) (hr0 : Rd W a0 B0) (hz0 : a0 = none → cap0 = 0)
    (u0 : -9223372036854775808 ≤ a1) (u1 : a1 ≤ 9223372036854775807) (_ : -9223372036854775808 ≤ a2) (_ : a2 ≤ 9223372036854775807) :
    Calls Tryz.prog 4 #[.slice a0 len0 cap0, .int .i64 a1, .int .i64 a2] W fun e w' => e = .returned (.bool true) ∧ Below W.heap.size W w' := by
  obtain ⟨n, l, came, hm, hmc⟩ := came60 hl0 hc0 hm0 hb0 hr0 hz0
  clear hl0 hc0 hm0 hb0 hr0 hz0
  have HC := Lib.hid came
  have HL := Lib.hid (fun w => livesB_any w)
  clear came
  obtain ⟨p, ep⟩ : ∃ p : Nat, (if a1 < 0 then -(a1 + 1) else a1) = (p : Int) := ⟨(if a1 < 0 then -(a1 + 1) else a1).toNat, by omega⟩
  have hp : (p : Int) ≤ 9223372036854775807 := by omega
  have EP := Lib.hid ep
  clear ep
  obtain ⟨k, hk⟩ : ∃ k, k = p % (n + 1) := ⟨_, rfl⟩
  have hkm : k ≤ n := by have := Nat.mod_lt p (show 0 < n + 1 by omega); omega
  have HK : Hid ((p : Int) % ((n : Int) + 1) = (k : Int)) := by show _ = _; rw [hk]; rfl
  clear hk
  have hkb : 0 ≤ (p : Int) % ((n : Int) + 1) ∧ (p : Int) % ((n : Int) + 1) ≤ 60 := by rw [HK.out]; omega
  obtain ⟨v, hv⟩ : ∃ v : Nat, (v : Int) = a2 % 4294967296 := ⟨(a2 % 4294967296).toNat, by omega⟩
  have hv2 : v < 4294967296 := by omega
  have HV := Lib.hid hv
  clear hv
  go_enter Tryz.func4, Tryz.ntmps4
  go_wp2_with fail
  refine (HC.out.few _).mono ?_
  rintro e w1 ⟨rfl, rfl⟩
  go_wp2_with fail
  refine (frame_any none [] 0 0 a0 l n cap0 _ rfl (Nat.le_refl _) (by omega) (Rd.nil _ _) HC.out.len_ (by omega) HC.out.bytes HC.out.rd HC.out.nil_).mono ?_
  intro e w1 ho
  rw [List.nil_append, digs_lt (show n < 128 by omega), List.append_assoc, List.singleton_append] at ho
  obtain ⟨v1, rfl, hO, hB⟩ := ho
  obtain ⟨A1, c1, hv, hc1, hm1, hr1, hz1⟩ := own7 hO
  subst hv
  have hlen : (n :: (l ++ le4 (sum l))).length = n + 5 := by rw [List.length_cons, List.length_append, le4_len, HC.out.len_]
  rw [hlen] at hc1 ⊢
  have hbyte : ∀ x ∈ n :: (l ++ le4 (sum l)), x < 256 := by
    intro x hx
    rcases List.mem_cons.1 hx with rfl | hx
    · omega
    · rcases List.mem_append.1 hx with hx | hx
      · exact HC.out.bytes x hx
      · exact le4_byte _ (sum_lt l HC.out.bytes) x hx
  have HA := Lib.hid (own_app w1 W.heap.size (.slice none 0 0) [] (World.ownsRow_nil _ _ _ _) hB.size A1 (n :: (l ++ le4 (sum l))) (n + 5) c1 hlen hr1 (by simp; omega) hz1)
  have HB1 := Lib.hid hB
  have HLEN := Lib.hid hlen
  have HBB := Lib.hid hbyte
  unfold maxLen at hm1
  clear hO hB hr1 hlen hbyte hz1
  by_cases hv0 : v = 0
  · have hv0' : ((v : Int) == 0) = true := beq_iff_eq.2 (by omega)
    have hvz : a2 % 4294967296 = 0 := by rw [← HV.out, hv0]; rfl
    go_wp2_with fail
    refine (HL.out _).mono ?_
    rintro e w6 ⟨rfl, B6⟩
    go_wp2_with fail
    go_ret
    exact ⟨rfl, HB1.out.trans (B6.out.mono HB1.out.size)⟩
  · have hvn : ¬ a2 % 4294967296 = 0 := by rw [← HV.out]; omega
    have HTP := Lib.hid (next_burst l n k v HC.out.len_ hm HC.out.bytes hkm hv2 hv0)
    clear hv0
    have hq1 : decide ((n : Int) + 5 - n - 4 < 1) = false := decide_eq_false (by omega)
    have hq2 : (a2 % 4294967296 == 0) = false := beq_eq_false_iff_ne.2 hvn
    go_upto_if 40 with (fail)
    clear hq1 hq2
    go_cut [1, 8, 9] (fun s1 s8 s9 wx => s1 = .int .i64 p ∧ s8 = .int .i64 1 ∧ s9 = .int .u32 v ∧ w1 = wx)
    case first =>
      by_cases gn : a1 < 0
      · have E2 : Hid (-(a1 + 1) = (p : Int)) := by show _ = _; rw [← EP.out, if_pos gn]
        have hq : decide (a1 < 0) = true := decide_eq_true gn
        go_wp2_with fail
        go_meet
        exact ⟨by rw [← E2.out], by rw [show (n : Int) + 5 - n - 4 = 1 by omega], by rw [HV.out], rfl⟩
      · have E2 : Hid (a1 = (p : Int)) := by show _ = _; rw [← EP.out, if_neg gn]
        have hq : decide (a1 < 0) = false := decide_eq_false gn
        go_wp2_with fail
        go_meet
        exact ⟨by rw [← E2.out], by rw [show (n : Int) + 5 - n - 4 = 1 by omega], by rw [HV.out], rfl⟩
    case rest =>
      obtain ⟨rfl, rfl, rfl, rfl⟩ := hcut
      go_wp2_with (at_builtin; refine wpList_app rfl _ _ 22 22 rfl (.slice none 0 0) (.slice A1 (n + 5) c1) rfl rfl ?_; obtain ⟨R, W', hrun, hown, hbel⟩ := HA.out; refine ⟨R, W', hrun, ?_⟩; have HO2 := Lib.hid hown; have HB2 := Lib.hid (HB1.out.trans (hbel.mono (Nat.le_refl _))); clear hrun hown hbel HA)
      have hO2 := HO2.out
      rw [List.nil_append] at hO2
      obtain ⟨g, cap, hR, hg0, _⟩ := World.ownsRow.form (show World.ownsRow _ _ _ _ _ _ _ from hO2) (by rw [HLEN.out]; omega)
      rw [HLEN.out] at hR
      subst hR
      rw [← T_zero (n :: (l ++ le4 (sum l))) (1 + k) v] at hO2
      have HO3 := Lib.hid hO2
      rw [HK.out]
      clear hO2 HO2 HK
      go_wp2_with fail
      go_loopw [12] (fun i wr => ∃ j : Nat, j ≤ 4 ∧ i = .int .i64 j ∧ Hid (Own W.heap.size wr (.slice (some ⟨g, 0, none⟩) (n + 5) cap) (T (n :: (l ++ le4 (sum l))) (1 + k) v j)) ∧ Hid (Below W.heap.size W wr)) (fun i _ => 4 - (intOf i).toNat)
      case atStart => exact ⟨0, by omega, rfl, HO3, HB2⟩
      case round =>
        obtain ⟨j, hj, rfl, HO, HB⟩ := hrel
        clear HO3 HB2
        by_cases hlt : j < 4
        · have hkj : 1 + k + j < (T (n :: (l ++ le4 (sum l))) (1 + k) v j).length := by rw [T_len, HLEN.out]; omega
          obtain ⟨hcell, hfr⟩ := own_cell HO.out (1 + k + j) hkj
          have HS := Lib.hid (T_succ (n :: (l ++ le4 (sum l))) (1 + k) v j hkj)
          have hx : (T (n :: (l ++ le4 (sum l))) (1 + k) v j)[1 + k + j] < 256 := T_byte _ _ _ _ HBB.out _ (List.getElem_mem hkj)
          have HW := Lib.hid fun y => own_set HO.out (1 + k + j) y hkj
          have hbx : bits .xor .u8 ((T (n :: (l ++ le4 (sum l))) (1 + k) v j)[1 + k + j] : Nat) ((v : Int) / 2 ^ (8 * j) % 256) = (((T (n :: (l ++ le4 (sum l))) (1 + k) v j)[1 + k + j] ^^^ v / 2 ^ (8 * j) % 256 : Nat) : Int) := by
            have e : ((v : Int) / 2 ^ (8 * j) % 256) = ((v / 2 ^ (8 * j) % 256 : Nat) : Int) := by rw [Int.natCast_emod, Int.natCast_ediv, Int.natCast_pow]; rfl
            rw [e]
            exact u8_xor_nat _ _ hx (Nat.mod_lt _ (by omega))
          have HX := Lib.hid hbx
          clear hbx
          generalize (T (n :: (l ++ le4 (sum l))) (1 + k) v j)[1 + k + j] = x at *
          have s0 : IntKind.i64.wrap (1 + (k : Int) + j) = 1 + (k : Int) + j := by rw [IntKind.wrap_i64]; omega
          have s1 : (0 : Int) ≤ 1 + (k : Int) + j := by omega
          have s2 : (1 + (k : Int) + j).toNat = 1 + k + j := by omega
          have s3 : 1 + (k : Int) + j < (n : Int) + 5 := by omega
          have s4 : IntKind.i64.wrap (8 * (j : Int)) = 8 * (j : Int) := by rw [IntKind.wrap_i64]; omega
          have s5 : (0 : Int) ≤ 8 * (j : Int) := by omega
          have s6 : (8 * (j : Int)).toNat = 8 * j := by omega
          go_wp2_with fail
          go_still_tail 17, (by kernel_rfl)
          change wpList _ _ _ _ _ wr.drew
          go_wp2_with fail
          clear s0 s1 s2 s3 s4 s5 s6
          go_roundw
          case rel =>
            refine ⟨j + 1, by omega, by go_num, ?_, (HB.out.setCell hg0 _).drew⟩
            rw [HX.out, HS.out]
            exact HW.out _
          case measure => simp [intOf]; omega
        · obtain rfl : j = 4 := by omega
          have hbt := T_byte (n :: (l ++ le4 (sum l))) (1 + k) v 4 HBB.out
          have hlt4 : (T (n :: (l ++ le4 (sum l))) (1 + k) v 4).length = n + 5 := by rw [T_len, HLEN.out]
          obtain ⟨A3, c3, hv3, hc3, hm3, hr3, hn3⟩ := own7 HO.out
          rw [hlt4] at hv3 hc3
          injection hv3 with e1 e2 e3
          subst e1; subst e3
          have HT4 := Lib.hid (next_any (some ⟨g, 0, none⟩) _ (n + 5) cap 0 wr hlt4 hc3 hm3 (by omega) hbt hr3 hn3 (Nat.zero_le _))
          clear hbt hlt4 hc3 hm3 hr3 hn3 e2
          rw [HTP.out] at HT4
          go_wp2_with fail
          refine HT4.out.mono ?_
          rintro e w5 ⟨A5, n5, c5, rfl, N5, hn5, R5, B5⟩
          obtain rfl : n5 = 0 := N5.out.symm
          have HB5 := Lib.hid (HB.out.trans (B5.out.mono HB.out.size))
          clear B5
          go_wp2_with fail
          refine (HL.out _).mono ?_
          rintro e w6 ⟨rfl, B6⟩
          go_wp2_with fail
          go_ret
          exact ⟨rfl, HB5.out.trans (B6.out.mono HB5.out.size)⟩
end Go.Proofs.YtncfehjpkcjflaaGreatDoor.binlogBursts
