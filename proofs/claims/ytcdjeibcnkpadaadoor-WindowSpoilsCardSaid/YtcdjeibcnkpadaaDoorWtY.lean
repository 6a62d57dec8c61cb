/-
  Cut as a method; lengths.
-/
import Derived.Test.YtcdjeibcnkpadaaDoorWtW
namespace Go.Proofs.YtcdjeibcnkpadaaDoor
open Go.RowKit Go.Maps Dg
set_option linter.unusedVariables false
theorem cutL_len {k : ByteArray} : ∀ {l : List (ByteArray × Sl)}, Rises l → (cutL k l).length + (if hadL k l then 1 else 0) = l.length
  | [], _ => rfl
  | x :: l, ⟨h1, h2⟩ => by
    by_cases e : x.1 = k
    · have hid : cutL k l = l := cutL_id fun y hy he => by
        have := h1 y hy
        rw [e, he, kl_irrefl] at this
        cases this
      have hc : cutL k (x :: l) = l := by
        rw [← hid]
        unfold cutL
        rw [List.filter_cons, if_neg (by rw [e]; simp), List.filter_filter]
        simp
      have hh : hadL k (x :: l) = true := getL_of_mem ⟨x, List.mem_cons_self, e⟩
      rw [hc, hh]
      rfl
    · have hh : hadL k (x :: l) = hadL k l := by unfold hadL; rw [getL_cons_ne e]
      rw [cutL_ne e, hh, List.length_cons, List.length_cons]
      have := cutL_len (k := k) h2
      omega
theorem getL_cut (k : ByteArray) (l : List (ByteArray × Sl)) : getL k (cutL k l) = none := getL_none fun y hy e => by
  have := (List.mem_filter.1 hy).2
  rw [e] at this
  simp at this
set_option maxHeartbeats 2000000 in
set_option maxRecDepth 100000 in
theorem tcut_any {tb : Nat} {w : World} {T : Tr} (h : TrAt tb w T) (hz : T.con.length ≤ 90000) (key : ByteArray) :
    Calls Tryd.prog 67 #[.pointer (some ⟨tb, 0, none⟩), .string key] w fun e w' => e = .returned (.bool (hadL key T.con)) ∧ ∃ T', TrAt tb w' T' ∧ T'.con = cutL key T.con ∧ Tur [tb] w w' := by
  have c : w.cell? ⟨tb, 0, none⟩ = some (.pointer T.ptr) := h.top.cell 0
  have HS := Lib.hid (tfind_any T h.tr key)
  have hfd : hadL key T.con = (T.find key).isSome := by
    unfold hadL
    rw [← find_get key T h.ris]
    cases T.find key <;> rfl
  have H := Lib.hid h
  obtain ⟨q, hq⟩ : ∃ q, Hid (q = T.find key) := ⟨_, rfl⟩
  cases q with
  | none =>
    have hno : hadL key T.con = false := by rw [hfd, ← hq.out]; rfl
    have hid : cutL key T.con = T.con := cutL_id fun y hy e => by
      have := getL_of_mem ⟨y, hy, e⟩
      unfold hadL at hno
      rw [hno] at this
      cases this
    rw [hno, hid]
    rw [← hq.out] at HS
    clear hfd h hno hid
    go_enter Tryd.func67, Tryd.ntmps67
    go_wp2_with fail
    refine HS.out.mono ?_
    rintro e w1 ⟨rfl, rfl⟩
    rw [show ndPtr none = .pointer none from rfl]
    go_wp2_with fail
    go_ret
    exact ⟨rfl, T, H.out, rfl, Tur.refl _ _⟩
  | some x =>
    have hyes : hadL key T.con = true := by rw [hfd, ← hq.out]; rfl
    have hin := mem_of_getL hyes
    rw [con_len] at hz
    rw [hyes]
    rw [← hq.out] at HS
    have HC := Lib.hid (cut_any T w.heap.size w key h.tr (Nat.le_refl _) h.bal h.ris hz hin)
    clear hfd h hyes hin
    go_enter Tryd.func67, Tryd.ntmps67
    go_wp2_with fail
    refine HS.out.mono ?_
    rintro e w1 ⟨rfl, rfl⟩
    rw [show ndPtr (some x) = .pointer (some ⟨x.b, 0, none⟩) from rfl]
    go_wp2_with fail
    refine HC.out.mono ?_
    rintro e w3 ⟨T', rfl, i3, con3, bal3, b3⟩
    have ht3 : Has w3 tb 107 #[.pointer T.ptr] := H.out.top.below b3 H.out.top.lt
    have c3 : w3.cell? ⟨tb, 0, none⟩ = some (.pointer T.ptr) := ht3.cell 0
    have f3 : w3.frozen? ⟨tb, 0, none⟩ = false := ht3.free 0
    have hput : Has (w3.setCell ⟨tb, 0, none⟩ (.pointer T'.ptr)) tb 107 #[.pointer T'.ptr] := ht3.put 0 _
    have i4 := IsTr.far ht3 (.pointer T'.ptr) i3
    have hfin2 : ∃ T2, TrAt tb (w3.setCell ⟨tb, 0, none⟩ (.pointer T'.ptr)) T2 ∧ T2.con = cutL key T.con ∧ Tur [tb] w1 (w3.setCell ⟨tb, 0, none⟩ (.pointer T'.ptr)) :=
      ⟨T', ⟨hput, by rw [size_set]; exact i4, bal3, by rw [con3]; exact cutL_rises H.out.ris⟩, con3, (Tur.of_below b3).trans (Tur.setCell w3 (p := ⟨tb, 0, none⟩) (by simp) _) (Fre.refl _ _)⟩
    have HFIN := Lib.hid hfin2
    clear hfin2 hput i4 ht3 i3 b3
    go_wp2_with fail
    go_ret
    exact ⟨rfl, HFIN.out⟩
end Go.Proofs.YtcdjeibcnkpadaaDoor
