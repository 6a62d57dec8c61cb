/-
  What becomes of works: the answers as functions.
-/
import Derived.Test.YtjkmbggaoinkdaaDoorWPlc
import Derived.Test.YtjkmbggaoinkdaaDoorKv
import Derived.Test.YtjkmbggaoinkdaaDoorName
namespace Go.Proofs.YtjkmbggaoinkdaaDoor
open Go.RowKit Dg
set_option maxRecDepth 100000
/-- The work of a table: is it done, and its key. -/
def wdF (T : List Wk) (s : ByteArray) : Bool := match T[lbW T s]? with | some x => x.d | none => false
def wkF (T : List Wk) (s : ByteArray) : ByteArray := match T[lbW T s]? with | some x => x.k | none => ⟨#[]⟩
theorem wdF_at {T : List Wk} {s : ByteArray} (h : lbW T s < T.length) : wdF T s = (T[lbW T s]'h).d := by
  unfold wdF; rw [List.getElem?_eq_getElem h]
theorem wkF_at {T : List Wk} {s : ByteArray} (h : lbW T s < T.length) : wkF T s = (T[lbW T s]'h).k := by
  unfold wkF; rw [List.getElem?_eq_getElem h]
theorem plW_lt {T : List Wk} {s : ByteArray} (h : plW T s = true) : lbW T s < T.length := by
  apply Decidable.byContradiction
  intro hl
  rw [plW_out hl] at h; cases h
/-- Add: the error, and the works. -/
def addE (T : List Wk) (s : ByteArray) : Int := if nameF s = false then 6 else if plW T s = true then 8 else 0
def addL (T : List Wk) (s : ByteArray) : List Wk := if nameF s = false ∨ plW T s = true then [] else T.take (lbW T s) ++ [⟨s, false, ⟨#[]⟩⟩] ++ T.drop (lbW T s)
/-- Go: the error, and the works. -/
def goE (T : List Wk) (s k : ByteArray) (dn : Bool) : Int :=
  if plW T s = false then 7 else if wdF T s = true then 14 else if dn = true then 0 else if isKeyB k = false then 14 else if Op.bytesLess (wkF T s).toList k.toList = false then 14 else 0
def goW (T : List Wk) (s k : ByteArray) (dn : Bool) : List Wk :=
  if goE T s k dn = 0 then T.take (lbW T s) ++ [⟨s, dn, if dn then ⟨#[]⟩ else k⟩] ++ T.drop (lbW T s + 1) else []
/-- Covers. -/
def covB (T : List Wk) (s k : ByteArray) : Bool := plW T s && (wdF T s || (!((wkF T s).size == 0) && !Op.bytesLess (wkF T s).toList k.toList))
/-- Drop. -/
def dropW (T : List Wk) (s : ByteArray) : List Wk := if plW T s = true then T.take (lbW T s) ++ T.drop (lbW T s + 1) else T
/-- Where a row of works of the call's own lies. -/
theorem ownW_addr {B : Nat} {w : World} {A : Option Addr} {n c : Nat} {L : List Wk} (h : OwnW B w (.slice A n c) L) : A = none ∨ ∃ b off, A = some ⟨b, off, none⟩ := by
  rcases h.2 with ⟨hv, _⟩ | ⟨g, cap, cur, hv, _⟩
  · injection hv with e1 _ _
    exact .inl e1
  · injection hv with e1 _ _
    exact .inr ⟨_, _, e1⟩
end Go.Proofs.YtjkmbggaoinkdaaDoor
