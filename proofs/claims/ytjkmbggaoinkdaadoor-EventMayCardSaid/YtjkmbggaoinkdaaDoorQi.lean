/-
  Put together: Does, Apply, FolM.
-/
import Derived.Test.YtjkmbggaoinkdaaDoorQh
import Derived.MapKept
import Derived.Test.YtjkmbggaoinkdaaDoorQc
import Derived.Deep.RegionHeld3
namespace Go.Proofs.YtjkmbggaoinkdaaDoor
open Go.RowKit Dg
set_option maxRecDepth 100000
def doesF (L : List Cl) (K : Int) (ck : Int) (cn : ByteArray) (kd : Int) (no : Bool) : Dn :=
  if ck = 3 then addF L cn kd no else if ck = 4 then cutF L K cn else if ck = 5 then retF L K cn kd else .bad 5
end Go.Proofs.YtjkmbggaoinkdaaDoor
namespace Go.Proofs.YtjkmbggaoinkdaaDoor
open Go.RowKit Dg
/-- The columns behind a change. -/
def applyL (L : List Cl) (d : Dn) (cn : ByteArray) (kd : Int) : List Cl := if d.e = 0 then L.take d.f ++ List.replicate d.m ⟨cn, kd, true⟩ ++ L.drop d.t else []
def applyK (K : Int) (d : Dn) : Int := if d.e = 0 then K else 0
def Dn.ok (d : Dn) (n : Nat) : Prop := d.e = 0 → d.f ≤ d.t ∧ d.t ≤ n ∧ d.m ≤ 1
theorem bad_ok (e : Int) (n : Nat) (h : e ≠ 0) : (Dn.bad e).ok n := fun h2 => absurd h2 h
theorem doesF_ok (L : List Cl) (K ck : Int) (cn : ByteArray) (kd : Int) (no : Bool) : (doesF L K ck cn kd no).ok L.length := by
  have hlt := findI_lt L cn
  unfold doesF addF cutF retF
  split
  · split
    · exact bad_ok _ _ (by omega)
    · split
      · exact bad_ok _ _ (by omega)
      · split
        · exact bad_ok _ _ (by omega)
        · exact fun _ => ⟨Nat.le_refl _, Nat.le_refl _, Nat.le_refl _⟩
  · split
    · split
      · exact bad_ok _ _ (by omega)
      · split
        · exact bad_ok _ _ (by omega)
        · exact fun _ => ⟨by simp, by simp; omega, by simp⟩
    · split
      · split
        · exact bad_ok _ _ (by omega)
        · split
          · exact bad_ok _ _ (by omega)
          · split
            · exact bad_ok _ _ (by omega)
            · exact fun _ => ⟨by simp, by simp; omega, by simp⟩
      · exact bad_ok _ _ (by omega)
theorem hid_s2 {w W : World} (h : Hid (Below w.heap.size w W)) (u u' : Value) : Hid (Below w.heap.size w ((W.setCell ⟨w.heap.size + 1 + 1, 0, none⟩ u).setCell ⟨w.heap.size + 1 + 1, 1, none⟩ u')) := (h.out.setCell (by show w.heap.size ≤ w.heap.size + 1 + 1; omega) _).setCell (by show w.heap.size ≤ w.heap.size + 1 + 1; omega) _
theorem cell_s2 {W : World} {p : Nat} {u u' : Value} {a : Addr} {v : Value} (hne : p ≠ a.block) (h : W.cell? a = some v) : ((W.setCell ⟨p, 0, none⟩ u).setCell ⟨p, 1, none⟩ u').cell? a = some v := by
  rw [World.cell?_setCell_far _ _ _ _ hne, World.cell?_setCell_far _ _ _ _ hne]; exact h
theorem schEnd {fn : Func} {p u : Tmp} (h : fn.results = #[.cell p 27, .tmp u]) (w' : World) (g : Nat) (c0 c1 : Value) (tmps : Array Value) (hp : tmps.getD p undef = .pointer (some ⟨g, 0, none⟩)) (hh : Has w' g 27 #[c0, c1]) :
    (results fn tmps).run Tryd.prog w' = .ok (.tuple #[.agg #[c0, c1], tmps.getD u undef]) w' := by
  rw [results_cell_tmp h, hp]
  simp only [asAddr, Sem.run_pure, Result.andThen_ok]
  rw [run_loadVar_row w' g 27 27 #[c0, c1] (0, 0) _ hh Tryd.underlying27 rfl (by kernel_rfl)]
  rfl
end Go.Proofs.YtjkmbggaoinkdaaDoor
namespace Go.Proofs.YtjkmbggaoinkdaaDoor
open Go.RowKit Dg
/-- The error of a table that is made. -/
def fcE (T : List Tb) (tn : ByteArray) (L' : List Cl) (K' : Int) : Int :=
  if nameF tn = false then 6 else if plF T tn = true then 8 else if smayF L' K' = false then 1 else if 64 ≤ T.length then 13 else 0
/-- The error of a change. -/
def foE (T : List Tb) (ck : Int) (tn : ByteArray) (L' : List Cl) (K' : Int) (cn : ByteArray) (kd : Int) (no : Bool) : Int :=
  if ck = 1 then fcE T tn L' K' else match T[lbN T tn]? with
    | none => 7
    | some x => if plF T tn = false then 7 else if ck = 2 then 0 else (doesF x.L x.K ck cn kd no).e
/-- The tables behind it, where there is none. -/
def foD (T : List Tb) (ck : Int) (tn : ByteArray) (L' : List Cl) (K' : Int) (cn : ByteArray) (kd : Int) (no : Bool) : List Td :=
  if foE T ck tn L' K' cn kd no ≠ 0 then [] else if ck = 1 then (tds T).take (lbN T tn) ++ [⟨tn, L', K'⟩] ++ (tds T).drop (lbN T tn)
  else if ck = 2 then (tds T).take (lbN T tn) ++ (tds T).drop (lbN T tn + 1) else match T[lbN T tn]? with
    | none => []
    | some x => (tds T).take (lbN T tn) ++ [⟨tn, applyL x.L (doesF x.L x.K ck cn kd no) cn kd, applyK x.K (doesF x.L x.K ck cn kd no)⟩] ++ (tds T).drop (lbN T tn + 1)
section
variable {T : List Tb} {tn : ByteArray} {L' : List Cl} {K' : Int} {cn : ByteArray} {kd : Int} {no : Bool} {ck : Int}
theorem foE_c : foE T 1 tn L' K' cn kd no = fcE T tn L' K' := by unfold foE; rw [if_pos rfl]
theorem foE_none (h1 : ck ≠ 1) (hp : plF T tn = false) : foE T ck tn L' K' cn kd no = 7 := by
  unfold foE; rw [if_neg h1]
  split
  · rfl
  · rw [if_pos hp]
theorem plF_lt (h : plF T tn = true) : lbN T tn < T.length := by
  apply Decidable.byContradiction
  intro hl
  rw [plF_out hl] at h; cases h
theorem foE_drop (hp : plF T tn = true) : foE T 2 tn L' K' cn kd no = 0 := by
  have hl := plF_lt hp
  unfold foE; rw [if_neg (by omega), List.getElem?_eq_getElem hl]
  simp [hp]
theorem foE_alter (h1 : ck ≠ 1) (h2 : ck ≠ 2) (hp : plF T tn = true) (hl : lbN T tn < T.length) : foE T ck tn L' K' cn kd no = (doesF T[lbN T tn].L T[lbN T tn].K ck cn kd no).e := by
  unfold foE; rw [if_neg h1, List.getElem?_eq_getElem hl]
  simp [hp, h2]
theorem foD_bad (h : foE T ck tn L' K' cn kd no ≠ 0) : foD T ck tn L' K' cn kd no = [] := by unfold foD; rw [if_pos h]
theorem foD_c (h : fcE T tn L' K' = 0) : foD T 1 tn L' K' cn kd no = (tds T).take (lbN T tn) ++ [⟨tn, L', K'⟩] ++ (tds T).drop (lbN T tn) := by
  unfold foD; rw [foE_c, h]; simp
theorem foD_drop (hp : plF T tn = true) : foD T 2 tn L' K' cn kd no = (tds T).take (lbN T tn) ++ (tds T).drop (lbN T tn + 1) := by
  unfold foD; rw [foE_drop hp]; simp
theorem foD_alter (h1 : ck ≠ 1) (h2 : ck ≠ 2) (hp : plF T tn = true) (hl : lbN T tn < T.length) (he : (doesF T[lbN T tn].L T[lbN T tn].K ck cn kd no).e = 0) :
    foD T ck tn L' K' cn kd no = (tds T).take (lbN T tn) ++ [⟨tn, applyL T[lbN T tn].L (doesF T[lbN T tn].L T[lbN T tn].K ck cn kd no) cn kd, applyK T[lbN T tn].K (doesF T[lbN T tn].L T[lbN T tn].K ck cn kd no)⟩] ++ (tds T).drop (lbN T tn + 1) := by
  unfold foD; rw [foE_alter h1 h2 hp hl, he, List.getElem?_eq_getElem hl]; simp [h1, h2]
theorem fcE_name (h : nameF tn = false) : fcE T tn L' K' = 6 := by unfold fcE; rw [if_pos h]
theorem fcE_there (h : nameF tn = true) (hp : plF T tn = true) : fcE T tn L' K' = 8 := by unfold fcE; rw [if_neg (by rw [h]; simp), if_pos hp]
theorem fcE_may (h : nameF tn = true) (hp : plF T tn = false) (hm : smayF L' K' = false) : fcE T tn L' K' = 1 := by unfold fcE; rw [if_neg (by rw [h]; simp), if_neg (by rw [hp]; simp), if_pos hm]
theorem fcE_many (h : nameF tn = true) (hp : plF T tn = false) (hm : smayF L' K' = true) (h6 : 64 ≤ T.length) : fcE T tn L' K' = 13 := by unfold fcE; rw [if_neg (by rw [h]; simp), if_neg (by rw [hp]; simp), if_neg (by rw [hm]; simp), if_pos h6]
theorem fcE_ok (h : nameF tn = true) (hp : plF T tn = false) (hm : smayF L' K' = true) (h6 : T.length < 64) : fcE T tn L' K' = 0 := by unfold fcE; rw [if_neg (by rw [h]; simp), if_neg (by rw [hp]; simp), if_neg (by rw [hm]; simp), if_neg (by omega)]
end
end Go.Proofs.YtjkmbggaoinkdaaDoor
