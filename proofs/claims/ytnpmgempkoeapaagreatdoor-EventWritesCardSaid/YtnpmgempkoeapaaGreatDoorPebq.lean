/-
  Put together, as far as it is used: EwR6.
-/
import Derived.Test.YtnpmgempkoeapaaGreatDoorPebp
set_option linter.unusedVariables false
set_option linter.unusedSimpArgs false
set_option linter.defProp false
namespace Go.Proofs.YtnpmgempkoeapaaGreatDoor
open Go.RowKit Go.Maps Dg
set_option maxRecDepth 100000
def partsG : Array MapEntry := #[⟨.int .i64 1, .func (.func 71) #[] #[], 0⟩, ⟨.int .i64 2, .func (.func 71) #[] #[], 1⟩, ⟨.int .i64 3, .func (.func 72) #[] #[], 2⟩, ⟨.int .i64 4, .func (.func 72) #[] #[], 3⟩, ⟨.int .i64 5, .func (.func 73) #[] #[], 4⟩, ⟨.int .i64 6, .func (.func 74) #[] #[], 5⟩, ⟨.int .i64 7, .func (.func 71) #[] #[], 6⟩, ⟨.int .i64 8, .func (.func 71) #[] #[], 7⟩, ⟨.int .i64 9, .func (.func 71) #[] #[], 8⟩, ⟨.int .i64 10, .func (.func 71) #[] #[], 9⟩]
theorem updR (W : World) (es : Array MapEntry) (clock : Nat) (k : Int) (v : Value) (hn : Instr.findNow (.int .i64) (.int .i64 k) es.toList 0 = some none) :
 (Instr.mapUpdate 77 (.map (some W.heap.size)) (.int .i64 k) v).run Tryz.prog (W.alloc (.map es clock)) = .ok () (W.alloc (.map (es.push ⟨.int .i64 k, v, clock⟩) (clock + 1))) := by
 have hb : (W.alloc (.map es clock)).heap[W.heap.size]? = some (.map es clock) := heap_alloc_new W _
 have hk : MapKept.IsKey (.int .i64) (.int .i64 k) := rfl
 have hc : (Instr.checkKey false 10000 3 (.int .i64 k)).run Tryz.prog (W.alloc (.map es clock)) = .ok () (W.alloc (.map es clock)) := MapKept.run_checkKey Tryz.underlying3 hk false 9999
 simp [Instr.mapUpdate, run_underlying Tryz.underlying77, MapKept.run_getObj_map hb, hc, MapKept.run_findKey Tryz.underlying3 hn, MapKept.run_setObj_map _ hb, Result.andThen]
 simp only [World.alloc]
 congr 1
 apply Array.ext'
 simp [Array.setIfInBounds, Array.toList_push]
theorem lookR (W : World) (gm : Nat) (es : Array MapEntry) (clock : Nat) (hb : W.heap[gm]? = some (.map es clock)) (k : Int) (i : Nat) (v : Value) (hn : Instr.findNow (.int .i64) (.int .i64 k) es.toList 0 = some (some (i, v))) :
 (Instr.lookup 77 (.map (some gm)) (.int .i64 k) true).run Tryz.prog W = .ok (.tuple #[v, .bool true]) W := by
 have hk : MapKept.IsKey (.int .i64) (.int .i64 k) := rfl
 have hc : (Instr.checkKey es.isEmpty 10000 3 (.int .i64 k)).run Tryz.prog W = .ok () W := MapKept.run_checkKey Tryz.underlying3 hk _ 9999
 simp [Instr.lookup, run_underlying Tryz.underlying77, MapKept.run_getObj_map hb, hc, MapKept.run_findKey Tryz.underlying3 hn, Result.andThen]
set_option maxHeartbeats 8000000 in
theorem parts_any (w : World) :
 Calls Tryz.prog 37 #[] w fun x w' => x = .returned (.map (some w.heap.size)) ∧ Hid (w'.heap[w.heap.size]? = some (.map partsG 10)) ∧ Hid (Below w.heap.size w w') := by
 have hmk : ∀ W : World, (Instr.makeMap 77 none).run Tryz.prog W = .ok (.map (some W.heap.size)) (W.alloc (.map #[] 0)) := fun W => by simp [Instr.makeMap]
 have u1 := updR w #[] 0 1 (.func (.func 71) #[] #[]) rfl
 have u2 := updR w #[⟨.int .i64 1, .func (.func 71) #[] #[], 0⟩] 1 2 (.func (.func 71) #[] #[]) rfl
 have u3 := updR w #[⟨.int .i64 1, .func (.func 71) #[] #[], 0⟩, ⟨.int .i64 2, .func (.func 71) #[] #[], 1⟩] 2 3 (.func (.func 72) #[] #[]) rfl
 have u4 := updR w #[⟨.int .i64 1, .func (.func 71) #[] #[], 0⟩, ⟨.int .i64 2, .func (.func 71) #[] #[], 1⟩, ⟨.int .i64 3, .func (.func 72) #[] #[], 2⟩] 3 4 (.func (.func 72) #[] #[]) rfl
 have u5 := updR w #[⟨.int .i64 1, .func (.func 71) #[] #[], 0⟩, ⟨.int .i64 2, .func (.func 71) #[] #[], 1⟩, ⟨.int .i64 3, .func (.func 72) #[] #[], 2⟩, ⟨.int .i64 4, .func (.func 72) #[] #[], 3⟩] 4 5 (.func (.func 73) #[] #[]) rfl
 have u6 := updR w #[⟨.int .i64 1, .func (.func 71) #[] #[], 0⟩, ⟨.int .i64 2, .func (.func 71) #[] #[], 1⟩, ⟨.int .i64 3, .func (.func 72) #[] #[], 2⟩, ⟨.int .i64 4, .func (.func 72) #[] #[], 3⟩, ⟨.int .i64 5, .func (.func 73) #[] #[], 4⟩] 5 6 (.func (.func 74) #[] #[]) rfl
 have u7 := updR w #[⟨.int .i64 1, .func (.func 71) #[] #[], 0⟩, ⟨.int .i64 2, .func (.func 71) #[] #[], 1⟩, ⟨.int .i64 3, .func (.func 72) #[] #[], 2⟩, ⟨.int .i64 4, .func (.func 72) #[] #[], 3⟩, ⟨.int .i64 5, .func (.func 73) #[] #[], 4⟩, ⟨.int .i64 6, .func (.func 74) #[] #[], 5⟩] 6 7 (.func (.func 71) #[] #[]) rfl
 have u8 := updR w #[⟨.int .i64 1, .func (.func 71) #[] #[], 0⟩, ⟨.int .i64 2, .func (.func 71) #[] #[], 1⟩, ⟨.int .i64 3, .func (.func 72) #[] #[], 2⟩, ⟨.int .i64 4, .func (.func 72) #[] #[], 3⟩, ⟨.int .i64 5, .func (.func 73) #[] #[], 4⟩, ⟨.int .i64 6, .func (.func 74) #[] #[], 5⟩, ⟨.int .i64 7, .func (.func 71) #[] #[], 6⟩] 7 8 (.func (.func 71) #[] #[]) rfl
 have u9 := updR w #[⟨.int .i64 1, .func (.func 71) #[] #[], 0⟩, ⟨.int .i64 2, .func (.func 71) #[] #[], 1⟩, ⟨.int .i64 3, .func (.func 72) #[] #[], 2⟩, ⟨.int .i64 4, .func (.func 72) #[] #[], 3⟩, ⟨.int .i64 5, .func (.func 73) #[] #[], 4⟩, ⟨.int .i64 6, .func (.func 74) #[] #[], 5⟩, ⟨.int .i64 7, .func (.func 71) #[] #[], 6⟩, ⟨.int .i64 8, .func (.func 71) #[] #[], 7⟩] 8 9 (.func (.func 71) #[] #[]) rfl
 have u10 := updR w #[⟨.int .i64 1, .func (.func 71) #[] #[], 0⟩, ⟨.int .i64 2, .func (.func 71) #[] #[], 1⟩, ⟨.int .i64 3, .func (.func 72) #[] #[], 2⟩, ⟨.int .i64 4, .func (.func 72) #[] #[], 3⟩, ⟨.int .i64 5, .func (.func 73) #[] #[], 4⟩, ⟨.int .i64 6, .func (.func 74) #[] #[], 5⟩, ⟨.int .i64 7, .func (.func 71) #[] #[], 6⟩, ⟨.int .i64 8, .func (.func 71) #[] #[], 7⟩, ⟨.int .i64 9, .func (.func 71) #[] #[], 8⟩] 9 10 (.func (.func 71) #[] #[]) rfl
 have HB : Hid (Below w.heap.size w (w.alloc (.map partsG 10))) := (Below.refl w.heap.size w).alloc (Nat.le_refl _) _
 have HM : Hid ((w.alloc (.map partsG 10)).heap[w.heap.size]? = some (.map partsG 10)) := heap_alloc_new w _
 simp only [List.push_toArray, List.cons_append, List.nil_append] at u1 u2 u3 u4 u5 u6 u7 u8 u9 u10
 unfold partsG at *
 go_enter Tryz.func37, Tryz.ntmps37
 go_wp2_with fail
 go_ret
 exact ⟨rfl, HM, HB⟩
end Go.Proofs.YtnpmgempkoeapaaGreatDoor
