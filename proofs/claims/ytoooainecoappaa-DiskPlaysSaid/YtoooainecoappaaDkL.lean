/-
  The program's List: the files' names, rising.
-/
import Derived.Test.YtoooainecoappaaDkP
import Derived.Test.YtoooainecoappaaShelf
import Derived.OwnWalkIn
import Derived.TacticsInMore
import Derived.Shelf.Abstract
namespace Go.Proofs.Ytoooainecoappaa
open Go.RowKit Go.Maps Go.WideShapes Go.WideMaps Go.Sort Go.Shelf
theorem before_lt : ∀ a b : List UInt8, bytesBefore a b = true → a < b
  | [], [], h => by simp [bytesBefore] at h
  | [], _ :: _, _ => by simp
  | _ :: _, [], h => by simp [bytesBefore] at h
  | x :: a, y :: b, h => by
    simp only [bytesBefore, Bool.or_eq_true, decide_eq_true_eq, Bool.and_eq_true, beq_iff_eq] at h
    rcases h with h | ⟨rfl, h⟩
    · exact List.Lex.rel h
    · exact List.Lex.cons (before_lt a b h)
theorem rise_sort {gs : List Fl} (h : Rise gs) {ss : List (List UInt8)} (hp : ss.Perm (gs.map Fl.nm)) : ss.mergeSort (fun x y => decide (x ≤ y)) = gs.map Fl.nm := by
  have tr : ∀ a b c : List UInt8, leB a b = true → leB b c = true → leB a c = true := fun a b c h1 h2 => by simp only [leB, decide_eq_true_eq] at *; exact List.le_trans h1 h2
  have to : ∀ a b : List UInt8, (leB a b || leB b a) = true := fun a b => by simp only [leB, Bool.or_eq_true, decide_eq_true_eq]; exact List.le_total a b
  have hs : (gs.map Fl.nm).Pairwise (fun a b => leB a b = true) := List.pairwise_map.2 (h.imp fun hab => by simp only [leB, decide_eq_true_eq]; exact List.le_of_lt (before_lt _ _ hab))
  refine List.Perm.eq_of_pairwise (le := fun a b => leB a b = true) (fun a b _ _ h1 h2 => ?_) (List.pairwise_mergeSort tr to ss) hs ((List.mergeSort_perm ss leB).trans hp)
  simp only [leB, decide_eq_true_eq] at h1 h2
  exact List.le_antisymm h1 h2
theorem sorts (m : Nat) : AnyZ.SortsIn Try.prog Try.diskSorted_ren Fence.wide m :=
  ⟨fun blk off cap ss W hH hblk hsz => callsIn_wide.2 (AnyM.slices_Sort_string Try.diskSort blk off cap ss W hH hblk hsz),
   fun p cap W => callsIn_wide.2 (AnyM.slices_Sort_string_none Try.diskSort p cap W)⟩
theorem keys_call (mb : Option Nat) (W : World) : Calls Try.prog 72 #[.map mb] W fun e w' => e = .returned (.func (.func 83) #[] #[.pointer (some ⟨W.heap.size, 0, none⟩)]) ∧ w' = W.alloc (.cells #[.map mb] 62) :=
  (callsIn_wide (n := 5)).1 (AnyZ.keys_in Try.diskKeys Fence.wide 5 trivial rfl mb W)
set_option maxHeartbeats 1000000 in
theorem sorted_call {H : Type} (b nn : Nat) (D0 : DataW H) (R : Value → Option (DataW H × List MemPlace)) (w : World) (hown : w.ownsMap Try.prog 9 R b nn D0) (hmax : Maps.size D0 ≤ maxLen) (hbytes : Maps.size D0 * 16 ≤ 140737488355328) :
    Calls Try.prog 71 #[.func (.func 83) #[] #[.pointer (some ⟨w.heap.size, 0, none⟩)]] (w.alloc (.cells #[.map (some b)] 62)) fun e w' => ∃ (v : Value) (ss : List (List UInt8)), e = .returned v ∧ ss.Perm (strKeys D0) ∧
      w'.ownsRow (w.alloc (.cells #[.map (some b)] 62)).heap.size 9 1 v ss.length ((ss.mergeSort (fun x y => decide (x ≤ y))).map encStr) ∧ (v = .slice none 0 0 ↔ ss = []) ∧ Below (w.alloc (.cells #[.map (some b)] 62)).heap.size (w.alloc (.cells #[.map (some b)] 62)) w' := by
  have hbl := hown.lt
  have hseq : SeqGives Fence.wide 2 Try.prog 83 #[.pointer (some ⟨w.heap.size, 0, none⟩)] encStr (fun ss => ss.Perm (strKeys D0)) (Maps.size D0) (w.alloc (.cells #[.map (some b)] 62)) :=
    AnyZ.keys_gives (ρ := Try.diskKeys_ren) { Try.diskKeys with } Fence.wide _ trivial rfl (by omega) w.heap.size b nn D0 _ (by simp) (by simp) (by
      obtain ⟨es, clock, hb, Ft, hs, hD⟩ := hown
      exact ⟨es, clock, (Below.heap_alloc _ _ b hbl).trans hb, Ft, hs, hD⟩)
  exact (callsIn_wide (n := 5)).1 (AnyZ.sorted_in Try.diskSorted Fence.wide 5 trivial trivial trivial trivial rfl (by omega) (sorts _) (enters_of Try.func82 (by kernel_rfl) rfl) 83 #[.pointer (some ⟨w.heap.size, 0, none⟩)] trivial (enters_of Try.func83 (by kernel_rfl) rfl) _ _ hmax hbytes _ hseq)
def listD (S : Ds) : List (List UInt8) := if S.down then [] else S.fs.map Pf.nm
set_option maxHeartbeats 2000000 in
set_option maxRecDepth 100000 in
theorem list_any (B d : Nat) (w : World) (S : Ds) (X : List Nat) (h : DAt B d w S X) (hlen : S.fs.length ≤ 100000) :
    Calls Try.prog 41 #[.pointer (some ⟨d, 0, none⟩)] w fun e w' => ∃ A n c, e = .returned (.slice A n c) ∧ Hid (n = (listD S).length) ∧
      Hid (w'.ownsRow w.heap.size 9 1 (.slice A n c) n ((listD S).map encStr)) ∧ Hid (Below w.heap.size w w') := by
  obtain ⟨m, gs, rfl, h0⟩ := h
  have d1 := h0.top.cell 1
  have d3 := h0.top.cell 3
  have H := Lib.hid h0
  clear h0
  by_cases hd : S.down = true
  · have HL : Hid (listD S = []) := by show _ = _; unfold listD; rw [if_pos hd]
    rw [hd] at d3
    go_enter Try.func41, Try.ntmps41
    go_wp2_with fail
    go_ret
    rw [HL.out]
    exact ⟨_, _, _, rfl, rfl, World.ownsRow_nil _ _ _ _, Below.refl _ _⟩
  · have hd' : S.down = false := by simpa using hd
    have HL : Hid (listD S = gs.map Fl.nm) := by
      show _ = _
      unfold listD; rw [if_neg hd, ← H.out.fs, List.map_map]; rfl
    rw [hd'] at d3
    have hsz : Maps.size (.map (gs.map ent)) = S.fs.length := by rw [size_ent, H.out.len]
    have HS := Lib.hid (sorted_call m _ _ ptrR w H.out.map (by rw [hsz]; unfold maxLen; omega) (by rw [hsz]; omega))
    have HB0 : Hid (Below w.heap.size w (w.alloc (.cells #[.map (some m)] 62))) := (Below.refl _ _).alloc (Nat.le_refl _) _
    go_enter Try.func41, Try.ntmps41
    go_wp2_with fail
    refine (keys_call (some m) w).mono ?_
    rintro e w1 ⟨rfl, rfl⟩
    go_wp2_with fail
    refine HS.out.mono ?_
    rintro e w2 ⟨v, ss, rfl, hp, hrow, _, hb⟩
    rw [keys_ent] at hp
    rw [rise_sort H.out.rise hp, hp.length_eq, List.length_map] at hrow
    have HB2 := Lib.hid (HB0.out.trans (hb.mono HB0.out.size))
    have HR : Hid (w2.ownsRow w.heap.size 9 1 v gs.length ((gs.map Fl.nm).map encStr)) := ⟨hrow.1, hrow.2.imp id fun ⟨g, cap, cur, h1, h2, h3⟩ => ⟨g, cap, cur, h1, by have := HB0.out.size; omega, h3⟩⟩
    clear hp hrow hb HS
    obtain ⟨A, c, hv⟩ : ∃ A c, v = .slice A gs.length c := by
      rcases HR.out.2 with ⟨h1, h2⟩ | ⟨g, cap, cur, h1, _⟩
      · exact ⟨none, 0, by rw [h1, h2]⟩
      · exact ⟨_, _, h1⟩
    subst hv
    go_wp2_with fail
    go_ret
    rw [HL.out]
    exact ⟨A, _, c, rfl, (List.length_map _).symm, HR, HB2⟩
end Go.Proofs.Ytoooainecoappaa
