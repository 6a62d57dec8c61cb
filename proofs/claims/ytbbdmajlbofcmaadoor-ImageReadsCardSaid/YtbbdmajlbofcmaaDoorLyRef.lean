/-
  What the document's own answers of layer 1 come to: digits, numbers and texts as bytes.
-/
import Derived.Test.YtbbdmajlbofcmaaDoorLyLaw
import Derived.Lib.AppendStr
namespace Go.Proofs.YtbbdmajlbofcmaaDoor
open Go.RowKit Dg
set_option maxRecDepth 100000
theorem OutO.out {w w' : World} {l : List Nat} {e : Ending} (h : OutO w l e w') : Out w l e w' := by
  obtain ⟨v, he, ho, hb⟩ := h
  rcases ho.2 with ⟨hv, hn⟩ | ⟨g, cap, cur, hv, _⟩
  · obtain rfl := List.eq_nil_of_length_eq_zero hn
    exact ⟨v, he, none, 0, hv, Nat.le_refl _, Rd.nil _ _, hb⟩
  · subst hv
    obtain ⟨h1, h2⟩ := rd_owned ho
    exact ⟨_, he, _, _, rfl, h1, h2, hb⟩
theorem ref_app (w : World) (B : Nat) (v : Value) (l : List Nat) (d : Nat) (x : Int) (hx : (d : Int) = x) (h : Own B w v l) (hB : B ≤ w.heap.size) (hl : l.length ≤ 1000) :
    ∃ R W', (Builtin.append_ #[25, 25] 25 #[v, .slice (some ⟨w.heap.size, 0, none⟩) 1 1]).run Tryd.prog (w.alloc (.cells #[.int .u8 x] 5)) = .ok R W' ∧ Own B W' R (l ++ [d]) ∧ Below B w W' := by
  subst hx
  obtain ⟨i0, hi, hz0, hz1, hz2⟩ := info_parts info5
  obtain ⟨R, W', hrun, hown, hg, _⟩ := run_append_own (P := Tryd.prog) (w.alloc (.cells #[bv d] 5)) B 25 25 5 i0 (.int .u8 0) 1 1 Tryd.underlying25 hi hz0 hz1 hz2 rfl (by decide) v l.length (l.map bv) (h.alloc _)
    ⟨w.heap.size, 0, none⟩ 1 1 [bv d] rfl (fun j u hj => by
      rcases j with _ | j
      · have := (Has.new w 5 #[bv d]).cell 0
        simpa [Addr.add] using this.trans hj
      · simp at hj) (fun u hu => by simp at hu; subst hu; rfl) (by unfold maxLen; omega) (by omega) (by simp; omega)
  refine ⟨R, W', hrun, ?_, ?_⟩
  · unfold Own; rw [List.map_append, List.length_append]; exact hown
  · exact ((Below.refl B w).alloc hB _).grown hg (by simp; omega) fun k hk => (World.ownsRow.lt h k hk).1
theorem zig_nonneg (n : Nat) : 2 * n = zig (n : Int) := by unfold zig; rw [if_pos (by omega)]; omega
theorem zig_neg (n : Int) (p : Nat) (h : -(n + 1) = (p : Int)) : 2 * p + 1 = zig n := by unfold zig; rw [if_neg (by omega)]; omega
theorem strCells_sb (s : ByteArray) : Lib.strCells s = (sb s).map bv := by
  simp [Lib.strCells, sb, bv, List.map_map, Function.comp]
end Go.Proofs.YtbbdmajlbofcmaaDoor
