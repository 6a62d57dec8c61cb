/-
  The table of powers of ten, out of what a row lists.
-/
import Derived.Test.YtlkhijccjjpbbaaDoorCard
import Derived.Test.YtlkhijccjjpbbaaDoorShows
namespace Go.Proofs.YtlkhijccjjpbbaaDoor
open Go.ChangeShapes Go.WideShapes Go.RowKit Go.Joins Go.Deep Go.Lib
theorem pows_eq : (Rows.laid_internal_strconv_uint64pow10 : DataW Unit) = Lib.tabData .u64 Lib.pow10Tab := by kernel_rfl
theorem pows_of {W : World} (h : laidMetH Tryd.prog listed W) : Pows W := by
  rw [MakeChecks.laidMetH_plain _ _ _ (by kernel_rfl)] at h
  have hr := Lib.laidMet.reads h (.tail _ (.tail _ (.head _)))
  rw [pows_eq] at hr
  obtain ⟨g', t', cs, fuel, p, hg', ht', hvar, hd⟩ := hr
  have hg : Tryd.prog.globalNamed "internal/strconv.uint64pow10" = some 2 := by kernel_rfl
  have hty : (Tryd.prog.globals[2]?).map (·.type) = some 97 := by kernel_rfl
  obtain rfl := Option.some.inj (hg.symm.trans hg')
  obtain rfl := Option.some.inj (hty.symm.trans ht')
  unfold Pows Lib.TabIs
  rw [hvar, ← Lib.cells_of_tab Tryd.underlying97 Tryd.underlying55 (by kernel_rfl) (by kernel_rfl) hd]
end Go.Proofs.YtlkhijccjjpbbaaDoor
