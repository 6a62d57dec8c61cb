/-
  The program's put of works.
-/
import Derived.Test.YtjkmbggaoinkdaaDoorConcW
import Derived.Deep.RegionHeld3
namespace Go.Proofs.YtjkmbggaoinkdaaDoor
open Go.RowKit Dg
set_option maxRecDepth 100000
theorem wd1 {w W : World} (h : Hid (Below w.heap.size w W)) (o : Obj) : Hid (Below w.heap.size w (W.alloc o).drew) := (h.out.alloc h.out.size o).drew
end Go.Proofs.YtjkmbggaoinkdaaDoor
