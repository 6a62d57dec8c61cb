/-
  The order of values: the program's, and the document's; and which may be, as the document says.
-/
import Derived.Test.YtbbdmajlbofcmaaRutf
import Derived.Deep.RegionHeld3
import Derived.Deep.QuietTactic
import Derived.BigQuiet
namespace Go.Proofs.Ytbbdmajlbofcmaa
open Go.RowKit Dg
end Go.Proofs.Ytbbdmajlbofcmaa
