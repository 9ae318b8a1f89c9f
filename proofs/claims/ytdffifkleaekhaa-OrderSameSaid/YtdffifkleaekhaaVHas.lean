/-
  The program's Has.
-/
import Derived.Test.YtdffifkleaekhaaVLack
import Derived.OrdersHeld
import Derived.Deep.RegionHeld
namespace Go.Proofs.Ytdffifkleaekhaa.V
open Go.RowKit
set_option linter.unusedVariables false
set_option linter.unusedSimpArgs false

def hasB (v : List D) (d : D) : Bool := rightB v && dotB d && decide (d.2 ≤ at' v d.1)

end Go.Proofs.Ytdffifkleaekhaa.V
