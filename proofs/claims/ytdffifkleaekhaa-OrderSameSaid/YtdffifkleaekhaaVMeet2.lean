/-
  The program's meet of two.
-/
import Derived.Test.YtdffifkleaekhaaVJoin
namespace Go.Proofs.Ytdffifkleaekhaa.V
open Go.RowKit Go.Shelf
set_option linter.unusedVariables false
set_option linter.unusedSimpArgs false
attribute [local go_sem] Oper.semAt_some

def meetL (a b : List D) : List D := outF min (mrg (a.length + b.length) a b)

end Go.Proofs.Ytdffifkleaekhaa.V
