/-
  The reference's Lack.
-/
import Derived.Test.YtdffifkleaekhaaVRJoin
namespace Go.Proofs.Ytdffifkleaekhaa.V
open Go.RowKit
set_option linter.unusedVariables false
set_option linter.unusedSimpArgs false

theorem lackV_drop {a b : List D} {j : Nat} {d : D} (hj : j < b.length) (hd : b[j]'hj = d) : lackV a (b.drop j) = if at' a d.1 < d.2 then (d.1, at' a d.1 + 1, d.2) :: lackV a (b.drop (j + 1)) else lackV a (b.drop (j + 1)) := by
  rw [List.drop_eq_getElem_cons hj, hd]
  obtain ⟨w, m⟩ := d
  exact lackV_cons a w m _
end Go.Proofs.Ytdffifkleaekhaa.V
