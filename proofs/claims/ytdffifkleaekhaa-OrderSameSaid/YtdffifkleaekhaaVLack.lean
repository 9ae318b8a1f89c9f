/-
  The program's Lack.
-/
import Derived.Test.YtdffifkleaekhaaVSpan
namespace Go.Proofs.Ytdffifkleaekhaa.V
open Go.RowKit Go.Shelf
set_option linter.unusedVariables false
set_option linter.unusedSimpArgs false
attribute [local go_sem] Oper.semAt_some

/-- Spans that are answered, and an error. -/
def SpaR (e : Ending) (w : World) (r : List T × Int) : Prop := ∃ A c, e = .returned (.tuple #[.slice A r.1.length c, .int .i64 r.2]) ∧ RowS w w.heap.size A r.1 ∧ r.1.length ≤ 10000000
theorem nil_okS (w : World) (B : Nat) : RowS w B none [] := fun h => absurd h (by simp)
def lackO (a b : List D) : List T × Int := if (rightB a && rightB b) = true then (lackV a b, 0) else ([], 2)
theorem lackM_snoc (pre : List T) (z : T) : lackM (pre ++ [z]) = if z.2.1 < z.2.2 then lackM pre ++ [(z.1, z.2.1 + 1, z.2.2)] else lackM pre := by
  unfold lackM
  rw [List.filterMap_append]
  by_cases h : z.2.1 < z.2.2
  · simp [h]
  · simp [h]
theorem lackM_len (xs : List T) : (lackM xs).length ≤ xs.length := List.length_filterMap_le _ _
theorem mrg_fit {a b : List D} (ra : rightB a = true) (rb : rightB b = true) {pre : List T} {z : T} (h : pre ++ [z] <+: mrg (a.length + b.length) a b) : 0 ≤ z.2.1 ∧ z.2.1 ≤ 4611686018427387904 := by
  have hz : z ∈ mrg (a.length + b.length) a b := h.subset (by simp)
  obtain ⟨x, n, m⟩ := z
  obtain ⟨h1, _, h⟩ := (mrg_iff _ a b (right_srt ra) (right_srt rb) (Nat.le_refl _) (right_pos ra) (right_pos rb) x n m).1 hz
  simp only
  rw [h1]
  exact ⟨right_at ra x, right_le ra x⟩

end Go.Proofs.Ytdffifkleaekhaa.V
