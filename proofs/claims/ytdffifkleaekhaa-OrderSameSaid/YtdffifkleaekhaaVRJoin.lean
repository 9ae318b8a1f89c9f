/-
  The reference's Join, Lack.
-/
import Derived.Test.YtdffifkleaekhaaVRWith
namespace Go.Proofs.Ytdffifkleaekhaa.V
open Go.RowKit
set_option linter.unusedVariables false
set_option linter.unusedSimpArgs false

theorem oper_append_run {P : Program} {w w' : World} {v' : Value} {o : Oper} {a : Act} {K : Act → World → Prop} {Q : Exit → Act → World → Prop} (s x : Operand) (t u : TypeId)
    (ho : o.op = .call { callee := .builtin .append, args := #[s, x], argTypes := #[t, u] }) (vs vx : Value) (hs : a.eval s = vs) (hx : a.eval x = vx) (hrun : (Builtin.append_ #[t, u] o.type #[vs, vx]).run P w = .ok v' w')
    (h : K (a.put o.dst v') w') : o.wp P a w K Q := by
  unfold Oper.wp execOp
  simp only [ho, resolve, invoke, builtin, Sem.run_bind, Sem.run_pure, Result.andThen_ok, List.map_toArray, List.map_cons, List.map_nil, hs, hx, hrun]
  exact h
def stepJ (a : List D) (o : List D) (d : D) : List D := putV ordA o d.1 (max d.2 (at' a d.1))
theorem join_fold (a b : List D) : joinV ordA a b = b.foldl (stepJ a) a := rfl
theorem foldJ_drop {a b : List D} {j : Nat} {d : D} (o : List D) (hj : j < b.length) (hd : b[j]'hj = d) : (b.drop j).foldl (stepJ a) o = (b.drop (j + 1)).foldl (stepJ a) (stepJ a o d) := by
  rw [List.drop_eq_getElem_cons hj, hd]; rfl

end Go.Proofs.Ytdffifkleaekhaa.V
