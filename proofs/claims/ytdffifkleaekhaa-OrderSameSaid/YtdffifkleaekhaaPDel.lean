/-
  slices.Delete of one dot: what is left lies where it lay.
-/
import Derived.Test.YtdffifkleaekhaaPDeliver
import Derived.Laws.CopyRow
namespace Go.Proofs.Ytdffifkleaekhaa.O
open Go.RowKit Go.Proofs.Ytdffifkleaekhaa.V
set_option linter.unusedVariables false
set_option linter.unusedSimpArgs false

theorem wpList_clear_run {P : Program} {w w' : World} {v' : Value} {ops : Array Oper} {rest : List Oper} {o : Oper} {a : Act} {Q : Exit → Act → World → Prop} (hgd : o.guard = none) (x : Operand) (t : TypeId)
    (ho : o.op = .call { callee := .builtin .clear, args := #[x], argTypes := #[t] }) (vx : Value) (hx : a.eval x = vx) (hrun : (Builtin.clear_ #[t] o.type #[vx]).run P w = .ok v' w')
    (h : wpList P ops Q rest (a.put o.dst v') w') : wpList P ops Q (o :: rest) a w :=
  wpList_plain hgd fun _ hK => by
    unfold Oper.wp execOp
    simp only [ho, resolve, invoke, builtin, Sem.run_bind, Sem.run_pure, Result.andThen_ok, List.map_toArray, List.map_cons, List.map_nil, hx, hrun]
    exact hK _ _ h
theorem cellsD_append (l m : List D) : cellsD (l ++ m) = cellsD l ++ cellsD m := by simp [cellsD]
theorem cellsD_take (l : List D) (i : Nat) : cellsD (l.take i) = (cellsD l).take (i * 2) := by
  induction l generalizing i with
  | nil => simp [cellsD]
  | cons d t ih =>
    cases i with
    | zero => simp [cellsD]
    | succ i =>
      have e : cellsD (d :: t) = .string d.1 :: .int .i64 d.2 :: cellsD t := by simp [cellsD]
      have e2 : cellsD (d :: t.take i) = .string d.1 :: .int .i64 d.2 :: cellsD (t.take i) := by simp [cellsD]
      rw [List.take_succ_cons, e, e2, show (i + 1) * 2 = i * 2 + 1 + 1 by omega, List.take_succ_cons, List.take_succ_cons, ih]
theorem cellsD_drop (l : List D) (i : Nat) : cellsD (l.drop i) = (cellsD l).drop (i * 2) := by
  have h1 := cellsD_append (l.take i) (l.drop i)
  rw [List.take_append_drop, cellsD_take] at h1
  exact List.append_cancel_left (h1.symm.trans (List.take_append_drop (i * 2) (cellsD l)).symm)
/-- What the row holds behind the append, and behind the clearing. -/
def delRow (cur : Array Value) (n i : Nat) (news : List Value) : Array Value := (cur.toList.take (i * 2) ++ news ++ cur.toList.drop (i * 2 + news.length)).toArray
theorem run_del_append {w : World} {g c n i c2 : Nat} {cur : Array Value} {X : Addr} {l : List D} (hg : w.heap[g]? = some (.cells cur 23 (0, 0))) (hn : l.length = n) (hi : i < n) (hnc : n ≤ c) (hcs : cur.size = c * 2) (ht : cur.toList.take (n * 2) = cellsD l)
    (hX : i + 1 = n ∨ X = ⟨g, (i + 1) * 2, none⟩) (ty : TypeId) :
    (Builtin.append_ #[24, 24] ty #[.slice (some ⟨g, 0, none⟩) i c, .slice (some X) (n - (i + 1)) c2]).run Try.prog w = .ok (.slice (some ⟨g, 0, none⟩) (n - 1) c) (w.setRow g (delRow cur n i (cellsD (l.drop (i + 1))))) := by
  obtain ⟨i0, hi0, hz0, hz1, hz2⟩ := info_parts info24
  have hl : (cellsD (l.drop (i + 1))).length = (n - (i + 1)) * i0.size := by rw [cellsD_length, List.length_drop, hn, hz1]
  have h := run_append_room (P := Try.prog) w 24 ty 23 i0 Try.underlying24 hi0 g i c cur hg X (n - (i + 1)) c2 (cellsD (l.drop (i + 1))) hl ?_ (oneCell_cellsD _) (by omega) (by rw [hl, hz1]; omega)
  · rw [h]
    have e : i + (n - (i + 1)) = n - 1 := by omega
    rw [e]
    unfold delRow
    rw [hz1]
  · intro j u hu
    have hj := (List.getElem?_eq_some_iff.1 hu).1
    rw [hl, hz1] at hj
    rcases hX with hX | hX
    · omega
    · subst hX
      have ea : (⟨g, (i + 1) * 2, none⟩ : Addr).add j = ⟨g, (i + 1) * 2 + j, none⟩ := by
        unfold Addr.add; split
        · rename_i h; subst h; simp
        · simp
      rw [ea, cell_of_row w g _ cur 23 (0, 0) hg]
      rw [cellsD_drop, List.getElem?_drop, ← ht, List.getElem?_take, if_pos (by omega)] at hu
      simpa using hu
def delRow2 (cur : Array Value) (n i : Nat) (l : List D) : Array Value := ((delRow cur n i (cellsD (l.drop (i + 1)))).toList.take ((n - 1) * 2) ++ [Value.string ByteArray.empty, Value.int .i64 0] ++ (delRow cur n i (cellsD (l.drop (i + 1)))).toList.drop ((n - 1) * 2 + 2)).toArray
theorem delRow_take {cur : Array Value} {n i c : Nat} {l : List D} (hn : l.length = n) (hi : i < n) (hnc : n ≤ c) (hcs : cur.size = c * 2) (ht : cur.toList.take (n * 2) = cellsD l) :
    (delRow cur n i (cellsD (l.drop (i + 1)))).size = c * 2 ∧ (delRow cur n i (cellsD (l.drop (i + 1)))).toList.take ((n - 1) * 2) = cellsD (l.eraseIdx i) := by
  have hl : (cellsD (l.drop (i + 1))).length = (n - (i + 1)) * 2 := by rw [cellsD_length, List.length_drop, hn]
  have h1 : (cur.toList.take (i * 2)).length = i * 2 := by simp; omega
  unfold delRow
  constructor
  · simp only [List.size_toArray, List.length_append, h1, hl, List.length_drop, Array.length_toList]
    omega
  · have e : (cur.toList.take (i * 2) ++ cellsD (l.drop (i + 1))).length = (n - 1) * 2 := by rw [List.length_append, h1, hl]; omega
    rw [show ((cur.toList.take (i * 2) ++ cellsD (l.drop (i + 1)) ++ cur.toList.drop (i * 2 + (cellsD (l.drop (i + 1))).length)).toArray).toList = cur.toList.take (i * 2) ++ cellsD (l.drop (i + 1)) ++ cur.toList.drop (i * 2 + (cellsD (l.drop (i + 1))).length) from rfl, ← e, List.take_left]
    rw [List.eraseIdx_eq_take_drop_succ, cellsD_append, cellsD_take, ← ht, List.take_take, Nat.min_eq_left (by omega)]
theorem run_del_clear {w : World} {g c n i c2 : Nat} {cur : Array Value} {l : List D} (hg : w.heap[g]? = some (.cells (delRow cur n i (cellsD (l.drop (i + 1)))) 23 (0, 0))) (hn : l.length = n) (hi : i < n) (hnc : n ≤ c) (hcs : cur.size = c * 2) (ht : cur.toList.take (n * 2) = cellsD l) (ty : TypeId) :
    (Builtin.clear_ #[24] ty #[.slice (some ⟨g, (n - 1) * 2, none⟩) 1 c2]).run Try.prog w = .ok (.tuple #[]) (w.setRow g (delRow2 cur n i l)) := by
  obtain ⟨i0, hi0, hz0, hz1, hz2⟩ := info_parts info24
  obtain ⟨hs, _⟩ := delRow_take hn hi hnc hcs ht
  have hzc : (Builtin.zeroCells (Value.cells (.agg #[.string ByteArray.empty, .int .i64 0])) 1).toList = [Value.string ByteArray.empty, Value.int .i64 0] := by kernel_rfl
  have hst := run_storeCells_at (P := Try.prog) g ((n - 1) * 2) 23 [.string ByteArray.empty, .int .i64 0] 0 _ w hg (by rw [hs]; simp; omega) (by intro v hv; simp at hv; rcases hv with rfl | rfl <;> rfl)
  have hzv : (zeroValue 23).run Try.prog w = .ok (.agg #[.string ByteArray.empty, .int .i64 0]) w := by simp [zeroValue, typeInfo, hi0, hz0, go_sem]
  unfold delRow2
  simp only [Nat.add_zero, List.length_cons, List.length_nil, Nat.zero_add, Nat.reduceAdd] at hst
  simp [Builtin.clear_, run_underlying Try.underlying24, hzv, hzc, hst, Result.andThen]
theorem del_grows {w w1 : World} {base g c n i : Nat} {cur : Array Value} {l : List D} (hg : w1.heap[g]? = some (.cells (delRow2 cur n i l) 23 (0, 0))) (hn : l.length = n) (hi : i < n) (hb : base ≤ g) (hnc : n ≤ c) (hcm : c ≤ maxLen) (hcs : cur.size = c * 2) (ht : cur.toList.take (n * 2) = cellsD l) :
    GrD w1 base (some ⟨g, 0, none⟩) c (l.eraseIdx i) := by
  obtain ⟨hs, h2⟩ := delRow_take hn hi hnc hcs ht
  have hle : (l.eraseIdx i).length = n - 1 := by rw [List.length_eraseIdx, if_pos (by omega), hn]
  have h1 : ((delRow cur n i (cellsD (l.drop (i + 1)))).toList.take ((n - 1) * 2)).length = (n - 1) * 2 := by rw [h2, cellsD_length, hle]
  refine ⟨by rw [cellsD_length], .inr ⟨g, c, delRow2 cur n i l, rfl, hb, hg, by rw [hle]; omega, hcm, ?_, ?_⟩⟩
  · unfold delRow2
    simp only [List.size_toArray, List.length_append, h1, List.length_cons, List.length_nil, List.length_drop, Array.length_toList, hs]
    omega
  · rw [hle]
    unfold delRow2
    rw [show ∀ (a b d : List Value), ((a ++ b ++ d).toArray).toList = a ++ (b ++ d) from fun a b d => by simp]
    rw [List.take_left' h1, h2]
end Go.Proofs.Ytdffifkleaekhaa.O
