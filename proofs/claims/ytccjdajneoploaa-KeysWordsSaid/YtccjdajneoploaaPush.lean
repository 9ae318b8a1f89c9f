/-
  out = append(out, x) where out lies in a box.
-/
import Derived.Test.YtccjdajneoploaaIter
import Derived.RangeFuncBox
namespace Go.Proofs.Ytccjdajneoploaa
open Go.RowKit Go.Shelf

/-- An append whose run is known, within a fence. -/
theorem wpListIn_append_run {F : Fence} {n : Nat} {P : Program} {w w' : World} {v' : Value} {ops : Array Oper} {rest : List Oper} {o : Oper} {a : Act} {Q : Exit → Act → World → Prop} (hg : o.guard = none) (s x : Operand) (t u : TypeId)
    (hop : o.op = .call { callee := .builtin .append, args := #[s, x], argTypes := #[t, u] }) (vs vx : Value) (hs : a.eval s = vs) (hx : a.eval x = vx) (hrun : (Builtin.append_ #[t, u] o.type #[vs, vx]).run P w = .ok v' w')
    (h : wpListIn F n P ops Q rest (a.put o.dst v') w') : wpListIn F n P ops Q (o :: rest) a w := by
  refine wpListIn_plain hg fun K hK' => ?_
  unfold Oper.wpIn
  refine ⟨?_, ?_⟩
  · simp [Oper.about, hop, resolve, Target.leads, Sem.run_pure]
  · rw [Oper.semAt_plain F _ _ (by rw [hop]; intro c hc'; cases hc')]
    simp [execOp, hop, resolve, invoke, builtin, hs, hx, hrun, Result.andThen]
    exact hK' _ _ h

/-- The box B holds a slice that holds l. -/
def Outs (base B : Nat) (l : List Nat) (W : World) : Prop := ∃ A c, Boxed W B 42 (.slice A l.length c) ∧ Gr W base A c l
theorem outs_own {β : Type} (base B : Nat) (f : β → List Nat) : Own (fun s W => Outs base B (f s) W) := by
  rintro s X Y row ⟨A, c, hv, hr⟩ hg hrow
  refine ⟨A, c, hv.kept hg (fun e' => ?_), hr.kept hg (fun k hk e' => ?_)⟩
  · obtain ⟨o, ho, hc⟩ := hrow B e'.symm
    rw [show X.heap[B]? = _ from hv] at ho; cases ho; cases hc
  · obtain ⟨o, ho, hc⟩ := hrow k hk
    rcases hr.cases with ⟨rfl, h2, rfl⟩ | ⟨g, rfl, hO⟩
    · simp [Value.ownBlock] at e'
    · obtain rfl : g = k := by simpa [Value.ownBlock] using e'
      obtain ⟨cur, _, hc2, _⟩ := hO.parts
      rw [hc2] at ho; cases ho; cases hc

theorem one_grown {w : World} {base c : Nat} {A : Option Addr} {l : List Nat} (h : Gr w base A c l) (x : Nat) (hx : x < 256) (ty : TypeId) (hb : l.length ≤ 199999999999999) (hbase : base ≤ w.heap.size) :
    ∃ A' c' w', (Builtin.append_ #[42, 42] ty #[.slice A l.length c, .slice (some ⟨w.heap.size, 0, none⟩) 1 1]).run Try.prog (w.alloc (.cells #[.int .u8 (x : Int)] 5)) = .ok (.slice A' (l.length + 1) c') w' ∧ w'.ownsRow base 5 1 (.slice A' (l.length + 1) c') (l.length + 1) (cellsB (l ++ [x])) ∧ (w.alloc (.cells #[.int .u8 (x : Int)] 5)).grownBy w' (Value.slice A l.length c).ownBlock := by
  obtain ⟨i0, hi, hz0, hz1, hz2⟩ := info_parts info5
  obtain ⟨v', w', hrun, ho, hg, hn⟩ := run_append_own_wide (P := Try.prog) (w.alloc (.cells #[.int .u8 (x : Int)] 5)) base 42 ty 5 i0 (.int .u8 0) 1 1 Try.underlying42 hi hz0 hz1 hz2 rfl (by decide) _ _ _ (h.alloc (.cells #[.int .u8 (x : Int)] 5)) _ 1 1 (cellsB [x]) (by simp [cellsB]) (row_cells (row_one w x hx) _ rfl) (oneCell_cellsB [x]) (by unfold maxLen; omega) (by omega) (by simp; omega)
  obtain ⟨g', cap', rfl⟩ := ownsRow_succ ho
  refine ⟨_, _, w', hrun, ?_, hg⟩
  rw [show cellsB (l ++ [x]) = cellsB l ++ cellsB [x] by simp [cellsB]]
  exact ho

/-- What a push leaves. -/
structure Pushed (W W' : World) (base B : Nat) (l : List Nat) : Prop where
  outs : Outs base B l W'
  others : KeepsOthers W W'
  below : Below base W W'
  boxes : ∀ B2 t v, B2 ≠ B → t ≠ 5 → Boxed W B2 t v → Boxed W' B2 t v
theorem push {W : World} {base B c : Nat} {A : Option Addr} {l : List Nat} (hv : Boxed W B 42 (.slice A l.length c)) (hg : Gr W base A c l) (hbase : base ≤ W.heap.size) (hB : base ≤ B) (x : Nat) (hx : x < 256) (hb : l.length ≤ 199999999999999) :
    ∃ A' c' w1, (Builtin.append_ #[42, 42] 42 #[.slice A l.length c, .slice (some ⟨W.heap.size, 0, none⟩) 1 1]).run Try.prog (W.alloc (.cells #[.int .u8 (x : Int)] 5)) = .ok (.slice A' (l.length + 1) c') w1 ∧
      w1.cell? ⟨B, 0, none⟩ = some (.slice A l.length c) ∧ w1.frozen? ⟨B, 0, none⟩ = false ∧ Boxed (w1.setCell ⟨B, 0, none⟩ (.slice A' (l.length + 1) c')) B 42 (.slice A' (l.length + 1) c') ∧
      Gr (w1.setCell ⟨B, 0, none⟩ (.slice A' (l.length + 1) c')) base A' c' (l ++ [x]) ∧ Pushed W (w1.setCell ⟨B, 0, none⟩ (.slice A' (l.length + 1) c')) base B (l ++ [x]) := by
  obtain ⟨A', c', w1, hrun, ho, hgr⟩ := one_grown hg x hx 42 hb hbase
  have e3 : (l ++ [x]).length = l.length + 1 := by simp
  obtain ⟨b1, b2, b3, b4, b5⟩ := Boxed.appended hv (by decide : (42 : Nat) ≠ 5) hg hbase hB ho hgr
  have hG : Gr (w1.setCell ⟨B, 0, none⟩ (.slice A' (l.length + 1) c')) base A' c' (l ++ [x]) := by unfold Gr; rw [e3]; exact b3
  refine ⟨A', c', w1, hrun, b1.cell, b1.frozen, b2, hG, ⟨⟨A', c', by rw [e3]; exact b2, hG⟩, b4, b5, fun B2 t v hne ht h => ?_⟩⟩
  exact ((h.alloc _).kept hgr (h.not_row ht hg)).other hne _
end Go.Proofs.Ytccjdajneoploaa
