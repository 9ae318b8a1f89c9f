/-
  out = append(out, d) where out lies in a box; what the walks over two vectors share.
-/
import Derived.Test.YtdffifkleaekhaaVSeq
import Derived.RangeFuncBox
import Derived.RangeFuncKeeps
namespace Go.Proofs.Ytdffifkleaekhaa.V
open Go.RowKit Go.Shelf
set_option linter.unusedVariables false
set_option linter.unusedSimpArgs false

/-- An append whose run is known, within a fence. -/
theorem wpListIn_append_run {F : Fence} {n : Nat} {P : Program} {w w' : World} {v' : Value} {ops : Array Oper} {rest : List Oper} {o : Oper} {a : Act} {Q : Exit → Act → World → Prop} (hg : o.guard = none) (s x : Operand) (t u : TypeId)
    (hop : o.op = .call { callee := .builtin .append, args := #[s, x], argTypes := #[t, u] }) (vs vx : Value) (hs : a.eval s = vs) (hx : a.eval x = vx) (hrun : (Builtin.append_ #[t, u] o.type #[vs, vx]).run P w = .ok v' w')
    (h : wpListIn F n P ops Q rest (a.put o.dst v') w') : wpListIn F n P ops Q (o :: rest) a w := by
  refine wpListIn_plain hg fun K hK' => ?_
  unfold Oper.wpIn
  refine ⟨?_, ?_⟩
  · simp [Oper.about, hop, resolve, Target.leads, Sem.run_pure]
  · rw [Oper.semAt_plain F _ _ (by rw [hop]; intro c hc'; cases hc')]
    simp [execOp, hop, resolve, invoke, builtin, hs, hx, hrun, Result.andThen]
    exact hK' _ _ h

theorem boxed_below {W W' : World} {B N : Nat} {t : TypeId} {v : Value} (h : Boxed W B t v) (hb : Below N W W') (hg : B < N) : Boxed W' B t v := (hb.block B hg).trans h
theorem mrg_len : ∀ (k : Nat) (a b : List D), (mrg k a b).length ≤ k
  | 0, _, _ => by simp [mrg]
  | k + 1, a, b => by
    by_cases h : 0 < a.length ∨ 0 < b.length
    · rw [mrg_step k h, List.length_cons]
      have := mrg_len k (cutT a (nextW a b)) (cutT b (nextW a b))
      omega
    · have ea : a = [] := List.eq_nil_of_length_eq_zero (by omega)
      have eb : b = [] := List.eq_nil_of_length_eq_zero (by omega)
      subst ea; subst eb
      rw [mrg_nil]; simp
theorem pre_len {K : Nat} {a b : List D} {pre : List T} {z : T} (h : pre ++ [z] <+: mrg K a b) : pre.length < K := by
  have h1 := h.length_le
  have h2 := mrg_len K a b
  rw [List.length_append] at h1
  simp at h1
  omega
/-- The box B holds a slice of dots of the call's own. -/
def OutD (base B : Nat) (l : List D) (W : World) : Prop := ∃ A c, Boxed W B 24 (.slice A l.length c) ∧ GrD W base A c l
theorem GrD.kept {w w' : World} {base c : Nat} {A : Option Addr} {l : List D} {row : Option Nat} (h : GrD w base A c l) (hg : w.grownBy w' row) (hr : ∀ k, blk A = some k → some k ≠ row) : GrD w' base A c l := by
  refine ⟨h.1, ?_⟩
  rcases h.2 with ⟨e, h0⟩ | ⟨g, cap, cur, e, hb', hc, h1⟩
  · exact .inl ⟨e, h0⟩
  · have := (Array.getElem?_eq_some_iff.1 hc).1
    have hA : blk A = some g := by injection e with e1; rw [e1]; rfl
    exact .inr ⟨g, cap, cur, e, hb', (hg.block g this (hr g hA)).trans hc, h1⟩
theorem outD_own {β : Type} (base B : Nat) (f : β → List D) : Own (fun s W => OutD base B (f s) W) := by
  rintro s X Y row ⟨A, c, hv, hr⟩ hg hrow
  refine ⟨A, c, hv.kept hg (fun e' => ?_), hr.kept hg (fun k hk e' => ?_)⟩
  · obtain ⟨o, ho, hc⟩ := hrow B e'.symm
    rw [show X.heap[B]? = _ from hv] at ho; cases ho; cases hc
  · obtain ⟨o, ho, hc⟩ := hrow k e'.symm
    rcases hr.cases with ⟨rfl, h2, rfl⟩ | ⟨g, cur, rfl, hb, hO, _⟩
    · simp [blk] at hk
    · obtain rfl : g = k := by simpa [blk] using hk
      rw [hO] at ho; cases ho; cases hc
theorem OutD.new {w : World} {base : Nat} : OutD base w.heap.size [] (w.alloc (.cells #[.slice none 0 0] 24)) := ⟨none, 0, Boxed.new w _ _, GrD.nil _ _⟩
/-- One dot more. -/
theorem push {W : World} {base B c : Nat} {A : Option Addr} {l : List D} (hv : Boxed W B 24 (.slice A l.length c)) (hg : GrD W base A c l) (hbase : base ≤ W.heap.size) (hB : B < base) (r : D) (hb : l.length ≤ 10000000) :
    ∃ A' c' w1, (Builtin.append_ #[24, 24] 24 #[.slice A l.length c, .slice (some ⟨W.heap.size, 0, none⟩) 1 1]).run Try.prog (W.alloc (.cells #[.string r.1, .int .i64 r.2] 23)) = .ok (.slice A' (l.length + 1) c') w1 ∧
      w1.cell? ⟨B, 0, none⟩ = some (.slice A l.length c) ∧ w1.frozen? ⟨B, 0, none⟩ = false ∧ OutD base B (l ++ [r]) (w1.setCell ⟨B, 0, none⟩ (.slice A' (l.length + 1) c')) ∧
      Kept (fun k => k = B ∨ base ≤ k) W (w1.setCell ⟨B, 0, none⟩ (.slice A' (l.length + 1) c')) ∧ Below B W (w1.setCell ⟨B, 0, none⟩ (.slice A' (l.length + 1) c')) := by
  obtain ⟨A', c', w1, hrun, ho, hbl, hk, hs, hA⟩ := hg.one r 24 hb hbase
  have e3 : (l ++ [r]).length = l.length + 1 := by simp
  have b1 : Boxed w1 B 24 (.slice A l.length c) := boxed_below hv hbl hB
  refine ⟨A', c', w1, hrun, b1.cell, b1.frozen, ⟨A', c', by rw [e3]; exact b1.set _, ?_⟩, ?_, ?_⟩
  · refine ho.kept (grownBy_setCell' w1 B _) fun k hk e => ?_
    injection e with e
    have e' : k = B := e
    have := (ho.lt k hk).1
    omega
  · have k1 : Kept (fun k => k = B ∨ base ≤ k) W w1 := ⟨hs, fun k hlt hx => hk k hlt fun e => hx (.inr (hg.lt k e).1)⟩
    exact k1.setCell (p := ⟨B, 0, none⟩) (.inl rfl) _
  · exact (hbl.mono (Nat.le_of_lt hB)).setCell (p := ⟨B, 0, none⟩) (Nat.le_refl _) _
def mapF (f : Int → Int → Int) (xs : List T) : List D := xs.map fun z => (z.1, f z.2.1 z.2.2)
theorem map_out {f : Int → Int → Int} : ∀ {xs : List T}, (∀ z ∈ xs, 0 < f z.2.1 z.2.2) → mapF f xs = outF f xs
  | [], _ => rfl
  | z :: t, h => by
    have h1 := h z (List.mem_cons_self ..)
    have h2 := map_out (f := f) (xs := t) fun y hy => h y (List.mem_cons_of_mem _ hy)
    unfold mapF outF at *
    rw [List.map_cons, List.filterMap_cons, h2]
    simp only [h1, if_true]
theorem outF_snoc (f : Int → Int → Int) (pre : List T) (z : T) : outF f (pre ++ [z]) = if 0 < f z.2.1 z.2.2 then outF f pre ++ [(z.1, f z.2.1 z.2.2)] else outF f pre := by
  unfold outF
  rw [List.filterMap_append]
  by_cases h : 0 < f z.2.1 z.2.2
  · simp [h]
  · simp [h]
theorem outF_len (f : Int → Int → Int) (xs : List T) : (outF f xs).length ≤ xs.length := List.length_filterMap_le _ _
end Go.Proofs.Ytdffifkleaekhaa.V
