/-
  Operations where they lie: in a value, in a variable; two compared.
-/
import Derived.Test.YtdffifkleaekhaaVSame
import Derived.Test.YtdffifkleaekhaaOMath
namespace Go.Proofs.Ytdffifkleaekhaa.O
open Go.RowKit Go.Proofs.Ytdffifkleaekhaa.V
set_option linter.unusedVariables false
set_option linter.unusedSimpArgs false

/-- An operation, and where its two slices lie. -/
structure Ov where
  o : Op
  A : Option Addr
  c : Nat
  A2 : Option Addr
  c2 : Nat
def Ov.cells (x : Ov) : Array Value := #[.string x.o.dot.1, .int .i64 x.o.dot.2, .slice x.A x.o.deps.length x.c, .string x.o.cart, .int .i64 x.o.kind, .string x.o.item, .int .i64 x.o.qty, .slice x.A2 x.o.seen.length x.c2]
def Ov.v (x : Ov) : Value := .agg x.cells
structure FitO (o : Op) : Prop where
  deps : Fit o.deps
  seen : Fit o.seen
  who : o.dot.1.size ≤ 9223372036854775807
  cart : o.cart.size ≤ 9223372036854775807
  item : o.item.size ≤ 9223372036854775807
structure Ov.ok (x : Ov) (w : World) (B : Nat) : Prop where
  d : Vc.ok ⟨x.A, x.c, x.o.deps⟩ w B
  s : Vc.ok ⟨x.A2, x.c2, x.o.seen⟩ w B
  fit : FitO x.o
theorem Ov.ok.below {x : Ov} {w w' : World} {B : Nat} (h : x.ok w B) (hb : Below B w w') : x.ok w' B := ⟨h.d.below hb, h.s.below hb, h.fit⟩
theorem Ov.ok.more {x : Ov} {w : World} {B B' : Nat} (h : x.ok w B) (hB : B ≤ B') : x.ok w B' := ⟨h.d.more hB, h.s.more hB, h.fit⟩
theorem Ov.ok.up {x : Ov} {w w' : World} (h : x.ok w w.heap.size) (hb : Below w.heap.size w w') : x.ok w' w'.heap.size := ⟨h.d.up hb, h.s.up hb, h.fit⟩
/-- A variable that holds one. -/
def Op8 (w : World) (k : Nat) (x : Ov) : Prop := w.heap[k]? = some (.cells x.cells 26 (0, 0))
theorem Op8.new (w : World) (x : Ov) : Op8 (w.alloc (.cells x.cells 26)) w.heap.size x := heap_alloc_new w _
theorem Op8.lt {w : World} {k : Nat} {x : Ov} (h : Op8 w k x) : k < w.heap.size := (Array.getElem?_eq_some_iff.1 h).1
theorem Op8.below {w w' : World} {k B : Nat} {x : Ov} (h : Op8 w k x) (hb : Below B w w') (hB : k < B) : Op8 w' k x := (hb.block k hB).trans h
structure Op8.Cells (w : World) (k : Nat) (x : Ov) : Prop where
  c0 : w.cell? ⟨k, 0, none⟩ = some (.string x.o.dot.1)
  c1 : w.cell? ⟨k, 1, none⟩ = some (.int .i64 x.o.dot.2)
  c2 : w.cell? ⟨k, 2, none⟩ = some (.slice x.A x.o.deps.length x.c)
  c3 : w.cell? ⟨k, 3, none⟩ = some (.string x.o.cart)
  c4 : w.cell? ⟨k, 4, none⟩ = some (.int .i64 x.o.kind)
  c5 : w.cell? ⟨k, 5, none⟩ = some (.string x.o.item)
  c6 : w.cell? ⟨k, 6, none⟩ = some (.int .i64 x.o.qty)
  c7 : w.cell? ⟨k, 7, none⟩ = some (.slice x.A2 x.o.seen.length x.c2)
theorem Op8.at {w : World} {k : Nat} {x : Ov} (h : Op8 w k x) : Op8.Cells w k x := by
  refine ⟨?_, ?_, ?_, ?_, ?_, ?_, ?_, ?_⟩
  · rw [cell_of_row w k 0 _ 26 (0, 0) h]; rfl
  · rw [cell_of_row w k 1 _ 26 (0, 0) h]; rfl
  · rw [cell_of_row w k 2 _ 26 (0, 0) h]; rfl
  · rw [cell_of_row w k 3 _ 26 (0, 0) h]; rfl
  · rw [cell_of_row w k 4 _ 26 (0, 0) h]; rfl
  · rw [cell_of_row w k 5 _ 26 (0, 0) h]; rfl
  · rw [cell_of_row w k 6 _ 26 (0, 0) h]; rfl
  · rw [cell_of_row w k 7 _ 26 (0, 0) h]; rfl
/-- Two dots compared. -/
theorem eq_dot (s t : ByteArray) (n m : Int) (w : World) : (binOp .eql 23 (.agg #[.string s, .int .i64 n]) (.agg #[.string t, .int .i64 m])).run Try.prog w = .ok (.bool (decide ((s, n) = (t, m)))) w := by
  obtain ⟨f0, f1, hu, ⟨h0, o0, b0⟩, ⟨h1, o1, b1⟩⟩ := fields24
  have hf : Try.prog.fieldsOf 23 = #[f0, f1] := by unfold Program.fieldsOf; rw [hu]
  rw [run_eql_struct, run_equalIn_struct (P := Try.prog) w 9999 23 _ _ (by rw [hf]; exact hu) (by kernel_rfl), hf]
  simp [Op.eqFields, h0, h1, o0, o1, b0, b1, go_sem, eq_str]
  by_cases e : s = t <;> by_cases e2 : n = m <;> simp [e, e2]

set_option maxRecDepth 100000 in
set_option maxHeartbeats 1600000 in
theorem rahead_any (a b : D) (w : World) : Calls Try.prog 58 #[.agg #[.string a.1, .int .i64 a.2], .agg #[.string b.1, .int .i64 b.2]] w fun e w' => e = .returned (.bool (aheadB a b)) ∧ Below w.heap.size w w' := by
  obtain ⟨s, n⟩ := a
  obtain ⟨t, m⟩ := b
  have HB2 := Lib.hid (((Below.refl _ w).alloc (Nat.le_refl _) (.cells #[.string s, .int .i64 n] 23)).alloc (by simp) (.cells #[.string t, .int .i64 m] 23))
  obtain ⟨X, hX⟩ : ∃ X, Op.bytesLess s.toList t.toList = X := ⟨_, rfl⟩
  obtain ⟨E, hE⟩ : ∃ E, decide (s = t) = E := ⟨_, rfl⟩
  have heq : (s.toList == t.toList) = E := by rw [eq_str, hE]
  have hD : aheadB (s, n) (t, m) = (X || E && decide (n < m)) := by unfold aheadB ltA; simp only; rw [hX, hE]
  rw [hD]
  simp only
  clear hD hE
  cases X with
  | true =>
    go_enter Try.func58, Try.ntmps58
    go_wp2
    go_ret
    exact ⟨ret_bool (by simp), HB2.out⟩
  | false =>
    cases E with
    | true =>
      by_cases hn : n < m
      all_goals
        go_enter Try.func58, Try.ntmps58
        go_wp2
        go_ret
        exact ⟨ret_bool (by simp [hn]), HB2.out⟩
    | false =>
      go_enter Try.func58, Try.ntmps58
      go_wp2
      go_ret
      exact ⟨ret_bool (by simp), HB2.out⟩
end Go.Proofs.Ytdffifkleaekhaa.O
