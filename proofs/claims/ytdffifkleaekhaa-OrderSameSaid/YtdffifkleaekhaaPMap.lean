/-
  A map of operations by their dots.
-/
import Derived.Test.YtdffifkleaekhaaOEv
import Derived.Test.YtdffifkleaekhaaVGate
import Derived.Maps.Own
import Derived.Maps.OwnSet
import Derived.DeepKeys5
namespace Go.Proofs.Ytdffifkleaekhaa.O
open Go.RowKit Go.Proofs.Ytdffifkleaekhaa.V Go.Maps
set_option linter.unusedVariables false
set_option linter.unusedSimpArgs false

theorem keyT : Try.prog.keyType 23 = true := by kernel_rfl
theorem types_big : ∃ m, Try.prog.types.size = m + 1 := ⟨Try.prog.types.size - 1, by kernel_rfl⟩
theorem wideD : (match Try.prog.underlying 23 with | some (.array _ _) | some (.struct _) => true | _ => false) = true := by rw [Try.underlying23]
theorem rowD : 23 < Try.prog.types.size := of_decide_eq_true (by kernel_rfl)
theorem smallP : Try.prog.types.size + 2 ≤ 10000 := of_decide_eq_true (by kernel_rfl)
theorem keyD {s : ByteArray} {n : Int} (hs : s.size ≤ maxLen) (hn : (Lit.int .i64 n).wf = true) : ∃ l, keyOf Try.prog 23 (dv (s, n)) = some l := by
  obtain ⟨f0, f1, hu, ⟨h0, o0, b0⟩, ⟨h1, o1, b1⟩⟩ := fields24
  obtain ⟨m, hm⟩ := types_big
  have u9 := Try.underlying9
  have u2 := Try.underlying2
  refine Option.isSome_iff_exists.1 ?_
  unfold keyOf
  simp only [hu]
  rw [if_pos (by simp [keyT, dv, Value.formed, hu, cells24])]
  rw [hm]
  simp only [Program.keyLits, hu, dv, Value.cells, cells24]
  rw [if_pos (by simp [b0, b1])]
  simp only [List.mapM_cons, List.mapM_nil, h0, h1, o0, o1, cells9, cells2]
  simp [Program.keyLits, u9, u2, hs, hn]
set_option maxRecDepth 100000 in
theorem keyedD : Keyed Try.prog 23 := Keyed.of_law (deep_law_gate laidOut smallP rowD keyT wideD)
abbrev heldR (v : Value) : Option (DataW Value × List MemPlace) := some (.held v, [])
def findO (O : List Ov) (d : D) : Option Ov := O.find? fun x => decide (x.o.dot = d)
def askO (O : List Ov) (d : D) : DataW Value := match findO O d with | none => .nil | some x => .held x.v
/-- Block m is a map that holds, at each dot, the first of O that has it. -/
def MapO (w : World) (m n : Nat) (O : List Ov) : Prop := ∃ DD, w.ownsMap Try.prog 23 heldR m n DD ∧ ∀ d l, keyOf Try.prog 23 (dv d) = some l → DD.atKey l .nil = askO O d
theorem MapO.new (w : World) : MapO (w.alloc (.map #[] 0)) w.heap.size 0 [] := ⟨_, World.ownsMap_made w _ _ _, fun d l _ => rfl⟩
theorem MapO.lt {w : World} {m n : Nat} {O : List Ov} (h : MapO w m n O) : m < w.heap.size := by obtain ⟨DD, h, _⟩ := h; exact h.lt
theorem MapO.same {w w' : World} {m n : Nat} {O : List Ov} (h : MapO w m n O) (hb : w'.heap[m]? = w.heap[m]?) : MapO w' m n O := by
  obtain ⟨DD, ⟨es, clock, hb', F, hs, hD⟩, h⟩ := h
  exact ⟨DD, ⟨es, clock, hb.trans hb', F, hs, hD⟩, h⟩
theorem MapO.kind {w : World} {m n : Nat} {O : List Ov} (h : MapO w m n O) : ∃ es clock, w.heap[m]? = some (.map es clock) := by
  obtain ⟨DD, ⟨es, clock, hb', F, hs, hD⟩, h⟩ := h
  exact ⟨es, clock, hb'⟩
def opZero : Value := .agg #[.string ByteArray.empty, .int .i64 0, .slice none 0 0, .string ByteArray.empty, .int .i64 0, .string ByteArray.empty, .int .i64 0, .slice none 0 0]
theorem zero26 : (Try.prog.info? 26).map (fun i => (i.zero, i.size)) = some (some opZero, 8) := by kernel_rfl
theorem zeroOp (w : World) : (zeroValue 26).run Try.prog w = .ok opZero w := by
  have h := zero26
  cases hi : Try.prog.info? 26 with
  | none => rw [hi] at h; cases h
  | some i =>
    rw [hi] at h
    simp only [Option.map_some, Option.some.injEq, Prod.mk.injEq] at h
    simp [zeroValue, typeInfo, hi, h.1, go_sem]
set_option maxRecDepth 100000 in
theorem MapO.look {w : World} {m n : Nat} {O : List Ov} (h : MapO w m n O) (c : Bool) {s : ByteArray} {k : Int} (hs : s.size ≤ maxLen) (hn : (Lit.int .i64 k).wf = true) :
    (Instr.lookup 86 (.map (some m)) (dv (s, k)) c).run Try.prog w = .ok (match findO O (s, k) with | none => if c then .tuple #[opZero, .bool false] else opZero | some x => if c then .tuple #[x.v, .bool true] else x.v) w := by
  obtain ⟨DD, ⟨es, clock, hb', F, hsz, rfl⟩, h⟩ := h
  obtain ⟨l, hl⟩ := keyD hs hn
  have hat := h (s, k) l hl
  rcases Maps.fit_look c keyedD Try.underlying86 (zeroOp w) hb' F hl with ⟨hrun, _, ha⟩ | ⟨e0, y, _, _, hrun, hRv, ha, _⟩
  · rw [hrun]
    rw [ha] at hat
    unfold askO at hat
    cases hf : findO O (s, k) with
    | none => rfl
    | some x => rw [hf] at hat; cases hat
  · rw [hrun]
    rw [ha] at hat
    cases hRv
    unfold askO at hat
    cases hf : findO O (s, k) with
    | none => rw [hf] at hat; cases hat
    | some x => rw [hf] at hat; injection hat with hat; rw [hat]
set_option maxRecDepth 100000 in
theorem MapO.put {w : World} {m n : Nat} {O : List Ov} (h : MapO w m n O) (hn' : n < maxLen) (x : Ov) (hs : x.o.dot.1.size ≤ maxLen) (hn : (Lit.int .i64 x.o.dot.2).wf = true) :
    ∃ w', (Instr.mapUpdate 86 (.map (some m)) (dv x.o.dot) x.v).run Try.prog w = .ok () w' ∧ MapO w' m (n + 1) (x :: O) ∧ w.grownBy w' (some m) := by
  obtain ⟨DD, ho, h⟩ := h
  obtain ⟨l, hl⟩ := keyD (s := x.o.dot.1) (n := x.o.dot.2) hs hn
  obtain ⟨w', hrun, ho', hg⟩ := ho.update keyedD Try.underlying86 hn' (key := dv x.o.dot) (val := x.v) hl rfl
  refine ⟨w', hrun, ⟨_, ho', fun d l' hl' => ?_⟩, hg⟩
  unfold askO findO
  rw [List.find?_cons]
  by_cases e : x.o.dot = d
  · subst e
    have : l' = l := by have := hl.symm.trans hl'; injection this with this; exact this.symm
    subst this
    simp only [decide_true]
    obtain ⟨es, clock, _, _, _, hD⟩ := ho
    exact Maps.atKey_put_same ⟨_, hD⟩ (keyedD.key hl) _ _
  · have hne : l' ≠ l := fun e2 => e (by
      subst e2
      have := keyedD.inj hl hl'
      unfold dv at this
      injection this with this
      simp at this
      exact Prod.ext this.1 this.2)
    simp only [e, decide_false]
    rw [Maps.atKey_put_other hne]
    exact h d l' hl'
end Go.Proofs.Ytdffifkleaekhaa.O
