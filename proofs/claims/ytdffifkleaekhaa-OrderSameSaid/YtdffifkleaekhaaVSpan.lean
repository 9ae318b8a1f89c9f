/-
  Spans: slices of the call's own; the program's Lack.
-/
import Derived.Test.YtdffifkleaekhaaVMeet2
namespace Go.Proofs.Ytdffifkleaekhaa.V
open Go.RowKit Go.Shelf
set_option linter.unusedVariables false
set_option linter.unusedSimpArgs false
attribute [local go_sem] Oper.semAt_some

/-- A slice of dots' cells. -/
def RowS (w : World) (B : Nat) (A : Option Addr) (l : List T) : Prop :=
  0 < l.length → ∃ b off, A = some ⟨b, off, none⟩ ∧ b < B ∧ ∀ j d, l[j]? = some d → w.cell? ⟨b, off + j * 3, none⟩ = some (.string d.1) ∧ w.cell? ⟨b, off + j * 3 + 1, none⟩ = some (.int .i64 d.2.1) ∧ w.cell? ⟨b, off + j * 3 + 2, none⟩ = some (.int .i64 d.2.2)
theorem RowS.none_ (w : World) (B : Nat) (A : Option Addr) : RowS w B A [] := fun h => absurd h (by simp)
theorem RowS.keep {w w' : World} {B : Nat} {A : Option Addr} {l : List T} (h : RowS w B A l) (hk : ∀ (p : Addr) (v : Value), p.block < B → w.cell? p = some v → w'.cell? p = some v) : RowS w' B A l :=
  fun hn => by obtain ⟨b, off, e, hl, hc⟩ := h hn; exact ⟨b, off, e, hl, fun j p hj => ⟨hk _ _ hl (hc j p hj).1, hk _ _ hl (hc j p hj).2.1, hk _ _ hl (hc j p hj).2.2⟩⟩
theorem RowS.below {w w' : World} {B : Nat} {A : Option Addr} {l : List T} (h : RowS w B A l) (hb : Below B w w') : RowS w' B A l := h.keep fun _ _ hl hc => (hb.cell hl).trans hc
theorem RowS.more {w : World} {B B' : Nat} {A : Option Addr} {l : List T} (h : RowS w B A l) (hB : B ≤ B') : RowS w B' A l := fun hn => by obtain ⟨b, off, e, hb, hc⟩ := h hn; exact ⟨b, off, e, by omega, hc⟩
theorem RowS.up {w w' : World} {A : Option Addr} {l : List T} (h : RowS w w.heap.size A l) (hb : Below w.heap.size w w') : RowS w' w'.heap.size A l := (h.below hb).more hb.size
theorem RowS.at {w : World} {B : Nat} {A : Option Addr} {l : List T} (h : RowS w B A l) (j : Nat) (hj : j < l.length) : ∃ b off, A = some ⟨b, off, none⟩ ∧ b < B ∧ w.cell? ⟨b, off + j * 3, none⟩ = some (.string (l[j]'hj).1) ∧ w.cell? ⟨b, off + j * 3 + 1, none⟩ = some (.int .i64 (l[j]'hj).2.1) ∧ w.cell? ⟨b, off + j * 3 + 2, none⟩ = some (.int .i64 (l[j]'hj).2.2) := by
  obtain ⟨b, off, e, hb, hc⟩ := h (by omega)
  exact ⟨b, off, e, hb, hc j _ (List.getElem?_eq_getElem hj)⟩
/-- A slice of dots of the call's own. -/
def cellsS (l : List T) : List Value := l.flatMap fun d => [.string d.1, .int .i64 d.2.1, .int .i64 d.2.2]
theorem cellsS_length (l : List T) : (cellsS l).length = l.length * 3 := by
  induction l with
  | nil => rfl
  | cons p t ih => simp [cellsS] at ih ⊢; omega
theorem cellsS_get : ∀ (l : List T) (j : Nat) (r : T), l[j]? = some r → (cellsS l)[j * 3]? = some (.string r.1) ∧ (cellsS l)[j * 3 + 1]? = some (.int .i64 r.2.1) ∧ (cellsS l)[j * 3 + 2]? = some (.int .i64 r.2.2)
  | [], j, p, h => by simp at h
  | q :: t, 0, p, h => by simp at h; subst h; simp [cellsS]
  | q :: t, j + 1, p, h => by
    have ih := cellsS_get t j p (by simpa using h)
    have e : cellsS (q :: t) = .string q.1 :: .int .i64 q.2.1 :: .int .i64 q.2.2 :: cellsS t := by simp [cellsS]
    rw [e, show (j + 1) * 3 = j * 3 + 1 + 1 + 1 by omega]
    simp only [List.getElem?_cons_succ]
    exact ih
theorem oneCell_cellsS (l : List T) : ∀ v ∈ cellsS l, v.oneCell' = true := by
  intro v hv
  obtain ⟨p, _, h⟩ := List.mem_flatMap.1 hv
  simp only [List.mem_cons, List.not_mem_nil, or_false] at h
  rcases h with rfl | rfl | rfl <;> rfl
end Go.Proofs.Ytdffifkleaekhaa.V
