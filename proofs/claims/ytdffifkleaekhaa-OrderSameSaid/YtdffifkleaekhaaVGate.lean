/-
  What comes in: slices of dots, dots.
-/
import Derived.Test.YtdffifkleaekhaaRows
import Derived.Test.YtdffifkleaekhaaVMeet
import Derived.ProofKit
import Derived.OpenShut
import Derived.ShutString
import Derived.ChangeOld
import Derived.SizedLaws
import Derived.ChangeMaps5
import Derived.Deep.Strs
import Derived.Deep.Slices
namespace Go.Proofs.Ytdffifkleaekhaa.V
set_option maxRecDepth 100000
open Go.ChangeShapes Go.WideShapes Go.ChangeAt Go.RowKit Go.Deep
set_option linter.unusedVariables false

theorem own : ownKnob Try.prog.godebug = none := by kernel_rfl
theorem laidOut : laidOutB Try.prog = true := by kernel_rfl
theorem bytes24 : Try.prog.bytesOf 23 = 24 := by kernel_rfl
theorem bytes22 : Try.prog.bytesOf 24 = 24 := by kernel_rfl
theorem bytes5 : Try.prog.bytesOf 5 = 1 := by kernel_rfl
theorem cells24 : Try.prog.cellsOf 23 = 2 := by kernel_rfl
theorem cells9 : Try.prog.cellsOf 9 = 1 := by kernel_rfl
theorem cells2 : Try.prog.cellsOf 2 = 1 := by kernel_rfl
/-- A dot's two cells. -/
theorem open_cells {H : Type} {enc : TypeId × Value → H} {w : World} {base n : Nat} {sp : Nat → Bool} {held : Bool} {cs : List Value} {x : DataW H × List MemPlace} (h : DataW.trod enc Try.prog w base sp held n 23 cs = some x) (hlen : cs.length = 2) :
    ∃ d : D, d.1.size ≤ 9223372036854775807 ∧ cs = [.string d.1, .int .i64 d.2] := by
  obtain ⟨f0, f1, hu, ⟨t0, o0, _⟩, ⟨t1, o1, _⟩⟩ := fields24
  obtain ⟨xs, m, _, _, _, hl, hf⟩ := DataW.trod_struct hu h
  match cs, hlen with
  | [v0, v1], _ =>
    have h0 := hf 0 f0 rfl
    have h1 := hf 1 f1 rfl
    rw [t0, o0, cells9, List.getElem?_eq_getElem (by rw [hl]; simp)] at h0
    rw [t1, o1, cells2, List.getElem?_eq_getElem (by rw [hl]; simp)] at h1
    obtain ⟨s, e0, _, hs⟩ := DataW.trod_string Try.underlying9 h0
    obtain ⟨z, e1, _, _⟩ := DataW.trod_int Try.underlying2 h1
    simp at e0 e1
    refine ⟨(s, z), ?_, by rw [e0, e1]⟩
    unfold maxLen at hs
    simp only
    omega
theorem open_dots {H : Type} {enc : TypeId × Value → H} {W : World} {x : Addr} {len m n : Nat} (hel : ∀ i, i < m → ∃ cs', W.cells? 0 (x.add (i * Try.prog.cellsOf 23)) (Try.prog.cellsOf 23) = some cs' ∧ ∃ y, DataW.trod enc Try.prog W 0 (fun _ => true) true n 23 cs' = some y) (hlm : len ≤ m) :
    ∃ l : List D, len = l.length ∧ RowD W W.heap.size (some x) l ∧ Fit l := by
  have each : ∀ i, i < len → ∃ q : D, q.1.size ≤ 9223372036854775807 ∧ W.cell? (x.add (i * 2)) = some (.string q.1) ∧ W.cell? (x.add (i * 2 + 1)) = some (.int .i64 q.2) := by
    intro i hi
    obtain ⟨cs', h1, y, h2⟩ := hel i (by omega)
    rw [cells24] at h1
    obtain ⟨_, hlen, hcell⟩ := World.cells?_some h1
    obtain ⟨d, hd, rfl⟩ := open_cells h2 hlen
    have c0 := hcell 0 (by omega)
    have c1 := hcell 1 (by omega)
    rw [Go.Deep.add_add] at c0 c1
    exact ⟨d, hd, by simpa using c0, by simpa using c1⟩
  haveI : Inhabited D := ⟨(⟨#[]⟩, 0)⟩
  obtain ⟨q, hq⟩ := choose_lt each
  refine ⟨(List.range len).map q, by simp, fun hpos => ?_, ?_⟩
  · rw [List.length_map, List.length_range] at hpos
    have hc0 := (hq 0 hpos).2.1
    obtain ⟨b, off, spot⟩ := x
    have hspot : spot = none := by simpa [Addr.add] using World.cell?_spot hc0
    subst hspot
    have hadd : ∀ j, (⟨b, off, none⟩ : Addr).add j = ⟨b, off + j, none⟩ := fun j => by
      unfold Addr.add; split
      · rename_i h; subst h; rfl
      · rfl
    simp only [hadd] at hq hc0
    refine ⟨b, off, rfl, World.block_lt_of_cell? W _ hc0, fun j r hj => ?_⟩
    obtain ⟨hj1, hj2⟩ := List.getElem?_eq_some_iff.1 hj
    rw [List.length_map, List.length_range] at hj1
    simp only [List.getElem_map, List.getElem_range] at hj2
    subst hj2
    exact (hq j hj1).2
  · intro d hd
    obtain ⟨i, hi, rfl⟩ := List.mem_map.1 hd
    exact (hq i (List.mem_range.1 hi)).1
/-- A slice of dots that came in. -/
theorem openD {H : Type} {enc : TypeId × Value → H} {W : World} {a : Option Addr} {len cap : Nat} {d : DataW H} {p : List MemPlace} (h : DataW.Trod enc Try.prog W 0 (fun _ => true) true 24 (.slice a len cap) d p) :
    ∃ l : List D, len = l.length ∧ RowD W W.heap.size a l ∧ Fit l ∧ (l.length = 0 ∨ ∃ elems spare, d = .slice elems spare ∧ l.length ≤ elems.length + spare.length) ∧ l.length ≤ cap ∧ cap ≤ 9223372036854775807 := by
  obtain ⟨fuel, hf⟩ := h
  rcases open_slice Try.underlying24 hf with ⟨hcs, _⟩ | ⟨x, l, c, m, n, Dd, Pl, hcs, _, hl, hm, hmm, hx, hel⟩
  · simp [Value.cells] at hcs
    obtain ⟨rfl, rfl, rfl⟩ := hcs
    exact ⟨[], rfl, RowD.none_ _ _ _, by simp [Fit], .inl rfl, by simp, by omega⟩
  · simp [Value.cells] at hcs
    obtain ⟨rfl, rfl, rfl⟩ := hcs
    simp only [if_true] at hmm
    subst hmm
    simp only [Prod.mk.injEq] at hx
    obtain ⟨l, e1, e2, e3⟩ := open_dots (len := len) (fun i hi => by obtain ⟨cs', h1, h2⟩ := hel i hi; exact ⟨cs', h1, _, h2⟩) hl
    subst e1
    refine ⟨l, rfl, e2, e3, .inr ⟨_, _, hx.1, ?_⟩, hl, by unfold maxLen at hm; omega⟩
    simp
/-- A dot that came in. -/
theorem openDot {H : Type} {enc : TypeId × Value → H} {W : World} {base : Nat} {v : Value} {d : DataW H} {p : List MemPlace} (hv : Value.okWide Try.prog W .any base 23 v) (h : DataW.Trod enc Try.prog W 0 (fun _ => true) true 23 v d p) :
    ∃ (s : ByteArray) (n : Int), v = .agg #[.string s, .int .i64 n] ∧ s.size ≤ 9223372036854775807 := by
  obtain ⟨f0, f1, hu, _, _⟩ := fields24
  obtain ⟨cs, rfl, hsz⟩ := okWide_struct hu hv
  rw [cells24] at hsz
  obtain ⟨l⟩ := cs
  obtain ⟨fuel, hf⟩ := h
  obtain ⟨⟨s, n⟩, hs, e⟩ := open_cells hf (by simpa [Value.cells] using hsz)
  simp only at hs e
  exact ⟨s, n, by simp [Value.cells] at e; rw [e], hs⟩
end Go.Proofs.Ytdffifkleaekhaa.V
