/-
  A slice of parts that came in.
-/
import Derived.Test.YtccjdajneoploaaRows
import Derived.Test.YtccjdajneoploaaShown
import Derived.Test.YtccjdajneoploaaBehind
import Derived.ProofKit
import Derived.OpenShut
import Derived.ShutString
import Derived.ChangeOld
import Derived.SizedLaws
import Derived.ChangeMaps5
import Derived.Deep.Strs
namespace Go.Proofs.Ytccjdajneoploaa
open Go.ChangeShapes Go.WideShapes Go.ChangeAt Go.RowKit Go.Deep

theorem own : ownKnob Try.prog.godebug = none := by kernel_rfl
theorem laidOut : laidOutB Try.prog = true := by kernel_rfl
theorem bytes41 : Try.prog.bytesOf 41 = 32 := by kernel_rfl
theorem cells41 : Try.prog.cellsOf 41 = 3 := by kernel_rfl
theorem und41 : ∃ f0 f1 f2 : Field, Try.prog.underlying 41 = some (.struct #[f0, f1, f2]) ∧ (f0.type = 4 ∧ f0.offset = 0) ∧ (f1.type = 39 ∧ f1.offset = 1) ∧ (f2.type = 9 ∧ f2.offset = 2) := ⟨_, _, _, Try.underlying41, ⟨rfl, rfl⟩, ⟨rfl, rfl⟩, ⟨rfl, rfl⟩⟩

theorem openP {H : Type} {enc : TypeId × Value → H} {W : World} {a : Option Addr} {len cap : Nat} {d : DataW H} {p : List MemPlace} (h : DataW.Trod enc Try.prog W 0 (fun _ => true) true 22 (.slice a len cap) d p) :
    ∃ l : List Part, len = l.length ∧ RowP W W.heap.size a l ∧ (l.length = 0 ∨ ∃ elems spare, d = .slice elems spare ∧ l.length ≤ elems.length + spare.length) ∧ l.length ≤ cap := by
  obtain ⟨fuel, hf⟩ := h
  rcases open_slice Try.underlying22 hf with ⟨hcs, _⟩ | ⟨x, l, c, m, n, D, Pl, hcs, _, hl, hm, hmm, hx, hel⟩
  · simp [Value.cells] at hcs
    obtain ⟨rfl, rfl, rfl⟩ := hcs
    exact ⟨[], rfl, RowP.none_ _ _ _, .inl rfl, by simp⟩
  · simp [Value.cells] at hcs
    obtain ⟨rfl, rfl, rfl⟩ := hcs
    simp only [if_true] at hmm
    subst hmm
    simp only [Prod.mk.injEq] at hx
    obtain ⟨f0, f1, f2, hu, ⟨t0, o0⟩, ⟨t1, o1⟩, ⟨t2, o2⟩⟩ := und41
    have each : ∀ i, i < len → ∃ q : Part, q.n < 18446744073709551616 ∧ W.cell? (x.add (i * 3)) = some (.bool q.t) ∧ W.cell? (x.add (i * 3 + 1)) = some (.int .u64 (q.n : Int)) ∧ W.cell? (x.add (i * 3 + 2)) = some (.string q.s) := by
      intro i hi
      obtain ⟨cs', h1, h2⟩ := hel i (by omega)
      rw [cells41] at h1
      obtain ⟨_, hlen, hcell⟩ := World.cells?_some h1
      obtain ⟨y0, y1, y2, k, _, hlc, g0, g1, g2⟩ := trod_struct3 hu h2
      rw [t0, o0] at g0
      rw [t1, o1] at g1
      rw [t2, o2] at g2
      rw [show Try.prog.cellsOf 4 = 1 by kernel_rfl] at g0
      rw [show Try.prog.cellsOf 39 = 1 by kernel_rfl] at g1
      rw [show Try.prog.cellsOf 9 = 1 by kernel_rfl] at g2
      match cs', hlen with
      | [v0, v1, v2], _ =>
        simp only [List.drop_zero, List.drop_succ_cons, List.take_succ_cons, List.take_zero] at g0 g1 g2
        obtain ⟨b, e0, _⟩ := DataW.trod_bool Try.underlying4 g0
        obtain ⟨z, e1, _, wf⟩ := DataW.trod_int Try.underlying39 g1
        obtain ⟨s, e2, _, _⟩ := DataW.trod_string Try.underlying9 g2
        injection e0 with e0 _; injection e1 with e1 _; injection e2 with e2 _
        subst e0; subst e1; subst e2
        have hz := bounds_u64 wf
        have c0 := hcell 0 (by omega)
        have c1 := hcell 1 (by omega)
        have c2 := hcell 2 (by omega)
        rw [Go.Deep.add_add] at c0 c1 c2
        refine ⟨⟨b, z.toNat, s⟩, by show z.toNat < _; omega, by simpa using c0, ?_, by simpa using c2⟩
        rw [show ((z.toNat : Nat) : Int) = z by omega]
        simpa using c1
    haveI : Inhabited Part := ⟨⟨false, 0, ⟨#[]⟩⟩⟩
    obtain ⟨q, hq⟩ := choose_lt each
    refine ⟨(List.range len).map q, by simp, ⟨?_, fun hpos => ?_⟩, ?_, by simpa using hl⟩
    · intro y hy
      obtain ⟨i, hi, rfl⟩ := List.mem_map.1 hy
      exact (hq i (List.mem_range.1 hi)).1
    · rw [List.length_map, List.length_range] at hpos
      have hc0 := (hq 0 hpos).2.1
      obtain ⟨b, off, spot⟩ := x
      have hspot : spot = none := by simpa [Addr.add] using World.cell?_spot hc0
      subst hspot
      have hadd : ∀ j, (⟨b, off, none⟩ : Addr).add j = ⟨b, off + j, none⟩ := fun j => by
        unfold Addr.add; split
        · rename_i h; subst h; rfl
        · rfl
      simp only [hadd] at hq hc0
      refine ⟨b, off, rfl, World.block_lt_of_cell? W _ hc0, fun j r hj => ?_⟩
      obtain ⟨hj1, hj2⟩ := List.getElem?_eq_some_iff.1 hj
      rw [List.length_map, List.length_range] at hj1
      simp only [List.getElem_map, List.getElem_range] at hj2
      subst hj2
      exact (hq j hj1).2
    · refine .inr ⟨_, _, hx.1, ?_⟩
      simp
end Go.Proofs.Ytccjdajneoploaa
