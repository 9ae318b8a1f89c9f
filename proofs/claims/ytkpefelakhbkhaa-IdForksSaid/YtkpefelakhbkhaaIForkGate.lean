/-
  A slice of ints that came in.
-/
import Derived.Test.YtkpefelakhbkhaaIFork2
import Derived.Test.YtkpefelakhbkhaaIGate
namespace Go.Proofs.Ytkpefelakhbkhaa.I
open Go.ChangeShapes Go.WideShapes Go.ChangeAt Go.RowKit Go.Deep

theorem openN {H : Type} {enc : TypeId × Value → H} {W : World} {a : Option Addr} {len cap : Nat} {d : DataW H} {p : List MemPlace} (h : DataW.Trod enc Try.prog W 0 (fun _ => true) true 46 (.slice a len cap) d p) :
    ∃ l : List Int, len = l.length ∧ RowN W W.heap.size a l ∧ l.length ≤ cap ∧ (l.length = 0 ∨ ∃ elems spare, d = .slice elems spare ∧ l.length ≤ elems.length + spare.length) := by
  obtain ⟨fuel, hf⟩ := h
  rcases open_ints Try.underlying46 Try.underlying3 (by kernel_rfl) hf with ⟨hcs, _⟩ | ⟨x, l, c, zs, hcs, _, hl, hm, hz, hx, hcell, hwz⟩
  · simp [Value.cells] at hcs
    obtain ⟨rfl, rfl, rfl⟩ := hcs
    exact ⟨[], rfl, ⟨by simp, fun h => absurd h (by simp)⟩, by simp, .inl rfl⟩
  · simp [Value.cells] at hcs
    obtain ⟨rfl, rfl, rfl⟩ := hcs
    simp only [if_true] at hz
    simp only [Prod.mk.injEq] at hx
    have hlen : len = (zs.take len).length := by simp; omega
    refine ⟨zs.take len, hlen, ⟨?_, fun hpos => ?_⟩, by omega, ?_⟩
    · intro y hy
      have := bounds_i64 (hwz y (List.mem_of_mem_take hy)); omega
    · have hlp : 0 < len := by omega
      have hc0 := hcell 0 (by omega)
      obtain ⟨b, off, spot⟩ := x
      have hspot : spot = none := by simpa [Addr.add] using World.cell?_spot hc0
      subst hspot
      have hc0' : W.cell? ⟨b, off, none⟩ = some (.int .i64 (zs.getD 0 0)) := by simpa [Addr.add] using hc0
      refine ⟨b, off, rfl, World.block_lt_of_cell? W _ hc0', fun j hj => ?_⟩
      have hj2 : j < len := by omega
      have hjz : j < zs.length := by omega
      have hadd : (⟨b, off, none⟩ : Addr).add j = ⟨b, off + j, none⟩ := by
        unfold Addr.add; split
        · rename_i h; subst h; rfl
        · rfl
      have := hcell j hjz
      rw [hadd] at this
      rw [this]
      simp [hjz]
    · refine .inr ⟨_, _, hx.1, ?_⟩
      simp [lits]
end Go.Proofs.Ytkpefelakhbkhaa.I
