/-
  Trees that came in: a tree, a slice of trees.
-/
import Derived.Test.YtkpefelakhbkhaaITree
import Derived.ProofKit
import Derived.OpenShut
import Derived.ShutString
import Derived.ChangeOld
import Derived.SizedLaws
import Derived.ChangeMaps5
import Derived.Deep.Strs
namespace Go.Proofs.Ytkpefelakhbkhaa.I
open Go.ChangeShapes Go.WideShapes Go.ChangeAt Go.RowKit Go.Deep

theorem cells24 : Try.prog.cellsOf 24 = 2 := by kernel_rfl
theorem und24 : ∃ f0 f1 : Field, Try.prog.underlying 24 = some (.struct #[f0, f1]) ∧ (f0.type = 4 ∧ f0.offset = 0) ∧ (f1.type = 22 ∧ f1.offset = 1) := ⟨_, _, Try.underlying24, ⟨rfl, rfl⟩, ⟨rfl, rfl⟩⟩
/-- Trees, each known by its place, as a forest. -/
theorem forest {W : World} {b off len : Nat} (hb : b < W.heap.size) (h : ∀ i, i < len → ∃ (o : Bool) (f : Fo) (A : Option Addr) (c : Nat), W.cell? ⟨b, off + i * 2, none⟩ = some (.bool o) ∧ W.cell? ⟨b, off + i * 2 + 1, none⟩ = some (.slice A f.len c) ∧ Kd W W.heap.size f A) :
    ∀ m, m ≤ len → ∃ fo : Fo, fo.len = m ∧ InF W W.heap.size fo b (off + (len - m) * 2)
  | 0, _ => ⟨.nil, rfl, trivial⟩
  | m + 1, hm => by
    obtain ⟨fo, h1, h2⟩ := forest hb h m (by omega)
    obtain ⟨o, f, A, c, k1, k2, k3⟩ := h (len - (m + 1)) (by omega)
    refine ⟨.cons o f fo, by simp [Fo.len, h1], ⟨A, c, k1, k2, k3⟩, ?_⟩
    rw [show off + (len - (m + 1)) * 2 + 2 = off + (len - m) * 2 by omega]
    exact h2
set_option maxRecDepth 100000 in
theorem open_kids {H : Type} {enc : TypeId × Value → H} {W : World} : ∀ (fuel : Nat) (cs : List Value) (x : DataW H × List MemPlace), DataW.trod enc Try.prog W 0 (fun _ => true) true fuel 22 cs = some x → ∃ (f : Fo) (A : Option Addr) (cap : Nat), cs = [.slice A f.len cap] ∧ Kd W W.heap.size f A ∧ f.len ≤ cap ∧ (f.len = 0 ∨ ∃ elems spare, x.1 = .slice elems spare ∧ f.len ≤ elems.length + spare.length) := by
  intro fuel
  induction fuel using Nat.strongRecOn with
  | _ fuel ih =>
  intro cs x h
  rcases DataW.trod_slice Try.underlying22 h with ⟨rfl, _⟩ | ⟨a, len, cap, elems, rest, n, hn, rfl, hx, _, hlc, _, hlen, hel, _, _⟩
  · exact ⟨.nil, none, 0, rfl, .inl rfl, Nat.le_refl _, .inl rfl⟩
  · obtain ⟨f0, f1, hu, ⟨t0, o0⟩, ⟨t1, o1⟩⟩ := und24
    have hsz : len = 0 ∨ ∃ es sp, x.1 = .slice es sp ∧ len ≤ es.length + sp.length := .inr ⟨_, _, by rw [hx], by simp [hlen]⟩
    have each : ∀ i, i < len → ∃ (o : Bool) (f : Fo) (A : Option Addr) (c : Nat), W.cell? (a.add (i * 2)) = some (.bool o) ∧ W.cell? (a.add (i * 2 + 1)) = some (.slice A f.len c) ∧ Kd W W.heap.size f A := by
      intro i hi
      have key := hel i hi
      rw [cells24, List.getElem?_eq_getElem (by omega)] at key
      obtain ⟨cs', h1, h2⟩ := Option.bind_eq_some_iff.1 key
      obtain ⟨_, hl2, hcell⟩ := World.cells?_some h1
      obtain ⟨xs, k, hk, _, _, hxl, hf⟩ := DataW.trod_struct hu h2
      match xs, hxl, cs', hl2 with
      | [y0, y1], _, [v0, v1], _ =>
        have g0 := hf 0 f0 rfl
        have g1 := hf 1 f1 rfl
        rw [t0, o0, show Try.prog.cellsOf 4 = 1 by kernel_rfl] at g0
        rw [t1, o1, show Try.prog.cellsOf 22 = 1 by kernel_rfl] at g1
        simp at g0 g1
        obtain ⟨o, e0, _⟩ := DataW.trod_bool Try.underlying4 g0
        injection e0 with e0 _
        subst e0
        obtain ⟨f, A, c, e1, hk1, _⟩ := ih k (by omega) _ _ g1
        injection e1 with e1 _
        subst e1
        have c0 := hcell 0 (by omega)
        have c1 := hcell 1 (by omega)
        rw [Go.Deep.add_add] at c0 c1
        exact ⟨o, f, A, c, by simpa using c0, by simpa using c1, hk1⟩
    by_cases h0 : len = 0
    · subst h0
      exact ⟨.nil, some a, cap, rfl, .inl rfl, Nat.zero_le _, .inl rfl⟩
    · have hc0 := (each 0 (by omega))
      obtain ⟨_, _, _, _, hc0, _⟩ := hc0
      obtain ⟨b, off, spot⟩ := a
      have hspot : spot = none := by simpa [Addr.add] using World.cell?_spot hc0
      subst hspot
      have hadd : ∀ j, (⟨b, off, none⟩ : Addr).add j = ⟨b, off + j, none⟩ := fun j => by
        unfold Addr.add; split
        · rename_i h; subst h; rfl
        · rfl
      simp only [hadd] at each hc0
      have hb := World.block_lt_of_cell? W _ hc0
      obtain ⟨fo, h1, h2⟩ := forest (len := len) hb (fun i hi => by
        obtain ⟨o, f, A, c, k1, k2, k3⟩ := each i hi
        exact ⟨o, f, A, c, k1, by rw [← k2]; rfl, k3⟩) len (Nat.le_refl _)
      rw [Nat.sub_self, Nat.zero_mul, Nat.add_zero] at h2
      refine ⟨fo, _, cap, by rw [h1], .inr ⟨b, off, rfl, hb, h2⟩, by rw [h1]; exact hlc, by rw [h1]; exact hsz⟩
/-- A tree that came in. -/
theorem openI {H : Type} {enc : TypeId × Value → H} {W : World} {base : Nat} {v : Value} {d : DataW H} {p : List MemPlace} (hv : Value.okWide Try.prog W .any base 24 v) (h : DataW.Trod enc Try.prog W 0 (fun _ => true) true 24 v d p) :
    ∃ (o : Bool) (ks : Fo) (A : Option Addr) (c : Nat), v = tv o A ks.len c ∧ Kd W W.heap.size ks A := by
  obtain ⟨f0, f1, hu, ⟨t0, o0⟩, ⟨t1, o1⟩⟩ := und24
  obtain ⟨cs, rfl, hsz⟩ := okWide_struct hu hv
  rw [cells24] at hsz
  obtain ⟨l⟩ := cs
  match l, hsz with
  | [c0, c1], _ =>
    obtain ⟨fuel, hf⟩ := h
    obtain ⟨y0, y1, m, _, _, hy0, hy1⟩ := trod_struct2 hu hf
    rw [t0, o0, show Try.prog.cellsOf 4 = 1 by kernel_rfl] at hy0
    rw [t1, o1, show Try.prog.cellsOf 22 = 1 by kernel_rfl] at hy1
    simp [Value.cells] at hy0 hy1
    obtain ⟨o, e0, _⟩ := DataW.trod_bool Try.underlying4 hy0
    injection e0 with e0 _
    subst e0
    obtain ⟨f, A, c, e1, hk1, _⟩ := open_kids _ _ _ hy1
    injection e1 with e1 _
    subst e1
    exact ⟨o, f, A, c, rfl, hk1⟩
/-- A slice of trees that came in. -/
theorem openL {H : Type} {enc : TypeId × Value → H} {W : World} {a : Option Addr} {len cap : Nat} {d : DataW H} {p : List MemPlace} (h : DataW.Trod enc Try.prog W 0 (fun _ => true) true 22 (.slice a len cap) d p) :
    ∃ f : Fo, len = f.len ∧ Kd W W.heap.size f a ∧ f.len ≤ cap ∧ (f.len = 0 ∨ ∃ elems spare, d = .slice elems spare ∧ f.len ≤ elems.length + spare.length) := by
  obtain ⟨fuel, hf⟩ := h
  obtain ⟨f, A, c, e1, hk1, hle, hs⟩ := open_kids _ _ _ hf
  simp [Value.cells] at e1
  obtain ⟨rfl, rfl, rfl⟩ := e1
  exact ⟨f, rfl, hk1, hle, hs⟩
end Go.Proofs.Ytkpefelakhbkhaa.I
