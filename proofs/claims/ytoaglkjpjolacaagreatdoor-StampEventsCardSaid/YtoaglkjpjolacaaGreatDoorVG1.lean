/-
  What comes in: trees, the table of powers of ten.
-/
import Derived.Test.YtoaglkjpjolacaaGreatDoorRows
import Derived.Test.YtoaglkjpjolacaaGreatDoorCards
import Derived.Test.YtoaglkjpjolacaaGreatDoorTie
import Derived.Test.YtoaglkjpjolacaaGreatDoorVE6
import Derived.ProofKit
import Derived.OpenShut
import Derived.ShutString
import Derived.ChangeOld
import Derived.SizedLaws
import Derived.ChangeMaps5
import Derived.Deep.Strs
import Derived.LaidMore
import Derived.LaidSub
import Derived.Lib.LaidTab
import Derived.SevenTiedAt
import Derived.Test.YtoaglkjpjolacaaGreatDoorVI1
import Derived.Test.YtoaglkjpjolacaaGreatDoorVI4
import Derived.Test.YtoaglkjpjolacaaGreatDoorVS1
namespace Go.Proofs.YtoaglkjpjolacaaGreatDoor.E
open Go.ChangeShapes Go.WideShapes Go.ChangeAt Go.RowKit Go.Deep
theorem own : ownKnob Tryz.prog.godebug = none := by kernel_rfl
theorem laidOut : laidOutB Tryz.prog = true := by kernel_rfl
theorem trod_i64 {H : Type} {enc : TypeId × Value → H} {P : Program} {w : World} {base : Nat} {sp : Nat → Bool} {held : Bool} {fuel : Nat} {cs : List Value} {x : DataW H × List MemPlace} (hu : P.underlying 2 = some (.int .i64)) (h : DataW.trod enc P w base sp held fuel 2 cs = some x) : ∃ o, cs = [.int .i64 o] ∧ True := by
  obtain ⟨z, hz, _⟩ := DataW.trod_int hu h
  exact ⟨z, hz, trivial⟩
theorem cells24 : Tryz.prog.cellsOf 27 = 2 := by kernel_rfl
theorem und24 : ∃ f0 f1 : Field, Tryz.prog.underlying 27 = some (.struct #[f0, f1]) ∧ (f0.type = 2 ∧ f0.offset = 0) ∧ (f1.type = 25 ∧ f1.offset = 1) := ⟨_, _, Tryz.underlying27, ⟨rfl, rfl⟩, ⟨rfl, rfl⟩⟩
/-- Trees, each known by its place, as a forest. -/
theorem forest {W : World} {b off len : Nat} (hb : b < W.heap.size) (h : ∀ i, i < len → ∃ (o : Int) (f : Fo) (A : Option Addr) (c : Nat), W.cell? ⟨b, off + i * 2, none⟩ = some (.int .i64 o) ∧ W.cell? ⟨b, off + i * 2 + 1, none⟩ = some (.slice A f.len c) ∧ Kd (Lt W.heap.size) W f A) :
    ∀ m, m ≤ len → ∃ fo : Fo, fo.len = m ∧ InF (Lt W.heap.size) W fo b (off + (len - m) * 2)
  | 0, _ => ⟨.nil, rfl, trivial⟩
  | m + 1, hm => by
    obtain ⟨fo, h1, h2⟩ := forest hb h m (by omega)
    obtain ⟨o, f, A, c, k1, k2, k3⟩ := h (len - (m + 1)) (by omega)
    refine ⟨.cons o f fo, by simp [Fo.len, h1], ⟨A, c, k1, k2, k3⟩, ?_⟩
    rw [show off + (len - (m + 1)) * 2 + 2 = off + (len - m) * 2 by omega]
    exact h2
set_option maxRecDepth 100000 in
theorem open_kids {H : Type} {enc : TypeId × Value → H} {W : World} : ∀ (fuel : Nat) (cs : List Value) (x : DataW H × List MemPlace), DataW.trod enc Tryz.prog W 0 (fun _ => true) true fuel 25 cs = some x → ∃ (f : Fo) (A : Option Addr) (cap : Nat), cs = [.slice A f.len cap] ∧ Kd (Lt W.heap.size) W f A ∧ f.len ≤ cap ∧ (f.len = 0 ∨ ∃ elems spare, x.1 = .slice elems spare ∧ f.len ≤ elems.length + spare.length) := by
  intro fuel
  induction fuel using Nat.strongRecOn with
  | _ fuel ih =>
  intro cs x h
  rcases DataW.trod_slice Tryz.underlying25 h with ⟨rfl, _⟩ | ⟨a, len, cap, elems, rest, n, hn, rfl, hx, _, hlc, _, hlen, hel, _, _⟩
  · exact ⟨.nil, none, 0, rfl, .inl rfl, Nat.le_refl _, .inl rfl⟩
  · obtain ⟨f0, f1, hu, ⟨t0, o0⟩, ⟨t1, o1⟩⟩ := und24
    have hsz : len = 0 ∨ ∃ es sp, x.1 = .slice es sp ∧ len ≤ es.length + sp.length := .inr ⟨_, _, by rw [hx], by simp [hlen]⟩
    have each : ∀ i, i < len → ∃ (o : Int) (f : Fo) (A : Option Addr) (c : Nat), W.cell? (a.add (i * 2)) = some (.int .i64 o) ∧ W.cell? (a.add (i * 2 + 1)) = some (.slice A f.len c) ∧ Kd (Lt W.heap.size) W f A := by
      intro i hi
      have key := hel i hi
      rw [cells24, List.getElem?_eq_getElem (by omega)] at key
      obtain ⟨cs', h1, h2⟩ := Option.bind_eq_some_iff.1 key
      obtain ⟨_, hl2, hcell⟩ := World.cells?_some h1
      obtain ⟨xs, k, hk, _, _, hxl, hf⟩ := DataW.trod_struct hu h2
      match xs, hxl, cs', hl2 with
      | [y0, y1], _, [v0, v1], _ =>
        have g0 := hf 0 f0 rfl
        have g1 := hf 1 f1 rfl
        rw [t0, o0, show Tryz.prog.cellsOf 2 = 1 by kernel_rfl] at g0
        rw [t1, o1, show Tryz.prog.cellsOf 25 = 1 by kernel_rfl] at g1
        simp at g0 g1
        obtain ⟨o, e0, _⟩ := trod_i64 Tryz.underlying2 g0
        injection e0 with e0 _
        subst e0
        obtain ⟨f, A, c, e1, hk1, _⟩ := ih k (by omega) _ _ g1
        injection e1 with e1 _
        subst e1
        have c0 := hcell 0 (by omega)
        have c1 := hcell 1 (by omega)
        rw [Go.Deep.add_add] at c0 c1
        exact ⟨o, f, A, c, by simpa using c0, by simpa using c1, hk1⟩
    by_cases h0 : len = 0
    · subst h0
      exact ⟨.nil, some a, cap, rfl, .inl rfl, Nat.zero_le _, .inl rfl⟩
    · have hc0 := (each 0 (by omega))
      obtain ⟨_, _, _, _, hc0, _⟩ := hc0
      obtain ⟨b, off, spot⟩ := a
      have hspot : spot = none := by simpa [Addr.add] using World.cell?_spot hc0
      subst hspot
      have hadd : ∀ j, (⟨b, off, none⟩ : Addr).add j = ⟨b, off + j, none⟩ := fun j => by
        unfold Addr.add; split
        · rename_i h; subst h; rfl
        · rfl
      simp only [hadd] at each hc0
      have hb := World.block_lt_of_cell? W _ hc0
      obtain ⟨fo, h1, h2⟩ := forest (len := len) hb (fun i hi => by
        obtain ⟨o, f, A, c, k1, k2, k3⟩ := each i hi
        exact ⟨o, f, A, c, k1, by rw [← k2]; rfl, k3⟩) len (Nat.le_refl _)
      rw [Nat.sub_self, Nat.zero_mul, Nat.add_zero] at h2
      refine ⟨fo, _, cap, by rw [h1], .inr ⟨b, off, rfl, hb, h2⟩, by rw [h1]; exact hlc, by rw [h1]; exact hsz⟩
theorem gPow : Tryz.prog.globalNamed "internal/strconv.uint64pow10" = some 0 := by kernel_rfl
theorem tPow : (Tryz.prog.globals[0]?).map (·.type) = some 185 := by kernel_rfl
theorem cells51 : Tryz.prog.cellsOf 71 = 1 := by kernel_rfl
theorem cells119 : Tryz.prog.cellsOf 185 = 20 := by kernel_rfl
abbrev laid3 : List (String × DataW Unit) := [("math/bits.deBruijn32tab", Rows.laid_math_bits_deBruijn32tab), ("math/bits.deBruijn64tab", Rows.laid_math_bits_deBruijn64tab), ("internal/strconv.uint64pow10", Rows.laid_internal_strconv_uint64pow10)]
set_option maxRecDepth 100000 in
theorem tab_of {W : World} (h : laidMetH Tryz.prog laid3 W) : Tab W := by
  rw [MakeChecks.laidMetH_plain _ _ _ (by kernel_rfl)] at h
  have h1 := h.filter (fun x => x.1 == "internal/strconv.uint64pow10")
  have h2 : laidMet Tryz.prog [("internal/strconv.uint64pow10", Lib.tabData .u64 Lib.pow10Tab)] W := h1
  exact Lib.tabIs_of_head gPow tPow Tryz.underlying185 Tryz.underlying71 cells51 cells119 h2
end Go.Proofs.YtoaglkjpjolacaaGreatDoor.E
namespace Go.Proofs.YtoaglkjpjolacaaGreatDoor.I
open Go.ChangeShapes Go.WideShapes Go.ChangeAt Go.RowKit Go.Deep
theorem cells24 : Tryz.prog.cellsOf 24 = 2 := by kernel_rfl
theorem und24 : ∃ f0 f1 : Field, Tryz.prog.underlying 24 = some (.struct #[f0, f1]) ∧ (f0.type = 4 ∧ f0.offset = 0) ∧ (f1.type = 22 ∧ f1.offset = 1) := ⟨_, _, Tryz.underlying24, ⟨rfl, rfl⟩, ⟨rfl, rfl⟩⟩
/-- Trees, each known by its place, as a forest. -/
theorem forest {W : World} {b off len : Nat} (hb : b < W.heap.size) (h : ∀ i, i < len → ∃ (o : Bool) (f : Fo) (A : Option Addr) (c : Nat), W.cell? ⟨b, off + i * 2, none⟩ = some (.bool o) ∧ W.cell? ⟨b, off + i * 2 + 1, none⟩ = some (.slice A f.len c) ∧ Kd W W.heap.size f A) :
    ∀ m, m ≤ len → ∃ fo : Fo, fo.len = m ∧ InF W W.heap.size fo b (off + (len - m) * 2)
  | 0, _ => ⟨.nil, rfl, trivial⟩
  | m + 1, hm => by
    obtain ⟨fo, h1, h2⟩ := forest hb h m (by omega)
    obtain ⟨o, f, A, c, k1, k2, k3⟩ := h (len - (m + 1)) (by omega)
    refine ⟨.cons o f fo, by simp [Fo.len, h1], ⟨A, c, k1, k2, k3⟩, ?_⟩
    rw [show off + (len - (m + 1)) * 2 + 2 = off + (len - m) * 2 by omega]
    exact h2
set_option maxRecDepth 100000 in
theorem open_kids {H : Type} {enc : TypeId × Value → H} {W : World} : ∀ (fuel : Nat) (cs : List Value) (x : DataW H × List MemPlace), DataW.trod enc Tryz.prog W 0 (fun _ => true) true fuel 22 cs = some x → ∃ (f : Fo) (A : Option Addr) (cap : Nat), cs = [.slice A f.len cap] ∧ Kd W W.heap.size f A ∧ f.len ≤ cap ∧ (f.len = 0 ∨ ∃ elems spare, x.1 = .slice elems spare ∧ f.len ≤ elems.length + spare.length) := by
  intro fuel
  induction fuel using Nat.strongRecOn with
  | _ fuel ih =>
  intro cs x h
  rcases DataW.trod_slice Tryz.underlying22 h with ⟨rfl, _⟩ | ⟨a, len, cap, elems, rest, n, hn, rfl, hx, _, hlc, _, hlen, hel, _, _⟩
  · exact ⟨.nil, none, 0, rfl, .inl rfl, Nat.le_refl _, .inl rfl⟩
  · obtain ⟨f0, f1, hu, ⟨t0, o0⟩, ⟨t1, o1⟩⟩ := und24
    have hsz : len = 0 ∨ ∃ es sp, x.1 = .slice es sp ∧ len ≤ es.length + sp.length := .inr ⟨_, _, by rw [hx], by simp [hlen]⟩
    have each : ∀ i, i < len → ∃ (o : Bool) (f : Fo) (A : Option Addr) (c : Nat), W.cell? (a.add (i * 2)) = some (.bool o) ∧ W.cell? (a.add (i * 2 + 1)) = some (.slice A f.len c) ∧ Kd W W.heap.size f A := by
      intro i hi
      have key := hel i hi
      rw [cells24, List.getElem?_eq_getElem (by omega)] at key
      obtain ⟨cs', h1, h2⟩ := Option.bind_eq_some_iff.1 key
      obtain ⟨_, hl2, hcell⟩ := World.cells?_some h1
      obtain ⟨xs, k, hk, _, _, hxl, hf⟩ := DataW.trod_struct hu h2
      match xs, hxl, cs', hl2 with
      | [y0, y1], _, [v0, v1], _ =>
        have g0 := hf 0 f0 rfl
        have g1 := hf 1 f1 rfl
        rw [t0, o0, show Tryz.prog.cellsOf 4 = 1 by kernel_rfl] at g0
        rw [t1, o1, show Tryz.prog.cellsOf 22 = 1 by kernel_rfl] at g1
        simp at g0 g1
        obtain ⟨o, e0, _⟩ := DataW.trod_bool Tryz.underlying4 g0
        injection e0 with e0 _
        subst e0
        obtain ⟨f, A, c, e1, hk1, _⟩ := ih k (by omega) _ _ g1
        injection e1 with e1 _
        subst e1
        have c0 := hcell 0 (by omega)
        have c1 := hcell 1 (by omega)
        rw [Go.Deep.add_add] at c0 c1
        exact ⟨o, f, A, c, by simpa using c0, by simpa using c1, hk1⟩
    by_cases h0 : len = 0
    · subst h0
      exact ⟨.nil, some a, cap, rfl, .inl rfl, Nat.zero_le _, .inl rfl⟩
    · have hc0 := (each 0 (by omega))
      obtain ⟨_, _, _, _, hc0, _⟩ := hc0
      obtain ⟨b, off, spot⟩ := a
      have hspot : spot = none := by simpa [Addr.add] using World.cell?_spot hc0
      subst hspot
      have hadd : ∀ j, (⟨b, off, none⟩ : Addr).add j = ⟨b, off + j, none⟩ := fun j => by
        unfold Addr.add; split
        · rename_i h; subst h; rfl
        · rfl
      simp only [hadd] at each hc0
      have hb := World.block_lt_of_cell? W _ hc0
      obtain ⟨fo, h1, h2⟩ := forest (len := len) hb (fun i hi => by
        obtain ⟨o, f, A, c, k1, k2, k3⟩ := each i hi
        exact ⟨o, f, A, c, k1, by rw [← k2]; rfl, k3⟩) len (Nat.le_refl _)
      rw [Nat.sub_self, Nat.zero_mul, Nat.add_zero] at h2
      refine ⟨fo, _, cap, by rw [h1], .inr ⟨b, off, rfl, hb, h2⟩, by rw [h1]; exact hlc, by rw [h1]; exact hsz⟩
end Go.Proofs.YtoaglkjpjolacaaGreatDoor.I
namespace Go.Proofs.YtoaglkjpjolacaaGreatDoor.I
open Go.ChangeShapes Go.WideShapes Go.ChangeAt Go.RowKit Go.Deep
theorem own : ownKnob Tryz.prog.godebug = none := by kernel_rfl
theorem laidOut : laidOutB Tryz.prog = true := by kernel_rfl
end Go.Proofs.YtoaglkjpjolacaaGreatDoor.I
namespace Go.Proofs.YtoaglkjpjolacaaGreatDoor.S
open Go.ChangeShapes Go.WideShapes Go.ChangeAt Go.RowKit Go.Deep
theorem cells29 : Tryz.prog.cellsOf 29 = 4 := by kernel_rfl
theorem und29 : ∃ f0 f1 : Field, Tryz.prog.underlying 29 = some (.struct #[f0, f1]) ∧ (f0.type = 24 ∧ f0.offset = 0) ∧ (f1.type = 27 ∧ f1.offset = 2) := ⟨_, _, Tryz.underlying29, ⟨rfl, rfl⟩, ⟨rfl, rfl⟩⟩
set_option maxRecDepth 100000 in
theorem argS {H : Type} {enc : TypeId × Value → H} {W : World} {base : Nat} {v : Value} {d : DataW H} {p : List MemPlace} (hv : Value.okWide Tryz.prog W .any base 29 v) (h : DataW.Trod enc Tryz.prog W 0 (fun _ => true) true 29 v d p) :
    ∃ S T, SArg W S T v := by
  obtain ⟨f0, f1, hu, ⟨t0, o0⟩, ⟨t1, o1⟩⟩ := und29
  obtain ⟨cs, rfl, hsz⟩ := okWide_struct hu hv
  rw [cells29] at hsz
  obtain ⟨l⟩ := cs
  match l, hsz with
  | [c0, c1, c2, c3], _ =>
    obtain ⟨fuel, hf⟩ := h
    obtain ⟨y0, y1, m, _, _, hy0, hy1⟩ := trod_struct2 hu hf
    rw [t0, o0, show Tryz.prog.cellsOf 24 = 2 by kernel_rfl] at hy0
    rw [t1, o1, show Tryz.prog.cellsOf 27 = 2 by kernel_rfl] at hy1
    simp [Value.cells] at hy0 hy1
    obtain ⟨h0, h1, hu24, ⟨r0, q0⟩, ⟨r1, q1⟩⟩ := I.und24
    obtain ⟨k0, k1, hu27, ⟨s0, m0⟩, ⟨s1, m1⟩⟩ := E.und24
    have hz0 : DataW.Trod enc Tryz.prog W 0 (fun _ => true) true 24 (.agg #[c0, c1]) y0.1 y0.2 := ⟨m, by simpa [Value.cells] using hy0⟩
    have hz1 : DataW.Trod enc Tryz.prog W 0 (fun _ => true) true 27 (.agg #[c2, c3]) y1.1 y1.2 := ⟨m, by simpa [Value.cells] using hy1⟩
    obtain ⟨fa, ga⟩ := hz0
    obtain ⟨a0, a1, ma, _, _, ha0, ha1⟩ := trod_struct2 hu24 ga
    rw [r0, q0, show Tryz.prog.cellsOf 4 = 1 by kernel_rfl] at ha0
    rw [r1, q1, show Tryz.prog.cellsOf 22 = 1 by kernel_rfl] at ha1
    simp [Value.cells] at ha0 ha1
    obtain ⟨o, e0, _⟩ := DataW.trod_bool Tryz.underlying4 ha0
    injection e0 with e0 _
    subst e0
    obtain ⟨f, A, c, e1, hk1, _⟩ := I.open_kids _ _ _ ha1
    injection e1 with e1 _
    subst e1
    obtain ⟨fb, gb⟩ := hz1
    obtain ⟨b0, b1, mb, _, _, hb0, hb1⟩ := trod_struct2 hu27 gb
    rw [s0, m0, show Tryz.prog.cellsOf 2 = 1 by kernel_rfl] at hb0
    rw [s1, m1, show Tryz.prog.cellsOf 25 = 1 by kernel_rfl] at hb1
    simp [Value.cells] at hb0 hb1
    obtain ⟨z, e2, _⟩ := E.trod_i64 Tryz.underlying2 hb0
    injection e2 with e2 _
    subst e2
    obtain ⟨g, A', c', e3, hk3, _⟩ := E.open_kids _ _ _ hb1
    injection e3 with e3 _
    subst e3
    exact ⟨_, _, o, A, f.len, c, z, A', g.len, c', rfl, ⟨o, f, A, c, rfl, hk1, rfl⟩, ⟨z, g, A', c', rfl, hk3, rfl⟩⟩
abbrev laid3 : List (String × DataW Unit) := [("math/bits.deBruijn32tab", Rows.laid_math_bits_deBruijn32tab), ("math/bits.deBruijn64tab", Rows.laid_math_bits_deBruijn64tab), ("internal/strconv.uint64pow10", Rows.laid_internal_strconv_uint64pow10)]
set_option maxRecDepth 100000 in
theorem door_met (os : Os) (args : Array Value) : laidMetH Tryz.prog laid3 ((World.doorLaid Tryz.prog 36 os).forCall (fun _ _ => 0) ⟨#[], args, []⟩).memory :=
  laidMetH_of_parts3 (fuel := 8) (laidMet_of_run' 8 (by kernel_rfl) (by kernel_rfl)) (by kernel_rfl) (by kernel_rfl)
end Go.Proofs.YtoaglkjpjolacaaGreatDoor.S
