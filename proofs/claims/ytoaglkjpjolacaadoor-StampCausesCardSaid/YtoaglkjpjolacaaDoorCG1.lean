/-
  What comes in: trees, the table of powers of ten.
-/
import Derived.Test.YtoaglkjpjolacaaDoorRows
import Derived.Test.YtoaglkjpjolacaaDoorCards
import Derived.Test.YtoaglkjpjolacaaDoorTie
import Derived.Test.YtoaglkjpjolacaaDoorCE6
import Derived.ProofKit
import Derived.OpenShut
import Derived.ShutString
import Derived.ChangeOld
import Derived.SizedLaws
import Derived.ChangeMaps5
import Derived.Deep.Strs
import Derived.LaidMore
import Derived.LaidSub
import Derived.Lib.LaidTab
import Derived.SevenTiedAt
import Derived.Test.YtoaglkjpjolacaaDoorCI1
import Derived.Test.YtoaglkjpjolacaaDoorCI4
import Derived.Test.YtoaglkjpjolacaaDoorCS1
import Derived.Deep.Slices
import Derived.ChangeSame
namespace Go.Proofs.YtoaglkjpjolacaaDoor.E
open Go.ChangeShapes Go.WideShapes Go.ChangeAt Go.RowKit Go.Deep
theorem own : ownKnob Tryd.prog.godebug = none := by kernel_rfl
theorem laidOut : laidOutB Tryd.prog = true := by kernel_rfl
theorem gPow : Tryd.prog.globalNamed "internal/strconv.uint64pow10" = some 0 := by kernel_rfl
theorem tPow : (Tryd.prog.globals[0]?).map (·.type) = some 141 := by kernel_rfl
theorem cells51 : Tryd.prog.cellsOf 106 = 1 := by kernel_rfl
theorem cells119 : Tryd.prog.cellsOf 141 = 20 := by kernel_rfl
abbrev laid3 : List (String × DataW Unit) := [("math/bits.deBruijn32tab", Rows.laid_math_bits_deBruijn32tab), ("math/bits.deBruijn64tab", Rows.laid_math_bits_deBruijn64tab), ("internal/strconv.uint64pow10", Rows.laid_internal_strconv_uint64pow10)]
set_option maxRecDepth 100000 in
theorem tab_of {W : World} (h : laidMetH Tryd.prog laid3 W) : Tab W := by
  rw [MakeChecks.laidMetH_plain _ _ _ (by kernel_rfl)] at h
  have h1 := h.filter (fun x => x.1 == "internal/strconv.uint64pow10")
  have h2 : laidMet Tryd.prog [("internal/strconv.uint64pow10", Lib.tabData .u64 Lib.pow10Tab)] W := h1
  exact Lib.tabIs_of_head gPow tPow Tryd.underlying141 Tryd.underlying106 cells51 cells119 h2
end Go.Proofs.YtoaglkjpjolacaaDoor.E
namespace Go.Proofs.YtoaglkjpjolacaaDoor.I
open Go.ChangeShapes Go.WideShapes Go.ChangeAt Go.RowKit Go.Deep
theorem own : ownKnob Tryd.prog.godebug = none := by kernel_rfl
theorem laidOut : laidOutB Tryd.prog = true := by kernel_rfl
end Go.Proofs.YtoaglkjpjolacaaDoor.I
namespace Go.Proofs.YtoaglkjpjolacaaDoor.S
open Go.ChangeShapes Go.WideShapes Go.ChangeAt Go.RowKit Go.Deep
abbrev laid3 : List (String × DataW Unit) := [("math/bits.deBruijn32tab", Rows.laid_math_bits_deBruijn32tab), ("math/bits.deBruijn64tab", Rows.laid_math_bits_deBruijn64tab), ("internal/strconv.uint64pow10", Rows.laid_internal_strconv_uint64pow10)]
set_option maxRecDepth 100000 in
theorem door_met (os : Os) (args : Array Value) : laidMetH Tryd.prog laid3 ((World.doorLaid Tryd.prog 24 os).forCall (fun _ _ => 0) ⟨#[], args, []⟩).memory :=
  laidMetH_of_parts3 (fuel := 8) (laidMet_of_run' 8 (by kernel_rfl) (by kernel_rfl)) (by kernel_rfl) (by kernel_rfl)
end Go.Proofs.YtoaglkjpjolacaaDoor.S
namespace Go.Proofs.YtoaglkjpjolacaaDoor.S
open Go.ChangeShapes Go.WideShapes Go.ChangeAt Go.RowKit Go.Deep
/-- An operation's three numbers. -/
structure OpZ where
  k : Int
  x : Int
  y : Int
def OpZ.ok (o : OpZ) : Prop := (-9223372036854775808 ≤ o.k ∧ o.k ≤ 9223372036854775807) ∧ (-9223372036854775808 ≤ o.x ∧ o.x ≤ 9223372036854775807) ∧ (-9223372036854775808 ≤ o.y ∧ o.y ≤ 9223372036854775807)
/-- A script that lies somewhere. -/
def RowZ (w : World) (A : Option Addr) (len : Nat) : Prop := ∀ i, i < len → ∃ b off, A = some ⟨b, off, none⟩ ∧ ∃ o : OpZ, o.ok ∧ w.cell? ⟨b, off + i * 3, none⟩ = some (.int .i64 o.k) ∧ w.cell? ⟨b, off + i * 3 + 1, none⟩ = some (.int .i64 o.x) ∧ w.cell? ⟨b, off + i * 3 + 2, none⟩ = some (.int .i64 o.y)
theorem RowZ.up {w w' : World} {A : Option Addr} {len : Nat} (h : RowZ w A len) (hb : Below w.heap.size w w') : RowZ w' A len := fun i hi => by
  obtain ⟨b, off, e, o, ho, h0, h1, h2⟩ := h i hi
  have hl := World.block_lt_of_cell? w _ h0
  exact ⟨b, off, e, o, ho, (hb.cell hl).trans h0, (hb.cell (p := ⟨b, off + i * 3 + 1, none⟩) hl).trans h1, (hb.cell (p := ⟨b, off + i * 3 + 2, none⟩) hl).trans h2⟩
theorem und48 : ∃ f0 f1 f2 : Field, Tryd.prog.underlying 48 = some (.struct #[f0, f1, f2]) ∧ (f0.type = 3 ∧ f0.offset = 0) ∧ (f1.type = 3 ∧ f1.offset = 1) ∧ (f2.type = 3 ∧ f2.offset = 2) := ⟨_, _, _, Tryd.underlying48, ⟨rfl, rfl⟩, ⟨rfl, rfl⟩, ⟨rfl, rfl⟩⟩
theorem cells3 : Tryd.prog.cellsOf 3 = 1 := by kernel_rfl
theorem cells48 : Tryd.prog.cellsOf 48 = 3 := by kernel_rfl
theorem nth_of {cs : List Value} {j : Nat} {v : Value} (h : (cs.drop j).take 1 = [v]) : cs[j]? = some v := by
  have e : ((cs.drop j).take 1)[0]? = some v := by rw [h]; rfl
  rw [List.getElem?_take, if_pos (by omega), List.getElem?_drop] at e
  simpa using e
/-- An operation's three cells. -/
theorem open_op {H : Type} {enc : TypeId × Value → H} {w : World} {base n : Nat} {sp : Nat → Bool} {held : Bool} {cs : List Value} {x : DataW H × List MemPlace} (h : DataW.trod enc Tryd.prog w base sp held n 48 cs = some x) :
    ∃ o : OpZ, o.ok ∧ cs[0]? = some (.int .i64 o.k) ∧ cs[1]? = some (.int .i64 o.x) ∧ cs[2]? = some (.int .i64 o.y) := by
  obtain ⟨f0, f1, f2, hu, ⟨t0, o0⟩, ⟨t1, o1⟩, ⟨t2, o2⟩⟩ := und48
  obtain ⟨xs, m, _, _, _, hlen, hf⟩ := DataW.trod_struct hu h
  have one : ∀ (j : Nat) (f : Field), (#[f0, f1, f2] : Array Field)[j]? = some f → f.type = 3 → f.offset = j → ∃ z : Int, cs[j]? = some (.int .i64 z) ∧ -9223372036854775808 ≤ z ∧ z ≤ 9223372036854775807 := by
    intro j f hj ht ho
    have h1 := hf j f hj
    rw [ht, ho, cells3] at h1
    have hjl : j < xs.length := by rw [hlen]; exact (Array.getElem?_eq_some_iff.1 hj).1
    rw [List.getElem?_eq_getElem hjl] at h1
    obtain ⟨z, hz, _, hwz⟩ := DataW.trod_int Tryd.underlying3 h1
    exact ⟨z, nth_of hz, bounds_i64 hwz⟩
  obtain ⟨z0, k0, l0⟩ := one 0 f0 rfl t0 o0
  obtain ⟨z1, k1, l1⟩ := one 1 f1 rfl t1 o1
  obtain ⟨z2, k2, l2⟩ := one 2 f2 rfl t2 o2
  exact ⟨⟨z0, z1, z2⟩, ⟨l0, l1, l2⟩, k0, k1, k2⟩
theorem openZ {H : Type} {enc : TypeId × Value → H} {W : World} {a : Option Addr} {len cap : Nat} {d : DataW H} {p : List MemPlace} (h : DataW.Trod enc Tryd.prog W 0 (fun _ => true) true 40 (.slice a len cap) d p) : RowZ W a len ∧ len ≤ cap ∧ cap ≤ maxLen := by
  obtain ⟨fuel, hf⟩ := h
  rcases open_slice Tryd.underlying40 hf with ⟨hcs, _⟩ | ⟨x, l, c, m, n, D, Pl, hcs, _, hl, hm, hmm, _, hi⟩
  · simp [Value.cells] at hcs
    obtain ⟨rfl, rfl, rfl⟩ := hcs
    exact ⟨fun i hi => by omega, Nat.le_refl _, by unfold maxLen; omega⟩
  · simp [Value.cells] at hcs
    obtain ⟨rfl, rfl, rfl⟩ := hcs
    simp only [if_true] at hmm
    have cell : ∀ i, i < len → ∃ o : OpZ, o.ok ∧ W.cell? ((x.add (i * 3)).add 0) = some (.int .i64 o.k) ∧ W.cell? ((x.add (i * 3)).add 1) = some (.int .i64 o.x) ∧ W.cell? ((x.add (i * 3)).add 2) = some (.int .i64 o.y) := by
      intro i hil
      obtain ⟨cs', hc, ht⟩ := hi i (by omega)
      rw [cells48] at hc
      obtain ⟨o, ho, k0, k1, k2⟩ := open_op ht
      obtain ⟨_, _, hat⟩ := World.cells?_some hc
      exact ⟨o, ho, (hat 0 (by omega)).trans k0, (hat 1 (by omega)).trans k1, (hat 2 (by omega)).trans k2⟩
    refine ⟨fun i hil => ?_, hl, hm⟩
    obtain ⟨b, off, spot⟩ := x
    have hspot : spot = none := by
      obtain ⟨o, _, k0, _⟩ := cell 0 (by omega)
      have := World.cell?_spot k0
      simpa [Addr.add] using this
    subst hspot
    obtain ⟨o, ho, k0, k1, k2⟩ := cell i hil
    have hadd : ∀ k j, (⟨b, k, none⟩ : Addr).add j = ⟨b, k + j, none⟩ := by
      intro k j
      unfold Addr.add; split
      · rename_i h; subst h; rfl
      · rfl
    rw [hadd, hadd] at k0 k1 k2
    exact ⟨b, off, rfl, o, ho, by simpa using k0, k1, k2⟩
end Go.Proofs.YtoaglkjpjolacaaDoor.S
