/-
  What comes in: trees, as a function is handed them.
-/
import Derived.Test.YtkpefelakhbkhaaRows
import Derived.Test.YtkpefelakhbkhaaIOpen
import Derived.Test.YtkpefelakhbkhaaIArg
namespace Go.Proofs.Ytkpefelakhbkhaa.I
open Go.ChangeShapes Go.WideShapes Go.ChangeAt Go.RowKit Go.Deep

theorem own : ownKnob Try.prog.godebug = none := by kernel_rfl
theorem laidOut : laidOutB Try.prog = true := by kernel_rfl
theorem bytes24 : Try.prog.bytesOf 24 = 32 := by kernel_rfl
theorem bytes5 : Try.prog.bytesOf 5 = 1 := by kernel_rfl
theorem bytes3 : Try.prog.bytesOf 3 = 8 := by kernel_rfl
theorem argI {H : Type} {enc : TypeId × Value → H} {W : World} {base : Nat} {v : Value} {d : DataW H} {p : List MemPlace} (hv : Value.okWide Try.prog W .any base 24 v) (h : DataW.Trod enc Try.prog W 0 (fun _ => true) true 24 v d p) : ∃ T, Arg W T v := by
  obtain ⟨o, ks, A, c, e, hk⟩ := openI hv h
  exact ⟨_, o, ks, A, c, e, hk, rfl⟩
end Go.Proofs.Ytkpefelakhbkhaa.I
