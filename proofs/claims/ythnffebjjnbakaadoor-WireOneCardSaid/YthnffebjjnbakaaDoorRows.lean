/-
  NARROWER THAN 'FOR EVERY INPUT', by the rows' own cells (each row's printed sentence says how): WireNumbers: laid · WireTexts: laid · WireSums: laid · WireSeals: laid · WireBack: laid · WireOne: laid · WireTurns: laid · WireOrder: laid.
  DERIVED. THE GIVEN ROWS OF THIS SEAT. 8 by the template 'for every input the law returns true; each argument reads behind the call as it read before'; 0 by the template 'total and deterministic' (their statements: YthnffebjjnbakaaDoorTotals.lean).
  GIVEN WITH THE SEED: the statements are not yours to turn. If you find one false, say at which input.
  Laid BY PROGRAM, IN A SANDBOX (cutbox-rows.mjs): the forced cells as the released guide's own fill.sh prints them over the translation 02ad15513c1f55fe… (all of the seat's roots in one cut). By AI agents, Wed Nov 11 2026. No macro, syntax, notation, axiom, sorry.
-/
import Derived.Test.YthnffebjjnbakaaDoorChecked
import GoSem.Claim
import GoSem.ClaimJoined
import GoSem.ClaimMapViews
import Derived.JoinedTies
import Derived.KernelRfl
namespace Go.Proofs.YthnffebjjnbakaaDoor
/- THE CELL 'sum', in the pinned program and in every row, IS THE sha256 OF THE DUMP (.gsa) THAT YthnffebjjnbakaaDoorProg.lean LOADS. Nothing in Lean hashes anything: it is a label: what it is worth is what the hold of that sum in a sandbox is worth. -/
noncomputable def Tryd.pinned : Pinned := { name := "ythnffebjjnbakaadoor", sum := "02ad15513c1f55fe22567ae3c36b95f252b5e1363730009f5cb547c8c21ff262", checked := Tryd.checked }
namespace Rows
def none {H : Type} : Left H := { results := [], args := [] }

/- WHAT THE LISTED PACKAGE-LEVEL VARIABLES READ AS WHEN THE CALL BEGINS. Each datum BY PROGRAM (the guide's laid-datum.mjs) off the statement by which the dump's own 'gosem.cut.vars' lays the variable. In a bare row this is a premise. The card (YthnffebjjnbakaaDoorCards.lean) ties it to the program's text. -/
def laid_pannier_wire_halves {H : Type} : DataW H := .agg [.lit (.int .u32 0), .lit (.int .u32 498536548), .lit (.int .u32 997073096), .lit (.int .u32 651767980), .lit (.int .u32 1994146192), .lit (.int .u32 1802195444), .lit (.int .u32 1303535960), .lit (.int .u32 1342533948), .lit (.int .u32 3988292384), .lit (.int .u32 4027552580), .lit (.int .u32 3604390888), .lit (.int .u32 3412177804), .lit (.int .u32 2607071920), .lit (.int .u32 2262029012), .lit (.int .u32 2685067896), .lit (.int .u32 3183342108)]

/-- 'pannierlaw02.WireNumbers': WHATEVER THE INPUT: true; the input reads as it did. -/
def wireNumbersSpec : ChangeSpec := { name := "wireNumbers", fn := fun _ => fun
  | [d1, d2, d3] => { results := [.lit (.bool true)], args := [d1, d2, d3] }
  | _ => none }
def wireNumbersRow : OpenClaim := { program := "ythnffebjjnbakaadoor", sum := "02ad15513c1f55fe22567ae3c36b95f252b5e1363730009f5cb547c8c21ff262", func := "pannier/pannierlaw02.WireNumbers", spec := "wireNumbers", named := ["pannier/wire.halves"], apart := false, laid := [("pannier/wire.halves", laid_pannier_wire_halves)] }
def WireNumbersSaid : Prop := wireNumbersRow.holds Tryd.pinned (OpenSpec.ofChange wireNumbersSpec)

/-- ITS FALSE NEIGHBOUR: 'it returns false'. Refute it at one input. -/
def wireNumbersWrong : ChangeSpec := { name := "wireNumbers", fn := fun _ => fun
  | [d1, d2, d3] => { results := [.lit (.bool false)], args := [d1, d2, d3] }
  | _ => none }
def WireNumbersWrongFalsely : Prop := wireNumbersRow.holds Tryd.pinned (OpenSpec.ofChange wireNumbersWrong)

/-- 'pannierlaw02.WireTexts': WHATEVER THE INPUT: true; the input reads as it did. -/
def wireTextsSpec : ChangeSpec := { name := "wireTexts", fn := fun _ => fun
  | [d1, d2, d3, d4] => { results := [.lit (.bool true)], args := [d1, d2, d3, d4] }
  | _ => none }
def wireTextsRow : OpenClaim := { program := "ythnffebjjnbakaadoor", sum := "02ad15513c1f55fe22567ae3c36b95f252b5e1363730009f5cb547c8c21ff262", func := "pannier/pannierlaw02.WireTexts", spec := "wireTexts", named := ["pannier/wire.halves"], apart := false, laid := [("pannier/wire.halves", laid_pannier_wire_halves)] }
def WireTextsSaid : Prop := wireTextsRow.holds Tryd.pinned (OpenSpec.ofChange wireTextsSpec)

/-- ITS FALSE NEIGHBOUR: 'it returns false'. Refute it at one input. -/
def wireTextsWrong : ChangeSpec := { name := "wireTexts", fn := fun _ => fun
  | [d1, d2, d3, d4] => { results := [.lit (.bool false)], args := [d1, d2, d3, d4] }
  | _ => none }
def WireTextsWrongFalsely : Prop := wireTextsRow.holds Tryd.pinned (OpenSpec.ofChange wireTextsWrong)

/-- 'pannierlaw02.WireSums': WHATEVER THE INPUT: true; the input reads as it did. -/
def wireSumsSpec : ChangeSpec := { name := "wireSums", fn := fun _ => fun
  | [d] => { results := [.lit (.bool true)], args := [d] }
  | _ => none }
def wireSumsRow : OpenClaim := { program := "ythnffebjjnbakaadoor", sum := "02ad15513c1f55fe22567ae3c36b95f252b5e1363730009f5cb547c8c21ff262", func := "pannier/pannierlaw02.WireSums", spec := "wireSums", named := ["pannier/wire.halves"], apart := false, laid := [("pannier/wire.halves", laid_pannier_wire_halves)] }
def WireSumsSaid : Prop := wireSumsRow.holds Tryd.pinned (OpenSpec.ofChange wireSumsSpec)

/-- ITS FALSE NEIGHBOUR: 'it returns false'. Refute it at one input. -/
def wireSumsWrong : ChangeSpec := { name := "wireSums", fn := fun _ => fun
  | [d] => { results := [.lit (.bool false)], args := [d] }
  | _ => none }
def WireSumsWrongFalsely : Prop := wireSumsRow.holds Tryd.pinned (OpenSpec.ofChange wireSumsWrong)

/-- 'pannierlaw02.WireSeals': WHATEVER THE INPUT: true; the input reads as it did. -/
def wireSealsSpec : ChangeSpec := { name := "wireSeals", fn := fun _ => fun
  | [d1, d2, d3, d4, d5] => { results := [.lit (.bool true)], args := [d1, d2, d3, d4, d5] }
  | _ => none }
def wireSealsRow : OpenClaim := { program := "ythnffebjjnbakaadoor", sum := "02ad15513c1f55fe22567ae3c36b95f252b5e1363730009f5cb547c8c21ff262", func := "pannier/pannierlaw02.WireSeals", spec := "wireSeals", named := ["pannier/wire.halves"], apart := false, laid := [("pannier/wire.halves", laid_pannier_wire_halves)] }
def WireSealsSaid : Prop := wireSealsRow.holds Tryd.pinned (OpenSpec.ofChange wireSealsSpec)

/-- ITS FALSE NEIGHBOUR: 'it returns false'. Refute it at one input. -/
def wireSealsWrong : ChangeSpec := { name := "wireSeals", fn := fun _ => fun
  | [d1, d2, d3, d4, d5] => { results := [.lit (.bool false)], args := [d1, d2, d3, d4, d5] }
  | _ => none }
def WireSealsWrongFalsely : Prop := wireSealsRow.holds Tryd.pinned (OpenSpec.ofChange wireSealsWrong)

/-- 'pannierlaw02.WireBack': WHATEVER THE INPUT: true; the input reads as it did. -/
def wireBackSpec : ChangeSpec := { name := "wireBack", fn := fun _ => fun
  | [d1, d2, d3, d4] => { results := [.lit (.bool true)], args := [d1, d2, d3, d4] }
  | _ => none }
def wireBackRow : OpenClaim := { program := "ythnffebjjnbakaadoor", sum := "02ad15513c1f55fe22567ae3c36b95f252b5e1363730009f5cb547c8c21ff262", func := "pannier/pannierlaw02.WireBack", spec := "wireBack", named := ["pannier/wire.halves"], apart := false, laid := [("pannier/wire.halves", laid_pannier_wire_halves)] }
def WireBackSaid : Prop := wireBackRow.holds Tryd.pinned (OpenSpec.ofChange wireBackSpec)

/-- ITS FALSE NEIGHBOUR: 'it returns false'. Refute it at one input. -/
def wireBackWrong : ChangeSpec := { name := "wireBack", fn := fun _ => fun
  | [d1, d2, d3, d4] => { results := [.lit (.bool false)], args := [d1, d2, d3, d4] }
  | _ => none }
def WireBackWrongFalsely : Prop := wireBackRow.holds Tryd.pinned (OpenSpec.ofChange wireBackWrong)

/-- 'pannierlaw02.WireOne': WHATEVER THE INPUT: true; the input reads as it did. -/
def wireOneSpec : ChangeSpec := { name := "wireOne", fn := fun _ => fun
  | [d1, d2] => { results := [.lit (.bool true)], args := [d1, d2] }
  | _ => none }
def wireOneRow : OpenClaim := { program := "ythnffebjjnbakaadoor", sum := "02ad15513c1f55fe22567ae3c36b95f252b5e1363730009f5cb547c8c21ff262", func := "pannier/pannierlaw02.WireOne", spec := "wireOne", named := ["pannier/wire.halves"], apart := false, laid := [("pannier/wire.halves", laid_pannier_wire_halves)] }
def WireOneSaid : Prop := wireOneRow.holds Tryd.pinned (OpenSpec.ofChange wireOneSpec)

/-- ITS FALSE NEIGHBOUR: 'it returns false'. Refute it at one input. -/
def wireOneWrong : ChangeSpec := { name := "wireOne", fn := fun _ => fun
  | [d1, d2] => { results := [.lit (.bool false)], args := [d1, d2] }
  | _ => none }
def WireOneWrongFalsely : Prop := wireOneRow.holds Tryd.pinned (OpenSpec.ofChange wireOneWrong)

/-- 'pannierlaw02.WireTurns': WHATEVER THE INPUT: true; the input reads as it did. -/
def wireTurnsSpec : ChangeSpec := { name := "wireTurns", fn := fun _ => fun
  | [d1, d2, d3, d4] => { results := [.lit (.bool true)], args := [d1, d2, d3, d4] }
  | _ => none }
def wireTurnsRow : OpenClaim := { program := "ythnffebjjnbakaadoor", sum := "02ad15513c1f55fe22567ae3c36b95f252b5e1363730009f5cb547c8c21ff262", func := "pannier/pannierlaw02.WireTurns", spec := "wireTurns", named := ["pannier/wire.halves"], apart := false, laid := [("pannier/wire.halves", laid_pannier_wire_halves)] }
def WireTurnsSaid : Prop := wireTurnsRow.holds Tryd.pinned (OpenSpec.ofChange wireTurnsSpec)

/-- ITS FALSE NEIGHBOUR: 'it returns false'. Refute it at one input. -/
def wireTurnsWrong : ChangeSpec := { name := "wireTurns", fn := fun _ => fun
  | [d1, d2, d3, d4] => { results := [.lit (.bool false)], args := [d1, d2, d3, d4] }
  | _ => none }
def WireTurnsWrongFalsely : Prop := wireTurnsRow.holds Tryd.pinned (OpenSpec.ofChange wireTurnsWrong)

/-- 'pannierlaw02.WireOrder': WHATEVER THE INPUT: true; the input reads as it did. -/
def wireOrderSpec : ChangeSpec := { name := "wireOrder", fn := fun _ => fun
  | [d1, d2] => { results := [.lit (.bool true)], args := [d1, d2] }
  | _ => none }
def wireOrderRow : OpenClaim := { program := "ythnffebjjnbakaadoor", sum := "02ad15513c1f55fe22567ae3c36b95f252b5e1363730009f5cb547c8c21ff262", func := "pannier/pannierlaw02.WireOrder", spec := "wireOrder", named := ["pannier/wire.halves"], apart := false, laid := [("pannier/wire.halves", laid_pannier_wire_halves)] }
def WireOrderSaid : Prop := wireOrderRow.holds Tryd.pinned (OpenSpec.ofChange wireOrderSpec)

/-- ITS FALSE NEIGHBOUR: 'it returns false'. Refute it at one input. -/
def wireOrderWrong : ChangeSpec := { name := "wireOrder", fn := fun _ => fun
  | [d1, d2] => { results := [.lit (.bool false)], args := [d1, d2] }
  | _ => none }
def WireOrderWrongFalsely : Prop := wireOrderRow.holds Tryd.pinned (OpenSpec.ofChange wireOrderWrong)

/- THE SECOND FORM. 'bulk': how many values and letters a reading holds, each counted each time it is reached (what is shared counts as often as it is met; a slice's spare places count too). A statement '..UptoSaid' is the law's where the arguments, and the package variables that the reading takes, are together of bulk at most 1048576: NARROWER than '..Said'. Prove '..Said' where nothing that the law and all that it calls make is longer than what came in: it says more and counts as full. Else prove '..UptoSaid'. A law counts once. -/
mutual
def uptoBulk {H : Type} : DataW H → Nat
  | .lit (.string bytes) => bytes.length + 1
  | .lit _ => 1
  | .nil => 1
  | .ptr d => uptoBulk d + 1
  | .slice elems spare => uptoBulkAll elems + uptoBulkAll spare + 1
  | .agg parts => uptoBulkAll parts + 1
  | .iface _ d => uptoBulk d + 1
  | .map entries => uptoBulkEntries entries + 1
  | .held _ => 1
def uptoBulkAll {H : Type} : List (DataW H) → Nat
  | [] => 0
  | d :: r => uptoBulk d + uptoBulkAll r
def uptoBulkEntries {H : Type} : List (Lit × DataW H) → Nat
  | [] => 0
  | x :: r => uptoBulkEntry x + uptoBulkEntries r
def uptoBulkEntry {H : Type} : Lit × DataW H → Nat
  | (.string bytes, d) => bytes.length + uptoBulk d + 1
  | (_, d) => uptoBulk d + 1
 end
def uptoSmall : (H : Type) → List (DataW H) → Bool := fun _ ds => decide (uptoBulkAll ds ≤ 1048576)
def OpenSpec.upto (s : _root_.Go.ChangeSpec) : _root_.Go.OpenSpec := { _root_.Go.OpenSpec.ofChange s with cond := some uptoSmall }

/-- 'pannierlaw02.WireNumbers', WHERE WHAT IT READS IS OF BULK AT MOST 1048576: true; the input reads as it did. -/
def wireNumbersUptoRow : OpenClaim := { program := "ythnffebjjnbakaadoor", sum := "02ad15513c1f55fe22567ae3c36b95f252b5e1363730009f5cb547c8c21ff262", func := "pannier/pannierlaw02.WireNumbers", spec := "wireNumbers", named := ["pannier/wire.halves"], apart := false, laid := [("pannier/wire.halves", laid_pannier_wire_halves)], narrowed := true }
def WireNumbersUptoSaid : Prop := wireNumbersUptoRow.holds Tryd.pinned (OpenSpec.upto wireNumbersSpec)

/-- 'pannierlaw02.WireTexts', WHERE WHAT IT READS IS OF BULK AT MOST 1048576: true; the input reads as it did. -/
def wireTextsUptoRow : OpenClaim := { program := "ythnffebjjnbakaadoor", sum := "02ad15513c1f55fe22567ae3c36b95f252b5e1363730009f5cb547c8c21ff262", func := "pannier/pannierlaw02.WireTexts", spec := "wireTexts", named := ["pannier/wire.halves"], apart := false, laid := [("pannier/wire.halves", laid_pannier_wire_halves)], narrowed := true }
def WireTextsUptoSaid : Prop := wireTextsUptoRow.holds Tryd.pinned (OpenSpec.upto wireTextsSpec)

/-- 'pannierlaw02.WireSums', WHERE WHAT IT READS IS OF BULK AT MOST 1048576: true; the input reads as it did. -/
def wireSumsUptoRow : OpenClaim := { program := "ythnffebjjnbakaadoor", sum := "02ad15513c1f55fe22567ae3c36b95f252b5e1363730009f5cb547c8c21ff262", func := "pannier/pannierlaw02.WireSums", spec := "wireSums", named := ["pannier/wire.halves"], apart := false, laid := [("pannier/wire.halves", laid_pannier_wire_halves)], narrowed := true }
def WireSumsUptoSaid : Prop := wireSumsUptoRow.holds Tryd.pinned (OpenSpec.upto wireSumsSpec)

/-- 'pannierlaw02.WireSeals', WHERE WHAT IT READS IS OF BULK AT MOST 1048576: true; the input reads as it did. -/
def wireSealsUptoRow : OpenClaim := { program := "ythnffebjjnbakaadoor", sum := "02ad15513c1f55fe22567ae3c36b95f252b5e1363730009f5cb547c8c21ff262", func := "pannier/pannierlaw02.WireSeals", spec := "wireSeals", named := ["pannier/wire.halves"], apart := false, laid := [("pannier/wire.halves", laid_pannier_wire_halves)], narrowed := true }
def WireSealsUptoSaid : Prop := wireSealsUptoRow.holds Tryd.pinned (OpenSpec.upto wireSealsSpec)

/-- 'pannierlaw02.WireBack', WHERE WHAT IT READS IS OF BULK AT MOST 1048576: true; the input reads as it did. -/
def wireBackUptoRow : OpenClaim := { program := "ythnffebjjnbakaadoor", sum := "02ad15513c1f55fe22567ae3c36b95f252b5e1363730009f5cb547c8c21ff262", func := "pannier/pannierlaw02.WireBack", spec := "wireBack", named := ["pannier/wire.halves"], apart := false, laid := [("pannier/wire.halves", laid_pannier_wire_halves)], narrowed := true }
def WireBackUptoSaid : Prop := wireBackUptoRow.holds Tryd.pinned (OpenSpec.upto wireBackSpec)

/-- 'pannierlaw02.WireOne', WHERE WHAT IT READS IS OF BULK AT MOST 1048576: true; the input reads as it did. -/
def wireOneUptoRow : OpenClaim := { program := "ythnffebjjnbakaadoor", sum := "02ad15513c1f55fe22567ae3c36b95f252b5e1363730009f5cb547c8c21ff262", func := "pannier/pannierlaw02.WireOne", spec := "wireOne", named := ["pannier/wire.halves"], apart := false, laid := [("pannier/wire.halves", laid_pannier_wire_halves)], narrowed := true }
def WireOneUptoSaid : Prop := wireOneUptoRow.holds Tryd.pinned (OpenSpec.upto wireOneSpec)

/-- 'pannierlaw02.WireTurns', WHERE WHAT IT READS IS OF BULK AT MOST 1048576: true; the input reads as it did. -/
def wireTurnsUptoRow : OpenClaim := { program := "ythnffebjjnbakaadoor", sum := "02ad15513c1f55fe22567ae3c36b95f252b5e1363730009f5cb547c8c21ff262", func := "pannier/pannierlaw02.WireTurns", spec := "wireTurns", named := ["pannier/wire.halves"], apart := false, laid := [("pannier/wire.halves", laid_pannier_wire_halves)], narrowed := true }
def WireTurnsUptoSaid : Prop := wireTurnsUptoRow.holds Tryd.pinned (OpenSpec.upto wireTurnsSpec)

/-- 'pannierlaw02.WireOrder', WHERE WHAT IT READS IS OF BULK AT MOST 1048576: true; the input reads as it did. -/
def wireOrderUptoRow : OpenClaim := { program := "ythnffebjjnbakaadoor", sum := "02ad15513c1f55fe22567ae3c36b95f252b5e1363730009f5cb547c8c21ff262", func := "pannier/pannierlaw02.WireOrder", spec := "wireOrder", named := ["pannier/wire.halves"], apart := false, laid := [("pannier/wire.halves", laid_pannier_wire_halves)], narrowed := true }
def WireOrderUptoSaid : Prop := wireOrderUptoRow.holds Tryd.pinned (OpenSpec.upto wireOrderSpec)

end Rows
end Go.Proofs.YthnffebjjnbakaaDoor
