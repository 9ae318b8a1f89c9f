/-
  No cell of these rows narrows 'for every input' (looked for: loops, veiled, ifaces, maps, wideKeys, modest, calm, conditions, laid).
  DERIVED. THE GIVEN ROWS OF THIS SEAT. 6 by the template 'for every input the law returns true; each argument reads behind the call as it read before'; 0 by the template 'total and deterministic' (their statements: YtccjdajneoploaaTotals.lean).
  GIVEN WITH THE SEED: the statements are not yours to turn. If you find one false, say at which input.
  Laid BY PROGRAM, IN A SANDBOX (cutbox-rows.mjs): the forced cells as the released guide's own fill.sh prints them over the translation 47ab75c32069b703… (all of the seat's roots in one cut). By AI agents, Wed Nov 11 2026. No macro, syntax, notation, axiom, sorry.
-/
import Derived.Test.YtccjdajneoploaaChecked
import GoSem.Claim
import GoSem.ClaimJoined
import GoSem.ClaimMapViews
import Derived.JoinedTies
import Derived.KernelRfl
namespace Go.Proofs.Ytccjdajneoploaa
/- THE CELL 'sum', in the pinned program and in every row, IS THE sha256 OF THE DUMP (.gsa) THAT YtccjdajneoploaaProg.lean LOADS. Nothing in Lean hashes anything: it is a label: what it is worth is what the hold of that sum in a sandbox is worth. -/
noncomputable def Try.pinned : Pinned := { name := "ytccjdajneoploaa", sum := "47ab75c32069b703ee0f161556aee9fab5a53df5160e9f9b37887052f233b383", checked := Try.checked }
namespace Rows
def none {H : Type} : Left H := { results := [], args := [] }

/-- 'pannierlaw03.KeysWords': WHATEVER THE INPUT: true; the input reads as it did. -/
def keysWordsSpec : ChangeSpec := { name := "keysWords", fn := fun _ => fun
  | [d1, d2] => { results := [.lit (.bool true)], args := [d1, d2] }
  | _ => none }
def keysWordsRow : OpenClaim := { program := "ytccjdajneoploaa", sum := "47ab75c32069b703ee0f161556aee9fab5a53df5160e9f9b37887052f233b383", func := "pannier/pannierlaw03.KeysWords", spec := "keysWords", unfollowed := true, recurses := true, apart := false }
def KeysWordsSaid : Prop := keysWordsRow.holds Try.pinned (OpenSpec.ofChange keysWordsSpec)

/-- ITS FALSE NEIGHBOUR: 'it returns false'. Refute it at one input. -/
def keysWordsWrong : ChangeSpec := { name := "keysWords", fn := fun _ => fun
  | [d1, d2] => { results := [.lit (.bool false)], args := [d1, d2] }
  | _ => none }
def KeysWordsWrongFalsely : Prop := keysWordsRow.holds Try.pinned (OpenSpec.ofChange keysWordsWrong)

/-- 'pannierlaw03.KeysStand': WHATEVER THE INPUT: true; the input reads as it did. -/
def keysStandSpec : ChangeSpec := { name := "keysStand", fn := fun _ => fun
  | [d1, d2] => { results := [.lit (.bool true)], args := [d1, d2] }
  | _ => none }
def keysStandRow : OpenClaim := { program := "ytccjdajneoploaa", sum := "47ab75c32069b703ee0f161556aee9fab5a53df5160e9f9b37887052f233b383", func := "pannier/pannierlaw03.KeysStand", spec := "keysStand", unfollowed := true, recurses := true, apart := false }
def KeysStandSaid : Prop := keysStandRow.holds Try.pinned (OpenSpec.ofChange keysStandSpec)

/-- ITS FALSE NEIGHBOUR: 'it returns false'. Refute it at one input. -/
def keysStandWrong : ChangeSpec := { name := "keysStand", fn := fun _ => fun
  | [d1, d2] => { results := [.lit (.bool false)], args := [d1, d2] }
  | _ => none }
def KeysStandWrongFalsely : Prop := keysStandRow.holds Try.pinned (OpenSpec.ofChange keysStandWrong)

/-- 'pannierlaw03.KeysBehind': WHATEVER THE INPUT: true; the input reads as it did. -/
def keysBehindSpec : ChangeSpec := { name := "keysBehind", fn := fun _ => fun
  | [d] => { results := [.lit (.bool true)], args := [d] }
  | _ => none }
def keysBehindRow : OpenClaim := { program := "ytccjdajneoploaa", sum := "47ab75c32069b703ee0f161556aee9fab5a53df5160e9f9b37887052f233b383", func := "pannier/pannierlaw03.KeysBehind", spec := "keysBehind", unfollowed := true, recurses := true, apart := false }
def KeysBehindSaid : Prop := keysBehindRow.holds Try.pinned (OpenSpec.ofChange keysBehindSpec)

/-- ITS FALSE NEIGHBOUR: 'it returns false'. Refute it at one input. -/
def keysBehindWrong : ChangeSpec := { name := "keysBehind", fn := fun _ => fun
  | [d] => { results := [.lit (.bool false)], args := [d] }
  | _ => none }
def KeysBehindWrongFalsely : Prop := keysBehindRow.holds Try.pinned (OpenSpec.ofChange keysBehindWrong)

/-- 'pannierlaw03.KeysOrder': WHATEVER THE INPUT: true; the input reads as it did. -/
def keysOrderSpec : ChangeSpec := { name := "keysOrder", fn := fun _ => fun
  | [d1, d2] => { results := [.lit (.bool true)], args := [d1, d2] }
  | _ => none }
def keysOrderRow : OpenClaim := { program := "ytccjdajneoploaa", sum := "47ab75c32069b703ee0f161556aee9fab5a53df5160e9f9b37887052f233b383", func := "pannier/pannierlaw03.KeysOrder", spec := "keysOrder", unfollowed := true, recurses := true, apart := false }
def KeysOrderSaid : Prop := keysOrderRow.holds Try.pinned (OpenSpec.ofChange keysOrderSpec)

/-- ITS FALSE NEIGHBOUR: 'it returns false'. Refute it at one input. -/
def keysOrderWrong : ChangeSpec := { name := "keysOrder", fn := fun _ => fun
  | [d1, d2] => { results := [.lit (.bool false)], args := [d1, d2] }
  | _ => none }
def KeysOrderWrongFalsely : Prop := keysOrderRow.holds Try.pinned (OpenSpec.ofChange keysOrderWrong)

/-- 'pannierlaw03.KeysOne': WHATEVER THE INPUT: true; the input reads as it did. -/
def keysOneSpec : ChangeSpec := { name := "keysOne", fn := fun _ => fun
  | [d] => { results := [.lit (.bool true)], args := [d] }
  | _ => none }
def keysOneRow : OpenClaim := { program := "ytccjdajneoploaa", sum := "47ab75c32069b703ee0f161556aee9fab5a53df5160e9f9b37887052f233b383", func := "pannier/pannierlaw03.KeysOne", spec := "keysOne", unfollowed := true, recurses := true, apart := false }
def KeysOneSaid : Prop := keysOneRow.holds Try.pinned (OpenSpec.ofChange keysOneSpec)

/-- ITS FALSE NEIGHBOUR: 'it returns false'. Refute it at one input. -/
def keysOneWrong : ChangeSpec := { name := "keysOne", fn := fun _ => fun
  | [d] => { results := [.lit (.bool false)], args := [d] }
  | _ => none }
def KeysOneWrongFalsely : Prop := keysOneRow.holds Try.pinned (OpenSpec.ofChange keysOneWrong)

/-- 'pannierlaw03.KeysBegin': WHATEVER THE INPUT: true; the input reads as it did. -/
def keysBeginSpec : ChangeSpec := { name := "keysBegin", fn := fun _ => fun
  | [d1, d2] => { results := [.lit (.bool true)], args := [d1, d2] }
  | _ => none }
def keysBeginRow : OpenClaim := { program := "ytccjdajneoploaa", sum := "47ab75c32069b703ee0f161556aee9fab5a53df5160e9f9b37887052f233b383", func := "pannier/pannierlaw03.KeysBegin", spec := "keysBegin", unfollowed := true, recurses := true, apart := false }
def KeysBeginSaid : Prop := keysBeginRow.holds Try.pinned (OpenSpec.ofChange keysBeginSpec)

/-- ITS FALSE NEIGHBOUR: 'it returns false'. Refute it at one input. -/
def keysBeginWrong : ChangeSpec := { name := "keysBegin", fn := fun _ => fun
  | [d1, d2] => { results := [.lit (.bool false)], args := [d1, d2] }
  | _ => none }
def KeysBeginWrongFalsely : Prop := keysBeginRow.holds Try.pinned (OpenSpec.ofChange keysBeginWrong)

/- THE SECOND FORM. 'bulk': how many values and letters a reading holds, each counted each time it is reached (what is shared counts as often as it is met; a slice's spare places count too). A statement '..UptoSaid' is the law's where the arguments, and the package variables that the reading takes, are together of bulk at most 1048576: NARROWER than '..Said'. Prove '..Said' where nothing that the law and all that it calls make is longer than what came in: it says more and counts as full. Else prove '..UptoSaid'. A law counts once. -/
mutual
def uptoBulk {H : Type} : DataW H → Nat
  | .lit (.string bytes) => bytes.length + 1
  | .lit _ => 1
  | .nil => 1
  | .ptr d => uptoBulk d + 1
  | .slice elems spare => uptoBulkAll elems + uptoBulkAll spare + 1
  | .agg parts => uptoBulkAll parts + 1
  | .iface _ d => uptoBulk d + 1
  | .map entries => uptoBulkEntries entries + 1
  | .held _ => 1
def uptoBulkAll {H : Type} : List (DataW H) → Nat
  | [] => 0
  | d :: r => uptoBulk d + uptoBulkAll r
def uptoBulkEntries {H : Type} : List (Lit × DataW H) → Nat
  | [] => 0
  | x :: r => uptoBulkEntry x + uptoBulkEntries r
def uptoBulkEntry {H : Type} : Lit × DataW H → Nat
  | (.string bytes, d) => bytes.length + uptoBulk d + 1
  | (_, d) => uptoBulk d + 1
 end
def uptoSmall : (H : Type) → List (DataW H) → Bool := fun _ ds => decide (uptoBulkAll ds ≤ 1048576)
def OpenSpec.upto (s : _root_.Go.ChangeSpec) : _root_.Go.OpenSpec := { _root_.Go.OpenSpec.ofChange s with cond := some uptoSmall }

/-- 'pannierlaw03.KeysWords', WHERE WHAT IT READS IS OF BULK AT MOST 1048576: true; the input reads as it did. -/
def keysWordsUptoRow : OpenClaim := { program := "ytccjdajneoploaa", sum := "47ab75c32069b703ee0f161556aee9fab5a53df5160e9f9b37887052f233b383", func := "pannier/pannierlaw03.KeysWords", spec := "keysWords", unfollowed := true, recurses := true, apart := false, narrowed := true }
def KeysWordsUptoSaid : Prop := keysWordsUptoRow.holds Try.pinned (OpenSpec.upto keysWordsSpec)

/-- 'pannierlaw03.KeysStand', WHERE WHAT IT READS IS OF BULK AT MOST 1048576: true; the input reads as it did. -/
def keysStandUptoRow : OpenClaim := { program := "ytccjdajneoploaa", sum := "47ab75c32069b703ee0f161556aee9fab5a53df5160e9f9b37887052f233b383", func := "pannier/pannierlaw03.KeysStand", spec := "keysStand", unfollowed := true, recurses := true, apart := false, narrowed := true }
def KeysStandUptoSaid : Prop := keysStandUptoRow.holds Try.pinned (OpenSpec.upto keysStandSpec)

/-- 'pannierlaw03.KeysBehind', WHERE WHAT IT READS IS OF BULK AT MOST 1048576: true; the input reads as it did. -/
def keysBehindUptoRow : OpenClaim := { program := "ytccjdajneoploaa", sum := "47ab75c32069b703ee0f161556aee9fab5a53df5160e9f9b37887052f233b383", func := "pannier/pannierlaw03.KeysBehind", spec := "keysBehind", unfollowed := true, recurses := true, apart := false, narrowed := true }
def KeysBehindUptoSaid : Prop := keysBehindUptoRow.holds Try.pinned (OpenSpec.upto keysBehindSpec)

/-- 'pannierlaw03.KeysOrder', WHERE WHAT IT READS IS OF BULK AT MOST 1048576: true; the input reads as it did. -/
def keysOrderUptoRow : OpenClaim := { program := "ytccjdajneoploaa", sum := "47ab75c32069b703ee0f161556aee9fab5a53df5160e9f9b37887052f233b383", func := "pannier/pannierlaw03.KeysOrder", spec := "keysOrder", unfollowed := true, recurses := true, apart := false, narrowed := true }
def KeysOrderUptoSaid : Prop := keysOrderUptoRow.holds Try.pinned (OpenSpec.upto keysOrderSpec)

/-- 'pannierlaw03.KeysOne', WHERE WHAT IT READS IS OF BULK AT MOST 1048576: true; the input reads as it did. -/
def keysOneUptoRow : OpenClaim := { program := "ytccjdajneoploaa", sum := "47ab75c32069b703ee0f161556aee9fab5a53df5160e9f9b37887052f233b383", func := "pannier/pannierlaw03.KeysOne", spec := "keysOne", unfollowed := true, recurses := true, apart := false, narrowed := true }
def KeysOneUptoSaid : Prop := keysOneUptoRow.holds Try.pinned (OpenSpec.upto keysOneSpec)

/-- 'pannierlaw03.KeysBegin', WHERE WHAT IT READS IS OF BULK AT MOST 1048576: true; the input reads as it did. -/
def keysBeginUptoRow : OpenClaim := { program := "ytccjdajneoploaa", sum := "47ab75c32069b703ee0f161556aee9fab5a53df5160e9f9b37887052f233b383", func := "pannier/pannierlaw03.KeysBegin", spec := "keysBegin", unfollowed := true, recurses := true, apart := false, narrowed := true }
def KeysBeginUptoSaid : Prop := keysBeginUptoRow.holds Try.pinned (OpenSpec.upto keysBeginSpec)

end Rows
end Go.Proofs.Ytccjdajneoploaa
