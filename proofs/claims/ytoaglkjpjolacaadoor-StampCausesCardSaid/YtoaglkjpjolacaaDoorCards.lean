/-
  DERIVED. GIVEN WITH THE SEED: THE CARDS: each row of YtoaglkjpjolacaaDoorRows.lean that lists a variable, with what it lists TIED to the program's text (the seventh form; the later family's looks); each row that meets fmt, with fmt's text TOLD by the authors' own Lean function (tested against real Go, not proved from fmt's source: count such statements apart). THE CARD IS WHAT COUNTS. Prove the row's statement (the work); the ties are given (YtoaglkjpjolacaaDoorTie.lean); close each card by the builder's one call (the guide's Derived/Test/ToyasCard.lean, 'card_holds'). Laid BY PROGRAM, IN A SANDBOX (cutbox-door.mjs). By AI agents, Wed Nov 11 2026. No macro, syntax, notation, axiom, sorry.
-/
import Derived.Test.YtoaglkjpjolacaaDoorRows
import GoSem.ClaimSeven
namespace Go.Proofs.YtoaglkjpjolacaaDoor
namespace Rows

/-- THE TIED CARD OF 'pannierlaw06.StampForks'. -/
def stampForksCard : Claim7 := { stood := { row := stampForksRow, standIns := [], harness := (true, "be802d919386e2a09ca67a89d47ca304c41a1a220ebf0771f1a977f768f6925e"), looks := false }, kinds := [], alts := [], laidByText := true, laidKinds := [.data, .data, .data], laidTests := true, laidLooks := .later }
def StampForksCardSaid : Prop := Claim7.holds Tryd.pinned (.plain (OpenSpec.ofChange stampForksSpec)) stampForksCard

/-- THE TIED CARD OF 'pannierlaw06.StampRises'. -/
def stampRisesCard : Claim7 := { stood := { row := stampRisesRow, standIns := [], harness := (true, "be802d919386e2a09ca67a89d47ca304c41a1a220ebf0771f1a977f768f6925e"), looks := false }, kinds := [], alts := [], laidByText := true, laidKinds := [.data, .data, .data], laidTests := true, laidLooks := .later }
def StampRisesCardSaid : Prop := Claim7.holds Tryd.pinned (.plain (OpenSpec.ofChange stampRisesSpec)) stampRisesCard

/-- THE TIED CARD OF 'pannierlaw06.StampCauses'. -/
def stampCausesCard : Claim7 := { stood := { row := stampCausesRow, standIns := [], harness := (true, "be802d919386e2a09ca67a89d47ca304c41a1a220ebf0771f1a977f768f6925e"), looks := false }, kinds := [], alts := [], laidByText := true, laidKinds := [.data, .data, .data], laidTests := true, laidLooks := .later }
def StampCausesCardSaid : Prop := Claim7.holds Tryd.pinned (.plain (OpenSpec.ofChange stampCausesSpec)) stampCausesCard

/-- THE TIED CARD OF 'pannierlaw06.StampPeeks'. -/
def stampPeeksCard : Claim7 := { stood := { row := stampPeeksRow, standIns := [], harness := (true, "be802d919386e2a09ca67a89d47ca304c41a1a220ebf0771f1a977f768f6925e"), looks := false }, kinds := [], alts := [], laidByText := true, laidKinds := [.data, .data, .data], laidTests := true, laidLooks := .later }
def StampPeeksCardSaid : Prop := Claim7.holds Tryd.pinned (.plain (OpenSpec.ofChange stampPeeksSpec)) stampPeeksCard

/-- THE SECOND FORM's CARD OF 'pannierlaw06.StampForks'. -/
def stampForksUptoCard : Claim7 := { stood := { row := stampForksUptoRow, standIns := [], harness := (true, "be802d919386e2a09ca67a89d47ca304c41a1a220ebf0771f1a977f768f6925e"), looks := false }, kinds := [], alts := [], laidByText := true, laidKinds := [.data, .data, .data], laidTests := true, laidLooks := .later }
def StampForksUptoCardSaid : Prop := Claim7.holds Tryd.pinned (.plain (OpenSpec.upto stampForksSpec)) stampForksUptoCard

/-- THE SECOND FORM's CARD OF 'pannierlaw06.StampRises'. -/
def stampRisesUptoCard : Claim7 := { stood := { row := stampRisesUptoRow, standIns := [], harness := (true, "be802d919386e2a09ca67a89d47ca304c41a1a220ebf0771f1a977f768f6925e"), looks := false }, kinds := [], alts := [], laidByText := true, laidKinds := [.data, .data, .data], laidTests := true, laidLooks := .later }
def StampRisesUptoCardSaid : Prop := Claim7.holds Tryd.pinned (.plain (OpenSpec.upto stampRisesSpec)) stampRisesUptoCard

/-- THE SECOND FORM's CARD OF 'pannierlaw06.StampCauses'. -/
def stampCausesUptoCard : Claim7 := { stood := { row := stampCausesUptoRow, standIns := [], harness := (true, "be802d919386e2a09ca67a89d47ca304c41a1a220ebf0771f1a977f768f6925e"), looks := false }, kinds := [], alts := [], laidByText := true, laidKinds := [.data, .data, .data], laidTests := true, laidLooks := .later }
def StampCausesUptoCardSaid : Prop := Claim7.holds Tryd.pinned (.plain (OpenSpec.upto stampCausesSpec)) stampCausesUptoCard

/-- THE SECOND FORM's CARD OF 'pannierlaw06.StampPeeks'. -/
def stampPeeksUptoCard : Claim7 := { stood := { row := stampPeeksUptoRow, standIns := [], harness := (true, "be802d919386e2a09ca67a89d47ca304c41a1a220ebf0771f1a977f768f6925e"), looks := false }, kinds := [], alts := [], laidByText := true, laidKinds := [.data, .data, .data], laidTests := true, laidLooks := .later }
def StampPeeksUptoCardSaid : Prop := Claim7.holds Tryd.pinned (.plain (OpenSpec.upto stampPeeksSpec)) stampPeeksUptoCard
end Rows
end Go.Proofs.YtoaglkjpjolacaaDoor
