/-
  DERIVED. GIVEN WITH THE SEED: THE CARDS: each row of YtoaglkjpjolacaaGreatDoorRows.lean that lists a variable, with what it lists TIED to the program's text (the seventh form; the later family's looks); each row that meets fmt, with fmt's text TOLD by the authors' own Lean function (tested against real Go, not proved from fmt's source: count such statements apart). THE CARD IS WHAT COUNTS. Prove the row's statement (the work); the ties are given (YtoaglkjpjolacaaGreatDoorTie.lean); close each card by the builder's one call (the guide's Derived/Test/ToyasCard.lean, 'card_holds'). Laid BY PROGRAM, IN A SANDBOX (cutbox-door.mjs). By AI agents, Wed Nov 11 2026. No macro, syntax, notation, axiom, sorry.
-/
import Derived.Test.YtoaglkjpjolacaaGreatDoorRows
import GoSem.ClaimSeven
namespace Go.Proofs.YtoaglkjpjolacaaGreatDoor
namespace Rows

/-- THE TIED CARD OF 'pannierlaw06.StampJoins'. -/
def stampJoinsCard : Claim7 := { stood := { row := stampJoinsRow, standIns := [], harness := (true, "512d702123dcb9cf09baf8fd670ce34cb9f2364842cfe86fb67bf65c0c98d777"), looks := false }, kinds := [], alts := [], laidByText := true, laidKinds := [.data, .data, .data], laidTests := true, laidLooks := .later }
def StampJoinsCardSaid : Prop := Claim7.holds Tryz.pinned (.plain (OpenSpec.ofChange stampJoinsSpec)) stampJoinsCard

/-- THE TIED CARD OF 'pannierlaw06.StampEvents'. -/
def stampEventsCard : Claim7 := { stood := { row := stampEventsRow, standIns := [], harness := (true, "512d702123dcb9cf09baf8fd670ce34cb9f2364842cfe86fb67bf65c0c98d777"), looks := false }, kinds := [], alts := [], laidByText := true, laidKinds := [.data, .data, .data], laidTests := true, laidLooks := .later }
def StampEventsCardSaid : Prop := Claim7.holds Tryz.pinned (.plain (OpenSpec.ofChange stampEventsSpec)) stampEventsCard

/-- THE TIED CARD OF 'pannierlaw06.StampBytes'. -/
def stampBytesCard : Claim7 := { stood := { row := stampBytesRow, standIns := [], harness := (true, "512d702123dcb9cf09baf8fd670ce34cb9f2364842cfe86fb67bf65c0c98d777"), looks := false }, kinds := [], alts := [], laidByText := true, laidKinds := [.data, .data, .data], laidTests := true, laidLooks := .later }
def StampBytesCardSaid : Prop := Claim7.holds Tryz.pinned (.plain (OpenSpec.ofChange stampBytesSpec)) stampBytesCard

/-- THE TIED CARD OF 'pannierlaw06.StampBack'. -/
def stampBackCard : Claim7 := { stood := { row := stampBackRow, standIns := [], harness := (true, "512d702123dcb9cf09baf8fd670ce34cb9f2364842cfe86fb67bf65c0c98d777"), looks := false }, kinds := [], alts := [], laidByText := true, laidKinds := [.data, .data, .data], laidTests := true, laidLooks := .later }
def StampBackCardSaid : Prop := Claim7.holds Tryz.pinned (.plain (OpenSpec.ofChange stampBackSpec)) stampBackCard

/-- THE SECOND FORM's CARD OF 'pannierlaw06.StampJoins'. -/
def stampJoinsUptoCard : Claim7 := { stood := { row := stampJoinsUptoRow, standIns := [], harness := (true, "512d702123dcb9cf09baf8fd670ce34cb9f2364842cfe86fb67bf65c0c98d777"), looks := false }, kinds := [], alts := [], laidByText := true, laidKinds := [.data, .data, .data], laidTests := true, laidLooks := .later }
def StampJoinsUptoCardSaid : Prop := Claim7.holds Tryz.pinned (.plain (OpenSpec.upto stampJoinsSpec)) stampJoinsUptoCard

/-- THE SECOND FORM's CARD OF 'pannierlaw06.StampEvents'. -/
def stampEventsUptoCard : Claim7 := { stood := { row := stampEventsUptoRow, standIns := [], harness := (true, "512d702123dcb9cf09baf8fd670ce34cb9f2364842cfe86fb67bf65c0c98d777"), looks := false }, kinds := [], alts := [], laidByText := true, laidKinds := [.data, .data, .data], laidTests := true, laidLooks := .later }
def StampEventsUptoCardSaid : Prop := Claim7.holds Tryz.pinned (.plain (OpenSpec.upto stampEventsSpec)) stampEventsUptoCard

/-- THE SECOND FORM's CARD OF 'pannierlaw06.StampBytes'. -/
def stampBytesUptoCard : Claim7 := { stood := { row := stampBytesUptoRow, standIns := [], harness := (true, "512d702123dcb9cf09baf8fd670ce34cb9f2364842cfe86fb67bf65c0c98d777"), looks := false }, kinds := [], alts := [], laidByText := true, laidKinds := [.data, .data, .data], laidTests := true, laidLooks := .later }
def StampBytesUptoCardSaid : Prop := Claim7.holds Tryz.pinned (.plain (OpenSpec.upto stampBytesSpec)) stampBytesUptoCard

/-- THE SECOND FORM's CARD OF 'pannierlaw06.StampBack'. -/
def stampBackUptoCard : Claim7 := { stood := { row := stampBackUptoRow, standIns := [], harness := (true, "512d702123dcb9cf09baf8fd670ce34cb9f2364842cfe86fb67bf65c0c98d777"), looks := false }, kinds := [], alts := [], laidByText := true, laidKinds := [.data, .data, .data], laidTests := true, laidLooks := .later }
def StampBackUptoCardSaid : Prop := Claim7.holds Tryz.pinned (.plain (OpenSpec.upto stampBackSpec)) stampBackUptoCard
end Rows
end Go.Proofs.YtoaglkjpjolacaaGreatDoor
