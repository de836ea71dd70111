/-
  DERIVED. GIVEN WITH THE SEED: THE CARDS: each row of YthaefdlkpljojaaGreatDoorRows.lean that lists a variable, with what it lists TIED to the program's text (the seventh form; the later family's looks); each row that meets fmt, with fmt's text TOLD by the authors' own Lean function (tested against real Go, not proved from fmt's source: count such statements apart). THE CARD IS WHAT COUNTS. Prove the row's statement (the work); the ties are given (YthaefdlkpljojaaGreatDoorTie.lean); close each card by the builder's one call (the guide's Derived/Test/ToyasCard.lean, 'card_holds'). Laid BY PROGRAM, IN A SANDBOX (cutbox-door.mjs). By AI agents, Wed Nov 11 2026. No macro, syntax, notation, axiom, sorry.
-/
import Derived.Test.YthaefdlkpljojaaGreatDoorRows
import GoSem.ClaimSeven
namespace Go.Proofs.YthaefdlkpljojaaGreatDoor
namespace Rows

/-- THE TIED CARD OF 'wayfarerlaw16.TellMany'. -/
def tellManyCard : Claim7 := { stood := { row := tellManyRow, standIns := [], harness := (true, "ecabdd8993cbe7dddf3fc623f984061aa6cdc0ff7f0ca1410a54fb9bfa8bf224"), looks := true }, kinds := [], alts := [], laidByText := true, laidKinds := [.data, .data, .data], laidTests := true, laidLooks := .later }
def TellManyCardSaid : Prop := Claim7.holds Tryz.pinned (.plain (OpenSpec.ofChange tellManySpec)) tellManyCard

/-- THE TIED CARD OF 'wayfarertop.WholeHand'. -/
def wholeHandCard : Claim7 := { stood := { row := wholeHandRow, standIns := [], harness := (true, "ecabdd8993cbe7dddf3fc623f984061aa6cdc0ff7f0ca1410a54fb9bfa8bf224"), looks := true }, kinds := [], alts := [], laidByText := true, laidKinds := [.data, .data, .data], laidTests := true, laidLooks := .later }
def WholeHandCardSaid : Prop := Claim7.holds Tryz.pinned (.plain (OpenSpec.ofChange wholeHandSpec)) wholeHandCard

/-- THE TIED CARD OF 'wayfarertop.WholeQuiet'. -/
def wholeQuietCard : Claim7 := { stood := { row := wholeQuietRow, standIns := [], harness := (true, "ecabdd8993cbe7dddf3fc623f984061aa6cdc0ff7f0ca1410a54fb9bfa8bf224"), looks := true }, kinds := [], alts := [], laidByText := true, laidKinds := [.data, .data, .data], laidTests := true, laidLooks := .later }
def WholeQuietCardSaid : Prop := Claim7.holds Tryz.pinned (.plain (OpenSpec.ofChange wholeQuietSpec)) wholeQuietCard

/-- THE SECOND FORM's CARD OF 'wayfarerlaw16.TellMany'. -/
def tellManyUptoCard : Claim7 := { stood := { row := tellManyUptoRow, standIns := [], harness := (true, "ecabdd8993cbe7dddf3fc623f984061aa6cdc0ff7f0ca1410a54fb9bfa8bf224"), looks := true }, kinds := [], alts := [], laidByText := true, laidKinds := [.data, .data, .data], laidTests := true, laidLooks := .later }
def TellManyUptoCardSaid : Prop := Claim7.holds Tryz.pinned (.plain (OpenSpec.upto tellManySpec)) tellManyUptoCard

/-- THE SECOND FORM's CARD OF 'wayfarertop.WholeHand'. -/
def wholeHandUptoCard : Claim7 := { stood := { row := wholeHandUptoRow, standIns := [], harness := (true, "ecabdd8993cbe7dddf3fc623f984061aa6cdc0ff7f0ca1410a54fb9bfa8bf224"), looks := true }, kinds := [], alts := [], laidByText := true, laidKinds := [.data, .data, .data], laidTests := true, laidLooks := .later }
def WholeHandUptoCardSaid : Prop := Claim7.holds Tryz.pinned (.plain (OpenSpec.upto wholeHandSpec)) wholeHandUptoCard

/-- THE SECOND FORM's CARD OF 'wayfarertop.WholeQuiet'. -/
def wholeQuietUptoCard : Claim7 := { stood := { row := wholeQuietUptoRow, standIns := [], harness := (true, "ecabdd8993cbe7dddf3fc623f984061aa6cdc0ff7f0ca1410a54fb9bfa8bf224"), looks := true }, kinds := [], alts := [], laidByText := true, laidKinds := [.data, .data, .data], laidTests := true, laidLooks := .later }
def WholeQuietUptoCardSaid : Prop := Claim7.holds Tryz.pinned (.plain (OpenSpec.upto wholeQuietSpec)) wholeQuietUptoCard
end Rows
end Go.Proofs.YthaefdlkpljojaaGreatDoor
