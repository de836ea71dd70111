/-
  DERIVED. GIVEN WITH THE SEED: THE CARDS: each row of YtpljkpnebibbaaaGreatDoorRows.lean that lists a variable, with what it lists TIED to the program's text (the seventh form; the later family's looks); each row that meets fmt, with fmt's text TOLD by the authors' own Lean function (tested against real Go, not proved from fmt's source: count such statements apart). THE CARD IS WHAT COUNTS. Prove the row's statement (the work); the ties are given (YtpljkpnebibbaaaGreatDoorTie.lean); close each card by the builder's one call (the guide's Derived/Test/ToyasCard.lean, 'card_holds'). Laid BY PROGRAM, IN A SANDBOX (cutbox-door.mjs). By AI agents, Wed Nov 11 2026. No macro, syntax, notation, axiom, sorry.
-/
import Derived.Test.YtpljkpnebibbaaaGreatDoorRows
import GoSem.ClaimSeven
namespace Go.Proofs.YtpljkpnebibbaaaGreatDoor
namespace Rows

/-- THE TIED CARD OF 'wayfarertop.WholeHand'. -/
def wholeHandCard : Claim7 := { stood := { row := wholeHandRow, standIns := [], harness := (true, "84a50aae3a147009d1fc0be37757c41372f1ca53e8494d2a80c0e509141cc0b1"), looks := true }, kinds := [], alts := [], laidByText := true, laidKinds := [.data, .data, .data], laidTests := true, laidLooks := .later }
def WholeHandCardSaid : Prop := Claim7.holds Tryz.pinned (.plain (OpenSpec.ofChange wholeHandSpec)) wholeHandCard

/-- THE SECOND FORM's CARD OF 'wayfarertop.WholeHand'. -/
def wholeHandUptoCard : Claim7 := { stood := { row := wholeHandUptoRow, standIns := [], harness := (true, "84a50aae3a147009d1fc0be37757c41372f1ca53e8494d2a80c0e509141cc0b1"), looks := true }, kinds := [], alts := [], laidByText := true, laidKinds := [.data, .data, .data], laidTests := true, laidLooks := .later }
def WholeHandUptoCardSaid : Prop := Claim7.holds Tryz.pinned (.plain (OpenSpec.upto wholeHandSpec)) wholeHandUptoCard
end Rows
end Go.Proofs.YtpljkpnebibbaaaGreatDoor
