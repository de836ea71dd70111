/-
  DERIVED. GIVEN WITH THE SEED: THE CARDS: each row of YtkchckeecfalhaaGreatDoorRows.lean that lists a variable, with what it lists TIED to the program's text (the seventh form; the later family's looks); each row that meets fmt, with fmt's text TOLD by the authors' own Lean function (tested against real Go, not proved from fmt's source: count such statements apart). THE CARD IS WHAT COUNTS. Prove the row's statement (the work); the ties are given (YtkchckeecfalhaaGreatDoorTie.lean); close each card by the builder's one call (the guide's Derived/Test/ToyasCard.lean, 'card_holds'). Laid BY PROGRAM, IN A SANDBOX (cutbox-door.mjs). By AI agents, Wed Nov 11 2026. No macro, syntax, notation, axiom, sorry.
-/
import Derived.Test.YtkchckeecfalhaaGreatDoorRows
import GoSem.ClaimSeven
namespace Go.Proofs.YtkchckeecfalhaaGreatDoor
namespace Rows

/-- THE TIED CARD OF 'wayfarerlaw16.TellEntries'. -/
def tellEntriesCard : Claim7 := { stood := { row := tellEntriesRow, standIns := [], harness := (true, "c538195ea3936b8544323bae6e84ba8287cfad733dc66a6e26bcf23d69e185c8"), looks := true }, kinds := [], alts := [], laidByText := true, laidKinds := [.data, .data, .data], laidTests := true, laidLooks := .later }
def TellEntriesCardSaid : Prop := Claim7.holds Tryz.pinned (.plain (OpenSpec.ofChange tellEntriesSpec)) tellEntriesCard

/-- THE TIED CARD OF 'wayfarerlaw16.TellMany'. -/
def tellManyCard : Claim7 := { stood := { row := tellManyRow, standIns := [], harness := (true, "c538195ea3936b8544323bae6e84ba8287cfad733dc66a6e26bcf23d69e185c8"), looks := true }, kinds := [], alts := [], laidByText := true, laidKinds := [.data, .data, .data], laidTests := true, laidLooks := .later }
def TellManyCardSaid : Prop := Claim7.holds Tryz.pinned (.plain (OpenSpec.ofChange tellManySpec)) tellManyCard

/-- THE TIED CARD OF 'wayfarertop.WholeHand'. -/
def wholeHandCard : Claim7 := { stood := { row := wholeHandRow, standIns := [], harness := (true, "c538195ea3936b8544323bae6e84ba8287cfad733dc66a6e26bcf23d69e185c8"), looks := true }, kinds := [], alts := [], laidByText := true, laidKinds := [.data, .data, .data], laidTests := true, laidLooks := .later }
def WholeHandCardSaid : Prop := Claim7.holds Tryz.pinned (.plain (OpenSpec.ofChange wholeHandSpec)) wholeHandCard

/-- THE TIED CARD OF 'wayfarertop.WholeQuiet'. -/
def wholeQuietCard : Claim7 := { stood := { row := wholeQuietRow, standIns := [], harness := (true, "c538195ea3936b8544323bae6e84ba8287cfad733dc66a6e26bcf23d69e185c8"), looks := true }, kinds := [], alts := [], laidByText := true, laidKinds := [.data, .data, .data], laidTests := true, laidLooks := .later }
def WholeQuietCardSaid : Prop := Claim7.holds Tryz.pinned (.plain (OpenSpec.ofChange wholeQuietSpec)) wholeQuietCard

/-- THE SECOND FORM's CARD OF 'wayfarerlaw16.TellEntries'. -/
def tellEntriesUptoCard : Claim7 := { stood := { row := tellEntriesUptoRow, standIns := [], harness := (true, "c538195ea3936b8544323bae6e84ba8287cfad733dc66a6e26bcf23d69e185c8"), looks := true }, kinds := [], alts := [], laidByText := true, laidKinds := [.data, .data, .data], laidTests := true, laidLooks := .later }
def TellEntriesUptoCardSaid : Prop := Claim7.holds Tryz.pinned (.plain (OpenSpec.upto tellEntriesSpec)) tellEntriesUptoCard

/-- THE SECOND FORM's CARD OF 'wayfarerlaw16.TellMany'. -/
def tellManyUptoCard : Claim7 := { stood := { row := tellManyUptoRow, standIns := [], harness := (true, "c538195ea3936b8544323bae6e84ba8287cfad733dc66a6e26bcf23d69e185c8"), looks := true }, kinds := [], alts := [], laidByText := true, laidKinds := [.data, .data, .data], laidTests := true, laidLooks := .later }
def TellManyUptoCardSaid : Prop := Claim7.holds Tryz.pinned (.plain (OpenSpec.upto tellManySpec)) tellManyUptoCard

/-- THE SECOND FORM's CARD OF 'wayfarertop.WholeHand'. -/
def wholeHandUptoCard : Claim7 := { stood := { row := wholeHandUptoRow, standIns := [], harness := (true, "c538195ea3936b8544323bae6e84ba8287cfad733dc66a6e26bcf23d69e185c8"), looks := true }, kinds := [], alts := [], laidByText := true, laidKinds := [.data, .data, .data], laidTests := true, laidLooks := .later }
def WholeHandUptoCardSaid : Prop := Claim7.holds Tryz.pinned (.plain (OpenSpec.upto wholeHandSpec)) wholeHandUptoCard

/-- THE SECOND FORM's CARD OF 'wayfarertop.WholeQuiet'. -/
def wholeQuietUptoCard : Claim7 := { stood := { row := wholeQuietUptoRow, standIns := [], harness := (true, "c538195ea3936b8544323bae6e84ba8287cfad733dc66a6e26bcf23d69e185c8"), looks := true }, kinds := [], alts := [], laidByText := true, laidKinds := [.data, .data, .data], laidTests := true, laidLooks := .later }
def WholeQuietUptoCardSaid : Prop := Claim7.holds Tryz.pinned (.plain (OpenSpec.upto wholeQuietSpec)) wholeQuietUptoCard
end Rows
end Go.Proofs.YtkchckeecfalhaaGreatDoor
