/-
  WholeQuiet: whatever net to which nothing happens but boots: each machine is told as one that runs, or is down; the arguments read as they did. The listed tables of the library hold what its text says (tied by the card). No other condition.
-/
import Derived.Test.YthaefdlkpljojaaGreatDoorQ34
import Derived.Test.YthaefdlkpljojaaGreatDoorQ33
set_option maxHeartbeats 8000000
namespace Go.Proofs.YthaefdlkpljojaaGreatDoor
theorem wholeQuiet_card:Rows.WholeQuietCardSaid:=wholeQuiet_card_of quiet_walk
#print axioms wholeQuiet_card
end Go.Proofs.YthaefdlkpljojaaGreatDoor
