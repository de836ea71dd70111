/-
  TellMany: however many boots of the one machine (494 to 501), with a byte more behind them or not: what is told is as many lines as may be, and "many" where there are more; the arguments read as they did. The listed tables of the library hold what its text says (tied by the card). No other condition.
-/
import Derived.Test.YthaefdlkpljojaaGreatDoorM31
import Derived.Test.YthaefdlkpljojaaGreatDoorM30
set_option maxHeartbeats 8000000
namespace Go.Proofs.YthaefdlkpljojaaGreatDoor
theorem tellMany_card:Rows.TellManyCardSaid:=tellMany_card_of many_walk
#print axioms tellMany_card
end Go.Proofs.YthaefdlkpljojaaGreatDoor
