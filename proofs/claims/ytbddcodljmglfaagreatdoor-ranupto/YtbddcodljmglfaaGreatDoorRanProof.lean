/- Proved: called with whatever two texts, two lists of numbers and two numbers, together of bulk at most 1048576, Ran returns true and leaves its arguments as they were; and the card: the listed variables are tied to the program's text. Condition: the bulk's bound of the second form, no other. -/
import Derived.Test.YtbddcodljmglfaaGreatDoorRanCard
import Derived.Test.YtbddcodljmglfaaGreatDoorDocA
namespace Go.Proofs.YtbddcodljmglfaaGreatDoor

theorem ran_holds : Rows.RanUptoCardSaid := ran_holds_of runsDoc

#print axioms ran_holds
end Go.Proofs.YtbddcodljmglfaaGreatDoor
