/- Proved: called with whatever two texts, two lists of numbers and two numbers, together of bulk at most 1048576, Executed returns true and leaves its arguments as they were; and the card: the listed variables are tied to the program's text. Condition: the bulk's bound of the second form, no other. -/
import Derived.Test.YtbddcodljmglfaaGreatDoorExecCard
import Derived.Test.YtbddcodljmglfaaGreatDoorExecDoc
namespace Go.Proofs.YtbddcodljmglfaaGreatDoor

theorem executed_holds : Rows.ExecutedUptoCardSaid := executed_holds_of execsDoc

#print axioms executed_holds
end Go.Proofs.YtbddcodljmglfaaGreatDoor
