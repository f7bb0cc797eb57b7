/- The document's example, run. -/
import Derived.Test.YtbddcodljmglfaaGreatDoorRunSpec
set_option linter.unusedSimpArgs false
set_option linter.unusedVariables false
namespace Go.Proofs.YtbddcodljmglfaaGreatDoor

def exB : BA := ⟨#[97, 114, 103, 115, 32, 110, 10, 98, 108, 111, 99, 107, 10, 115, 101, 116, 32, 105, 32, 48, 10, 103, 111, 116, 111, 32, 49, 10, 98, 108, 111, 99, 107, 10, 108, 101, 115, 115, 32, 99, 32, 105, 32, 110, 10, 105, 102, 32, 99, 32, 50, 32, 51, 10, 98, 108, 111, 99, 107, 10, 111, 117, 116, 32, 105, 10, 115, 101, 116, 32, 107, 32, 49, 10, 97, 100, 100, 32, 105, 32, 105, 32, 107, 10, 103, 111, 116, 111, 32, 49, 10, 98, 108, 111, 99, 107, 10, 101, 110, 100, 32, 105]⟩
set_option maxRecDepth 100000 in
theorem ex_run : resG exB [2] 30 = (⟨true, 2, [0, 1]⟩, 0, 0) := by kernel_rfl

end Go.Proofs.YtbddcodljmglfaaGreatDoor
