/- The document's Run, whole. -/
import Derived.Test.YtbddcodljmglfaaGreatDoorRV9
import Derived.Test.YtbddcodljmglfaaGreatDoorRV10
import Derived.Test.YtbddcodljmglfaaGreatDoorRanWalk
set_option linter.unusedSimpArgs false
set_option linter.unusedVariables false
namespace Go.Proofs.YtbddcodljmglfaaGreatDoor
open Go.RowKit

theorem runsDoc : RunsDoc := by
  intro w s hs argv xs hx hx64 fuel
  unfold resG
  have hd := doc_eq s
  cases hp : progG s with
  | error e =>
    rw [hp] at hd
    simp only at hd ⊢
    exact dRun_err w s hs e.1 e.2 (by have := prog_err hp; omega) hd argv fuel
  | ok r =>
    obtain ⟨A, bs⟩ := r
    rw [hp] at hd
    simp only at hd ⊢
    by_cases hf : fuel < 0 ∨ 2000 < fuel
    · simp only [hf, if_true]
      exact dRun_conf w s hs hd argv fuel hf
    · simp only [hf, if_false]
      obtain ⟨F, rfl⟩ : ∃ F : Nat, fuel = F := ⟨fuel.toNat, by omega⟩
      rw [Int.toNat_natCast]
      exact dRun_ok w s hs hd argv F (by omega) _ (fun W base tb bl lv bv vals hb hT hbi hpl => drun_of W s A bs hp F (by omega) argv xs (hx.below hb) hx64 base tb bl lv bv vals hT hbi hpl)

end Go.Proofs.YtbddcodljmglfaaGreatDoor
