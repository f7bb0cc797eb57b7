/- The small functions of package lines: isName, find, parts, Ends. -/
import Derived.Test.YtbddcodljmglfaaGreatDoorMathA
import Derived.Test.YtbddcodljmglfaaGreatDoorMemA
import Derived.WalkMore
import Derived.Handy
import Derived.Deep.LoopGhost
set_option linter.unusedSimpArgs false
set_option linter.unusedVariables false
namespace Go.Proofs.YtbddcodljmglfaaGreatDoor
open Go.RowKit

theorem ends_any (w : World) (k : Nat) (hk : k < 10) : Calls Tryz.prog 162 #[.int .i64 k] w fun e w' => e = .returned (.bool (endsK k)) ∧ w' = w := by
  go_enter Tryz.func162, Tryz.ntmps162
  rcases (by omega : k = 0 ∨ k = 1 ∨ k = 2 ∨ k = 3 ∨ k = 4 ∨ k = 5 ∨ k = 6 ∨ k = 7 ∨ k = 8 ∨ k = 9) with rfl | rfl | rfl | rfl | rfl | rfl | rfl | rfl | rfl | rfl
  all_goals (go_wp2; go_ret; exact ⟨rfl, rfl⟩)

theorem find_any (w : World) (s : BA) : Calls Tryz.prog 187 #[.string s] w fun e w' => e = .returned (.tuple #[.int .i64 ((kindOf s).getD 0 : Nat), .bool (kindOf s).isSome]) ∧ w' = w := by
  go_enter Tryz.func187, Tryz.ntmps187
  go_wp2
  all_goals (go_ret2; refine ⟨?_, rfl⟩; simp [kindOf, *])

theorem kindOf_lt {s : BA} {k : Nat} (h : kindOf s = some k) : k < 10 := by
  unfold kindOf at h
  repeat' split at h
  all_goals simp at h
  all_goals omega

/-- The three cells that stand for what is behind a word. -/
def parts3 (k : Nat) : List Nat := (partsOf k) ++ List.replicate (3 - (partsOf k).length) 0

set_option maxRecDepth 10000 in
theorem parts_any (w : World) (k : Nat) (hk : k < 10) : Calls Tryz.prog 188 #[.int .i64 k] w fun e w' => e = .returned (.agg (nums (parts3 k)).toArray) ∧ ∃ o, w' = w.alloc o := by
  go_enter Tryz.func188, Tryz.ntmps188
  rcases (by omega : k = 0 ∨ k = 1 ∨ k = 2 ∨ k = 3 ∨ k = 4 ∨ k = 5 ∨ k = 6 ∨ k = 7 ∨ k = 8 ∨ k = 9) with rfl | rfl | rfl | rfl | rfl | rfl | rfl | rfl | rfl | rfl
  all_goals go_wp2
  all_goals go_returns
  all_goals exact ⟨rfl, _, rfl⟩

theorem isNm_iff (s : BA) : isNm s = true ↔ 1 ≤ s.size ∧ s.size ≤ 3 ∧ ∀ j (h : j < s.size), 97 ≤ (s[j]).toNat ∧ (s[j]).toNat ≤ 122 := by
  unfold isNm
  simp only [Bool.and_eq_true, decide_eq_true_eq, List.all_eq_true, and_assoc]
  refine and_congr_right fun _ => and_congr_right fun _ => ?_
  constructor
  · intro h j hj
    exact h s[j] (by show s.data[j] ∈ s.data.toList; simp)
  · intro h b hb
    obtain ⟨j, hj, rfl⟩ := List.getElem_of_mem hb
    exact h j (by rw [Array.length_toList] at hj; exact hj)

set_option maxHeartbeats 1000000 in
theorem isName_any (w : World) (s : BA) : Calls Tryz.prog 182 #[.string s] w fun e w' => e = .returned (.bool (isNm s)) ∧ w' = w := by
  go_enter Tryz.func182, Tryz.ntmps182
  by_cases h1 : 1 ≤ s.size
  · by_cases h3 : s.size ≤ 3
    · go_wp2_with fail
      go_loopg [14] s.size (fun g i wr => ∃ k : Nat, k + g = s.size ∧ i = .int .i64 k ∧ wr = w ∧ Hid (∀ j (h : j < s.size), j < k → 97 ≤ (s[j]).toNat ∧ (s[j]).toNat ≤ 122))
      case atStart => exact ⟨0, by omega, rfl, rfl, fun j _ hj => absurd hj (by omega)⟩
      case round =>
        obtain ⟨k, hkg, rfl, rfl, hall⟩ := hrel
        by_cases hlt : k < s.size
        · go_wp2_with fail
          · rename_i hA hB
            have hno : isNm s = false := by
              rw [← Bool.not_eq_true, isNm_iff]
              rintro ⟨-, -, h⟩
              have := h k hlt
              omega
            go_ret
            exact ⟨by first | rfl | (rw [hno]; rfl), rfl⟩
          · rename_i hA hB
            have hok : 97 ≤ (s[k]).toNat ∧ (s[k]).toNat ≤ 122 := by omega
            go_roundg (s.size - (k + 1))
            case measure => omega
            case rel => exact ⟨k + 1, by omega, by go_num, rfl, fun j h hj => by rcases Nat.lt_or_eq_of_le (Nat.le_of_lt_succ hj) with h' | h'; exact hall.out j h h'; subst h'; exact hok⟩
          · rename_i hB
            have hno : isNm s = false := by
              rw [← Bool.not_eq_true, isNm_iff]
              rintro ⟨-, -, h⟩
              have := h k hlt
              omega
            go_ret
            exact ⟨by first | rfl | (rw [hno]; rfl), rfl⟩
        · have hyes : isNm s = true := (isNm_iff s).2 ⟨h1, h3, fun j h => hall.out j h (by omega)⟩
          go_wp2_with fail
          go_ret
          exact ⟨by rw [hyes]; rfl, rfl⟩
    · have hno : isNm s = false := by
        rw [← Bool.not_eq_true, isNm_iff]
        exact fun h => h3 h.2.1
      go_wp2_with fail
      go_ret
      exact ⟨by first | rfl | (rw [hno]; rfl), rfl⟩
  · have hno : isNm s = false := by
      rw [← Bool.not_eq_true, isNm_iff]
      exact fun h => h1 h.1
    go_wp2_with fail
    go_ret
    exact ⟨by first | rfl | (rw [hno]; rfl), rfl⟩

end Go.Proofs.YtbddcodljmglfaaGreatDoor
