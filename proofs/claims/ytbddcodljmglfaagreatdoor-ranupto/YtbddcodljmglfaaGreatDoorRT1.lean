/- The document's own reading: IsName, cut, first, Number. -/
import Derived.Test.YtbddcodljmglfaaGreatDoorLeaf
import Derived.Test.YtbddcodljmglfaaGreatDoorMemA
set_option linter.unusedSimpArgs false
set_option linter.unusedVariables false
namespace Go.Proofs.YtbddcodljmglfaaGreatDoor
open Go.RowKit

set_option maxHeartbeats 1000000 in
theorem rIsName_any (w : World) (s : BA) (hs : s.size ≤ 4294967280) : Calls Tryz.prog 176 #[.string s] w fun e w' => e = .returned (.bool (isNm s)) ∧ w' = w := by
  go_enter Tryz.func176, Tryz.ntmps176
  go_wp2_with fail
  go_loopg [3] s.size (fun g i wr => ∃ k : Nat, k + g = s.size ∧ i = .int .i64 k ∧ wr = w ∧ Hid (∀ j (h : j < s.size), j < k → 97 ≤ (s[j]).toNat ∧ (s[j]).toNat ≤ 122))
  case atStart => exact ⟨0, by omega, rfl, rfl, fun j _ hj => absurd hj (by omega)⟩
  case round =>
    obtain ⟨k, hkg, rfl, rfl, hall⟩ := hrel
    by_cases hlt : k < s.size
    · go_wp2_with fail
      · rename_i hA hB
        have hno : isNm s = false := by
          rw [← Bool.not_eq_true, isNm_iff]
          rintro ⟨-, -, h⟩
          have := h k hlt
          omega
        go_ret
        exact ⟨by first | rfl | (rw [hno]; rfl), rfl⟩
      · rename_i hA hB
        have hok : 97 ≤ (s[k]).toNat ∧ (s[k]).toNat ≤ 122 := by omega
        go_roundg (s.size - (k + 1))
        case measure => omega
        case rel => exact ⟨k + 1, by omega, by go_num, rfl, fun j h hj => by rcases Nat.lt_or_eq_of_le (Nat.le_of_lt_succ hj) with h' | h'; exact hall.out j h h'; subst h'; exact hok⟩
      · rename_i hB
        have hno : isNm s = false := by
          rw [← Bool.not_eq_true, isNm_iff]
          rintro ⟨-, -, h⟩
          have := h k hlt
          omega
        go_ret
        exact ⟨by first | rfl | (rw [hno]; rfl), rfl⟩
    · have hiff : isNm s = (decide (1 ≤ s.size) && decide (s.size ≤ 3)) := by
        rw [Bool.eq_iff_iff, isNm_iff, Bool.and_eq_true, decide_eq_true_eq, decide_eq_true_eq]
        exact ⟨fun h => ⟨h.1, h.2.1⟩, fun h => ⟨h.1, h.2, fun j hj => hall.out j hj (by omega)⟩⟩
      have HI : Hid _ := hiff
      clear hiff
      by_cases h1 : 1 ≤ s.size
      · by_cases h3 : s.size ≤ 3
        · go_wp2_with fail
          go_ret
          exact ⟨by rw [HI.out]; simp [h1, h3]; omega, rfl⟩
        · go_wp2_with fail
          go_ret
          exact ⟨by rw [HI.out]; simp [h1, h3]; omega, rfl⟩
      · go_wp2_with fail
        go_ret
        exact ⟨by rw [HI.out]; simp [h1], rfl⟩

theorem cutAt_some {c : UInt8} {s : BA} {k : Nat} (h : k < s.size) (hk : s[k] = c) (hno : ∀ j (hj : j < s.size), j < k → s[j] ≠ c) : cutAt c s = some k := by
  unfold cutAt
  have hl : k < s.data.toList.length := by rw [Array.length_toList]; exact h
  rw [List.findIdx?_eq_some_iff_getElem]
  refine ⟨hl, by rw [ba_get s k h, hk]; simp, fun j hj => ?_⟩
  have hjs : j < s.size := by omega
  rw [ba_get s j hjs]
  simpa using hno j hjs hj
theorem cutAt_none {c : UInt8} {s : BA} (hno : ∀ j (hj : j < s.size), s[j] ≠ c) : cutAt c s = none := by
  unfold cutAt
  rw [List.findIdx?_eq_none_iff]
  intro x hx
  obtain ⟨j, hj, rfl⟩ := List.getElem_of_mem hx
  have hjs : j < s.size := by rw [Array.length_toList] at hj; exact hj
  have := hno j hjs
  rw [← ba_get s j hjs] at this
  simpa using this

set_option maxHeartbeats 1000000 in
theorem cut_any (w : World) (s : BA) (c : UInt8) (hs : s.size ≤ 4294967280) : Calls Tryz.prog 92 #[.string s, .int .u8 (c.toNat : Nat)] w fun e w' => e = .returned (.tuple #[.string (cutHead c s), .string (cutTail c s), .bool (cutAt c s).isSome]) ∧ ∃ n, w' = w.drewN n := by
  go_enter Tryz.func92, Tryz.ntmps92
  go_wp2_with fail
  go_loopg [7] s.size (fun g i wr => ∃ k : Nat, k + g = s.size ∧ i = .int .i64 k ∧ wr = w ∧ Hid (∀ j (h : j < s.size), j < k → s[j] ≠ c))
  case atStart => exact ⟨0, by omega, rfl, rfl, fun j _ hj => absurd hj (by omega)⟩
  case round =>
    obtain ⟨k, hkg, rfl, rfl, hall⟩ := hrel
    by_cases hlt : k < s.size
    · by_cases hq : s[k] = c
      · have hat := cutAt_some hlt hq hall.out
        have H1 : Hid (cutHead c s = s.extract 0 k ∧ cutTail c s = s.extract (k + 1) s.size ∧ (cutAt c s).isSome = true) := by
          show _ ∧ _ ∧ _
          simp [cutHead, cutTail, hat]
        have hq' : (s[k]).toNat = c.toNat := by rw [hq]
        clear hat hq
        go_wp2_with fail
        go_quiet (fail)
        go_wp2_with fail
        go_ret3
        refine ⟨?_, _, rfl⟩
        rw [H1.out.1, H1.out.2.1, H1.out.2.2]
        rfl
      · have hq' : ¬ (s[k]).toNat = c.toNat := fun h => hq (UInt8.toNat_inj.1 h)
        have HQ : Hid (s[k] ≠ c) := hq
        clear hq
        go_wp2_with fail
        go_roundg (s.size - (k + 1))
        case measure => omega
        case rel => exact ⟨k + 1, by omega, by go_num, rfl, fun j h hj => by rcases Nat.lt_or_eq_of_le (Nat.le_of_lt_succ hj) with h' | h'; exact hall.out j h h'; subst h'; exact HQ.out⟩
    · have hat : cutAt c s = none := cutAt_none fun j hj => hall.out j hj (by omega)
      have H1 : Hid (cutHead c s = s ∧ cutTail c s = ByteArray.empty ∧ (cutAt c s).isSome = false) := by
        show _ ∧ _ ∧ _
        simp [cutHead, cutTail, hat]
      clear hat
      go_wp2_with fail
      go_ret3
      refine ⟨?_, 0, rfl⟩
      rw [H1.out.1, H1.out.2.1, H1.out.2.2]
      rfl

theorem first_any (w : World) (s : BA) (hs : s.size ≤ 4294967280) : Calls Tryz.prog 46 #[.string s] w fun e w' => e = .returned (.bool (ByteArray.toList (cutTail 46 s) == [48])) ∧ ∃ n, w' = w.drewN n := by
  go_enter Tryz.func46, Tryz.ntmps46
  go_wp2_with (first | (go_at_call 92; refine (cut_any _ s 46 hs).mono ?_; rintro e w1 ⟨rfl, n, rfl⟩))
  go_ret
  exact ⟨rfl, n, rfl⟩

end Go.Proofs.YtbddcodljmglfaaGreatDoor
