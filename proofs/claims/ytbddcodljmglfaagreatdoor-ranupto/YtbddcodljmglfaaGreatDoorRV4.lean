/- The document's phis, of programs; blockOf. -/
import Derived.Test.YtbddcodljmglfaaGreatDoorRV3
set_option linter.unusedSimpArgs false
set_option linter.unusedVariables false
namespace Go.Proofs.YtbddcodljmglfaaGreatDoor
open Go.RowKit

set_option maxRecDepth 100000 in
set_option maxHeartbeats 4000000 in
theorem phis0_any (w : World) (tb vb i : Nat) (fr : Int) (t2 : w.cell? ⟨tb, 2, none⟩ = some (.bool false)) :
    Calls Tryz.prog 75 #[.pointer (some ⟨tb, 0, none⟩), .pointer (some ⟨vb, 0, none⟩), .int .i64 (i : Int), .int .i64 fr] w fun e w' => e = .returned (.int .i64 (i : Int)) ∧ w' = w := by
  go_enter Tryz.func75, Tryz.ntmps75
  go_wp2_with fail
  go_loopg [2, 9] 0 (fun g v2 v9 wr => v2 = .int .i64 (i : Int) ∧ v9 = .slice none 0 0 ∧ wr = w)
  case atStart => exact ⟨rfl, rfl, rfl⟩
  case round =>
    obtain ⟨rfl, rfl, rfl⟩ := hrel
    go_wp2_with fail
    go_loopg [18] 0 (fun g v18 wr2 => v18 = .int .i64 0 ∧ Hid (wr2.heap = wr.heap ∧ wr2 = wr))
    case atStart => exact ⟨rfl, ⟨rfl, rfl⟩⟩
    case round =>
      obtain ⟨rfl, hw2⟩ := hrel
      go_wp2_with fail
      go_ret
      exact ⟨rfl, hw2.out.2⟩

set_option maxRecDepth 100000 in
set_option maxHeartbeats 4000000 in
theorem blockOf_any (w : World) (tb i cb N : Nat) (bo : Option Addr) (bl : List Nat) (hN : N = bl.length) (hb : N ≤ 1000000) (hi : i ≤ 1000000) (t1 : w.cell? ⟨tb, 1, none⟩ = some (.slice bo N cb)) (hr : RdT w 3 1 (.slice bo N cb) N (nums bl)) (hbl : ∀ b ∈ bl, b ≤ 1000000) :
    Calls Tryz.prog 77 #[.pointer (some ⟨tb, 0, none⟩), .int .i64 (i : Int)] w fun e w' => (∃ b : Int, e = .returned (.int .i64 b)) ∧ w' = w := by
  go_enter Tryz.func77, Tryz.ntmps77
  go_wp2_with fail
  go_loopg [5] N (fun g v5 wr => ∃ k : Nat, k + g = N ∧ v5 = .int .i64 ((k : Int) - 1) ∧ wr = w)
  case atStart => exact ⟨0, by omega, rfl, rfl⟩
  case round =>
    obtain ⟨k, hkg, rfl, hwr⟩ := hrel
    subst hwr
    by_cases hk : k < N
    · obtain ⟨x, hx⟩ : ∃ x, bl[k]? = some x := ⟨_, List.getElem?_eq_getElem (by omega)⟩
      have hxb := hbl x (List.mem_of_getElem? hx)
      obtain ⟨ao, cp, h1, -, hcl⟩ := hr.cell
      obtain ⟨g, off, h3, -, h4⟩ := hcl (by omega)
      injection h1 with h1 _ _
      rw [h3] at h1
      subst h1
      have cx : wr.cell? ⟨g, off + k, none⟩ = some (.int .i64 (x : Int)) := h4 k _ (by simp [nums, hx])
      have hk0 : (0 : Int) ≤ (k : Int) := by omega
      have hk1 : (k : Int) < (N : Int) := by omega
      have hk2 : (k : Int) - 1 + 1 = (k : Int) := by omega
      clear hcl h4 hr
      by_cases hxi : x ≤ i
      · have hxi' : (x : Int) ≤ (i : Int) := by omega
        go_wp2_with fail
        go_roundg (N - (k + 1))
        case measure => omega
        case rel => exact ⟨k + 1, by omega, by go_num, rfl⟩
      · have hxi' : ¬ (x : Int) ≤ (i : Int) := by omega
        go_wp2_with fail
        go_ret
        exact ⟨⟨_, rfl⟩, rfl⟩
    · have hk1 : ¬ (k : Int) < (N : Int) := by omega
      have hk2 : (k : Int) - 1 + 1 = (k : Int) := by omega
      go_wp2_with fail
      go_ret
      exact ⟨⟨_, rfl⟩, rfl⟩

end Go.Proofs.YtbddcodljmglfaaGreatDoor
