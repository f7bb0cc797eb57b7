/- For the document's run: the variables' names stay apart; a trace with one number more. -/
import Derived.Test.YtbddcodljmglfaaGreatDoorRV5
import Derived.Test.YtbddcodljmglfaaGreatDoorRT15
import Derived.Test.YtbddcodljmglfaaGreatDoorFuelWalk
set_option linter.unusedSimpArgs false
set_option linter.unusedVariables false
namespace Go.Proofs.YtbddcodljmglfaaGreatDoor
open Go.RowKit

theorem putV_nodup {V : List (Ver × Int)} {p : Ver} {n : Int} (h : (V.map (·.1)).Nodup) : ((putV V p n).map (·.1)).Nodup := by
  unfold putV
  split
  · have e : (V.map (fun x => if x.1 = p then (p, n) else x)).map (·.1) = V.map (·.1) := by
      rw [List.map_map]
      apply List.map_congr_left
      intro x _
      by_cases hx : x.1 = p <;> simp [hx]
    rw [e]
    exact h
  · rename_i hh
    rw [List.map_append, List.nodup_append]
    refine ⟨h, by simp, fun a ha b hb e => ?_⟩
    simp at hb
    subst hb
    subst e
    exact hh (hasV_iff.2 ha)
theorem putV_len (V : List (Ver × Int)) (p : Ver) (n : Int) : (putV V p n).length ≤ V.length + 1 := by
  unfold putV
  split <;> simp
theorem putV_zero {V : List (Ver × Int)} (h : ∀ x ∈ V, x.1.2 = 0) (a : BA) (n : Int) : ∀ x ∈ putV V (a, 0) n, x.1.2 = 0 := by
  unfold putV
  split
  · intro x hx
    obtain ⟨y, hy, rfl⟩ := List.mem_map.1 hx
    by_cases he : y.1 = (a, 0)
    · simp [he]
    · simp [he, h y hy]
  · intro x hx
    rcases List.mem_append.1 hx with hx | hx
    · exact h x hx
    · rw [List.mem_singleton] at hx; subst hx; rfl
theorem foldV_nodup : ∀ (l : List (Ver × Int)) (V : List (Ver × Int)), (V.map (·.1)).Nodup → ((l.foldl (fun V x => putV V x.1 x.2) V).map (·.1)).Nodup
  | [], V, h => h
  | x :: r, V, h => foldV_nodup r _ (putV_nodup h)
theorem foldV_len : ∀ (l : List (Ver × Int)) (V : List (Ver × Int)), (l.foldl (fun V x => putV V x.1 x.2) V).length ≤ V.length + l.length
  | [], V => by simp
  | x :: r, V => by
    have h1 := foldV_len r (putV V x.1 x.2)
    have h2 := putV_len V x.1 x.2
    simp only [List.foldl_cons, List.length_cons]
    omega

/-- A trace with one number more. -/
theorem traceB_first (y : Int) : traceB [y] = ofD (Lib.itoa y) := by
  unfold traceB ofD
  rw [List.map_cons, List.map_nil, Lib.join_one]
theorem traceB_more (tr : List Int) (y : Int) (h : tr ≠ []) : traceB (tr ++ [y]) = (traceB tr ++ (⟨#[32]⟩ : BA)) ++ ofD (Lib.itoa y) := by
  cases tr with
  | nil => exact absurd rfl h
  | cons a r =>
    apply ba_ext
    rw [ByteArray.toList_eq, ByteArray.toList_eq]
    have e : (Lib.join ((a :: r ++ [y]).map Lib.itoa) [32]) = Lib.join ((a :: r).map Lib.itoa) [32] ++ (32 :: Lib.itoa y) := by
      rw [List.map_append, List.map_cons, List.cons_append, Lib.join_cons, Lib.join_cons, joinTail_app, List.append_assoc]
      simp [Lib.joinTail]
    show (Lib.join ((a :: r ++ [y]).map Lib.itoa) [32]).toArray.toList = _
    rw [e]
    simp [traceB, ofD]
theorem itoa_len_pos (y : Int) : 0 < (Lib.itoa y).length := by
  unfold Lib.itoa
  split
  · simp
  · rw [Lib.decDigits]
    split <;> simp
theorem traceB_empty (tr : List Int) : (traceB tr).size = 0 ↔ tr = [] := by
  constructor
  · intro h
    cases tr with
    | nil => rfl
    | cons a r =>
      exfalso
      have h2 : (Lib.join ((a :: r).map Lib.itoa) [32]).length = 0 := by
        have : (traceB (a :: r)).size = (Lib.join ((a :: r).map Lib.itoa) [32]).length := by
          show (Lib.join ((a :: r).map Lib.itoa) [32]).toArray.size = _
          simp
        omega
      rw [List.map_cons, Lib.join_cons, List.length_append] at h2
      have := itoa_len_pos a
      omega
  · rintro rfl
    rfl

end Go.Proofs.YtbddcodljmglfaaGreatDoor
