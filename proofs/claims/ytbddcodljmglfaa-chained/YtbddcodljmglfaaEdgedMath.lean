/- What edged gathers is where the ways meet. -/
import Derived.Test.YtbddcodljmglfaaChainMath
set_option linter.unusedSimpArgs false
set_option linter.unusedVariables false
namespace Go.Proofs.Ytbddcodljmglfaa
open Go.RowKit

theorem sub_len : ∀ (l m : List Nat), l.Nodup → (∀ x ∈ l, x ∈ m) → l.length ≤ m.length
  | [], _, _, _ => by simp
  | x :: l, m, h, hs => by
    rw [List.nodup_cons] at h
    have h1 := sub_len l (m.erase x) h.2 (fun y hy => (List.mem_erase_of_ne (fun e => h.1 (by rw [← e]; exact hy))).2 (hs y (by simp [hy])))
    have h2 : x ∈ m := hs x (by simp)
    rw [List.length_erase_of_mem h2] at h1
    have h3 : 0 < m.length := List.length_pos_of_mem h2
    simp only [List.length_cons]
    omega

theorem onEdge_reached {L : List (Nat × Nat)} {a y : Nat} (h : OnEdge L a y) : Fwd L (-1) a := by
  obtain ⟨_, x, h, _⟩ := h
  exact Held.reached h

/-- What is gathered so far. -/
structure Edg (n : Nat) (L : List (Nat × Nat)) (F M : List Nat) : Prop where
  nodup : M.Nodup
  lt : ∀ y ∈ M, y < n
  met : ∀ y ∈ M, Met L F y

theorem edg_start (n : Nat) (L : List (Nat × Nat)) (F : List Nat) : Edg n L F [] := ⟨by simp, by simp, by simp⟩

theorem Edg.push {n : Nat} {L : List (Nat × Nat)} {F M : List Nat} {a y : Nat} (h : Edg n L F M) (ha : a ∈ F ++ M) (hy : y < n) (he : OnEdge L a y) (hno : y ∉ M) : Edg n L F (M ++ [y]) := by
  refine ⟨?_, ?_, ?_⟩
  · rw [List.nodup_append]
    exact ⟨h.nodup, by simp, fun u hu z hz => by simp at hz; subst hz; intro e; subst e; exact hno hu⟩
  · intro u hu
    rcases List.mem_append.1 hu with hu | hu
    · exact h.lt u hu
    · rw [List.mem_singleton.1 hu]; exact hy
  · intro u hu
    rcases List.mem_append.1 hu with hu | hu
    · exact h.met u hu
    · rw [List.mem_singleton.1 hu]
      rcases List.mem_append.1 ha with ha | ha
      · exact .base ha he
      · exact .step (h.met a ha) he

theorem Edg.done {n : Nat} {L : List (Nat × Nat)} {F M : List Nat} (h : Edg n L F M) (hc : ∀ a ∈ F ++ M, ∀ y, OnEdge L a y → y ∈ M) (y : Nat) : y ∈ M ↔ Met L F y := by
  refine ⟨h.met y, fun hy => ?_⟩
  induction hy with
  | base ha he => exact hc _ (List.mem_append.2 (.inl ha)) _ he
  | step _ he ih => exact hc _ (List.mem_append.2 (.inr ih)) _ he

theorem idxTo_nodup (bs : List Bool) (n : Nat) : (idxTo bs n).Nodup := by
  unfold idxTo
  exact List.nodup_range.filter _

theorem idxTo_rise (bs : List Bool) (n : Nat) : (idxTo bs n).Pairwise (· < ·) := by
  unfold idxTo
  exact List.pairwise_lt_range.filter _

theorem Edg.len {n : Nat} {L : List (Nat × Nat)} {F M : List Nat} {sn : List Bool} (h : Edg n L F M) (hd : ∀ y, y ∈ M ↔ Met L F y) (hs : ∀ y, sn.getD y false = true ↔ Met L F y) : (idxTo sn n).length = M.length := by
  have hm : ∀ y, y ∈ idxTo sn n ↔ y ∈ M := by
    intro y
    simp only [idxTo, List.mem_filter, List.mem_range]
    rw [hs y, ← hd y]
    exact ⟨fun h => h.2, fun h' => ⟨h.lt y h', h'⟩⟩
  exact Nat.le_antisymm (sub_len _ _ (idxTo_nodup sn n) (fun x hx => (hm x).1 hx)) (sub_len _ _ h.nodup (fun x hx => (hm x).2 hx))

end Go.Proofs.Ytbddcodljmglfaa
