/- The bridge, whole: the document's error and line are the program's. -/
import Derived.Test.YtbddcodljmglfaaGreatDoorBridge4
set_option linter.unusedSimpArgs false
set_option linter.unusedVariables false
namespace Go.Proofs.YtbddcodljmglfaaGreatDoor

/-- The document's error and line. -/
def docG (s : BA) : Nat × Nat :=
  if 120 < (cuts 10 s).length then (6, 0)
  else match docL 0 0 ByteArray.empty (cuts 10 s) with
    | .error i => (7, i)
    | .ok nb => match docLost nb 0 (cuts 10 s) with
      | some i => (8, i)
      | none => match docCrowd ((cuts 32 (hd (cuts 10 s))).drop 1) 1 ((cuts 10 s).drop 1) with
        | some i => (9, i)
        | none => (0, 0)

theorem rel_start : Rel 0 ⟨[], [], none⟩ 0 ByteArray.empty :=
  ⟨by simp, fun _ => ⟨rfl, rfl⟩, fun h => absurd h (by omega), fun h => absurd h (by omega), fun h => absurd h (by omega), fun b hb => by cases hb⟩

theorem run_args : ∀ (T : List BA) (i : Nat) (p q : PG), i ≠ 0 → runL 0 20 i T p = .ok q → q.args = p.args
  | [], i, p, q, hi, hq => by
    unfold runL at hq
    split at hq
    · injection hq with hq; subst hq; rfl
    · cases hq
  | s :: r, i, p, q, hi, hq => by
    unfold runL at hq
    cases hst : stepL 0 20 i s p with
    | none => rw [hst] at hq; cases hq
    | some p' =>
      rw [hst] at hq
      rw [run_args r (i + 1) p' q (by omega) hq]
      rcases step_shape hst with ⟨h0, -⟩ | ⟨-, h, -⟩ | ⟨-, h, -⟩
      · exact absurd h0 hi
      · exact h
      · exact h

theorem crowd_all {T : List BA} {q : PG} (hT : T ≠ []) (h : runL 0 20 0 T ⟨[], [], none⟩ = .ok q) : crowdG q.args q.closed = docCrowd ((cuts 32 (hd T)).drop 1) 1 (T.drop 1) := by
  cases T with
  | nil => exact absurd rfl hT
  | cons s r =>
    unfold runL at h
    cases hst : stepL 0 20 0 s ⟨[], [], none⟩ with
    | none => rw [hst] at h; cases h
    | some p' =>
      rw [hst] at h
      have hrel := ((rel_step rel_start s).1 p' hst).2
      have ha := run_args r 1 p' q (by omega) h
      rcases step_shape hst with ⟨-, h1, h2⟩ | ⟨h0, -⟩ | ⟨h0, -⟩
      · obtain ⟨x0, bs, hc⟩ := cuts_cons s
        rw [hc] at h2
        have hA := args_names h2
        have hlen : bs.length ≤ 4 := by
          rw [argsOf_cons] at h2
          split at h2
          · rename_i hq; exact hq.2
          · cases h2
        have := (crowd_run (nm := q.args) r 1 _ p' q _ hrel (by omega) h).2 bs (by rw [h1, ha, hA]; rfl) (by omega)
        rw [this]
        show _ = docCrowd ((cuts 32 s).drop 1) 1 r
        rw [hc]
        rfl
      · exact absurd rfl h0
      · exact absurd rfl h0

theorem doc_eq (s : BA) : docG s = match progG s with | .ok _ => (0, 0) | .error e => e := by
  unfold docG progG readG
  by_cases hl : 120 < (cuts 10 s).length
  · rw [if_pos hl, if_pos hl]
  · rw [if_neg hl, if_neg hl]
    have hne := cuts_ne 10 s
    generalize cuts 10 s = T at *
    have hpos : 0 < 0 + T.length := by
      cases T with
      | nil => exact absurd rfl hne
      | cons a b => simp
    obtain ⟨d1, d2⟩ := docL_run T 0 0 _ _ rel_start hpos
    cases hr : runL 0 20 0 T ⟨[], [], none⟩ with
    | error k => rw [d1 k hr]
    | ok q =>
      have hc := crowd_all hne hr
      have hlo := lost_run (n := q.closed.length) T 0 0 _ q _ rel_start hpos hr
      rw [show lostG q.closed.length (PG.all ⟨[], [], none⟩) = none from rfl, Option.none_or] at hlo
      rw [(d2 q hr).1]
      simp only []
      rw [← hlo, ← hc]
      cases hlq : lostG q.closed.length q.closed with
      | some i => rfl
      | none =>
        simp only []
        cases hcq : crowdG q.args q.closed with
        | some i => simp [hcq]
        | none => simp [hcq]

end Go.Proofs.YtbddcodljmglfaaGreatDoor
