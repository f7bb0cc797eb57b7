/- What a form's fault is: of no run. -/
import Derived.Test.YtbddcodljmglfaaGreatDoorStrayA
set_option linter.unusedSimpArgs false
set_option linter.unusedVariables false
namespace Go.Proofs.YtbddcodljmglfaaGreatDoor

open Classical in
/-- Is a over c? -/
noncomputable def heldB (L : List (Nat × Nat)) (a c : Nat) : Bool := decide (HeldF L (a : Int) c)
noncomputable def faultG (bs : List BlockG) : Option (Nat × Nat) := match settingsG [] (itsFrom 0 bs) with
  | .inl i => some (3, i)
  | .inr V => match firstBad (phiBad (edgesG 0 [] bs) bs.length) (itsFrom 0 bs) with
    | some i => some (10, i)
    | none => match firstBad (useBad V (heldB (edgesG 0 [] bs))) (itsFrom 0 bs) with
      | some i => some (11, i)
      | none => none
/-- A text: the form, or the error and the line. -/
noncomputable def formG (s : BA) : Except (Nat × Nat) (List Ver × List BlockG) := match readG 1 40 1000 s with
  | .error e => .error e
  | .ok (A, bs) => match faultG bs with | some e => .error e | none => .ok (A, bs)

theorem its_blk : ∀ (bs : List BlockG) (k : Nat), ∀ y ∈ itsFrom k bs, k ≤ y.blk ∧ y.blk < k + bs.length
  | [], k, y, hy => by simp [itsFrom] at hy
  | b :: r, k, y, hy => by
    simp only [itsFrom, blkIts] at hy
    rcases List.mem_append.1 hy with hy | hy
    · have : y.blk = k := by
        rcases List.mem_append.1 hy with hy | hy
        · exact phiIts_blk k _ _ y hy
        · exact lineIts_blk k _ _ y hy
      simp
      omega
    · have := its_blk r (k + 1) y hy
      simp
      omega
theorem phiIts_mem (k : Nat) : ∀ (L : List PhiG) (n : Nat) (p : PhiG), p ∈ L → ∃ a, (⟨k, a, .phi p⟩ : It) ∈ phiIts k n L
  | [], n, p, h => by simp at h
  | x :: L, n, p, h => by
    rcases List.mem_cons.1 h with rfl | h
    · exact ⟨n, by simp [phiIts]⟩
    · obtain ⟨a, ha⟩ := phiIts_mem k L (n + 1) p h
      exact ⟨a, by simp [phiIts, ha]⟩
theorem its_phi : ∀ (bs : List BlockG) (k : Nat) (b : BlockG) (p : PhiG), b ∈ bs → p ∈ b.phis → ∃ j a, (⟨j, a, .phi p⟩ : It) ∈ itsFrom k bs
  | [], k, b, p, h, _ => by simp at h
  | x :: r, k, b, p, h, hp => by
    rcases List.mem_cons.1 h with rfl | h
    · obtain ⟨a, ha⟩ := phiIts_mem k b.phis b.first p hp
      exact ⟨k, a, by simp [itsFrom, blkIts, ha]⟩
    · obtain ⟨j, a, ha⟩ := its_phi r (k + 1) b p h hp
      exact ⟨j, a, by simp [itsFrom, ha]⟩
theorem firstBad_none {f : It → Bool} : ∀ (l : List It), firstBad f l = none → ∀ y ∈ l, f y = false
  | [], _, y, hy => by simp at hy
  | x :: l, h, y, hy => by
    simp only [firstBad] at h
    split at h
    · cases h
    · rename_i hx
      rcases List.mem_cons.1 hy with rfl | hy
      · simpa using hx
      · exact firstBad_none l h y hy
theorem firstBad_congr {f g : It → Bool} : ∀ (l : List It), (∀ y ∈ l, f y = g y) → firstBad f l = firstBad g l
  | [], _ => rfl
  | x :: l, h => by
    simp only [firstBad]
    rw [h x (by simp), firstBad_congr l (fun y hy => h y (by simp [hy]))]
theorem settings_blk {N : Nat} : ∀ (l : List It) (S V : List (Ver × (Nat × Nat))), settingsG S l = .inr V → (∀ x ∈ S, x.2.1 < N) → (∀ y ∈ l, y.blk < N) → ∀ x ∈ V, x.2.1 < N
  | [], S, V, h, hS, _ => by simp [settingsG] at h; subst h; exact hS
  | y :: l, S, V, h, hS, hl => by
    simp only [settingsG] at h
    split at h
    · exact settings_blk l S V h hS (fun z hz => hl z (by simp [hz]))
    · split at h
      · refine settings_blk l _ V h ?_ (fun z hz => hl z (by simp [hz]))
        intro x hx
        rcases List.mem_append.1 hx with hx | hx
        · exact hS x hx
        · rw [List.mem_singleton] at hx
          subst hx
          exact hl y (by simp)
      · cases h
theorem findP_mem {V : List (Ver × (Nat × Nat))} {v : Ver} {p : Nat × Nat} (h : findP V v = some p) : (v, p) ∈ V := by
  unfold findP at h
  cases hq : V.find? (fun x => decide (v = x.1)) with
  | none => rw [hq] at h; cases h
  | some x =>
    rw [hq] at h
    simp at h
    subst h
    have h1 := List.find?_some hq
    have h2 := List.mem_of_find?_eq_some hq
    simp at h1
    rw [h1]
    exact h2
theorem phi_ahead {L : List (Nat × Nat)} {N : Nat} {y : It} {p : PhiG} (h : phiBad L N y = false) (hp : y.it = .phi p) : ∀ c ∈ p.choices, c.1 < N := by
  unfold phiBad at h
  rw [hp] at h
  simp at h
  intro c hc
  have : c.1 ∈ p.choices.map (·.1) := List.mem_map.2 ⟨c, hc, rfl⟩
  rw [h.2] at this
  unfold aheadTo at this
  have := (List.mem_filter.1 this).1
  simpa using this
theorem useBad_congr {V : List (Ver × (Nat × Nat))} {H H' : Nat → Nat → Bool} {N : Nat} (hN : 0 < N) (hH : ∀ a c, a < N → c < N → H a c = H' a c) (hV : ∀ v p, findP V v = some p → p.1 < N) {y : It} (hy : y.blk < N) (hc : ∀ p, y.it = .phi p → ∀ c ∈ p.choices, c.1 < N) : useBad V H y = useBad V H' y := by
  have hb : ∀ v b, b < N → behindB V H v b = behindB V H' v b := by
    intro v b hb
    unfold behindB
    cases hf : findP V v with
    | none => rfl
    | some p => simp only; rw [hH p.1 b (hV v p hf) hb]
  have ha : ∀ v a, atB V H v y.blk a = atB V H' v y.blk a := by
    intro v a
    unfold atB
    cases hf : findP V v with
    | none => rfl
    | some p => simp only; rw [hH p.1 y.blk (hV v p hf) hy]
  unfold useBad
  rw [hH 0 y.blk hN hy]
  congr 1
  cases hi : y.it with
  | phi p =>
    simp only
    have hcp := hc p hi
    rw [Bool.eq_iff_iff, List.any_eq_true, List.any_eq_true]
    constructor
    · rintro ⟨c, h1, h2⟩
      exact ⟨c, h1, by rw [← hH 0 c.1 hN (hcp c h1), ← hb c.2 c.1 (hcp c h1)]; exact h2⟩
    · rintro ⟨c, h1, h2⟩
      exact ⟨c, h1, by rw [hH 0 c.1 hN (hcp c h1), hb c.2 c.1 (hcp c h1)]; exact h2⟩
  | line l =>
    simp only
    rw [Bool.eq_iff_iff, List.any_eq_true, List.any_eq_true]
    constructor
    · rintro ⟨v, h1, h2⟩
      exact ⟨v, h1, by rw [← ha]; exact h2⟩
    · rintro ⟨v, h1, h2⟩
      exact ⟨v, h1, by rw [ha]; exact h2⟩

end Go.Proofs.YtbddcodljmglfaaGreatDoor
