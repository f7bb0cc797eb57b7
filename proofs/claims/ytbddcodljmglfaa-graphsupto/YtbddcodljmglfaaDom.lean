/- Plain mathematics: what is over a node is a chain; a nearest one exists; a graph and the one the other way round. -/
import Derived.Test.YtbddcodljmglfaaAsk
set_option linter.unusedSimpArgs false
set_option linter.unusedVariables false
namespace Go.Proofs.Ytbddcodljmglfaa

section
variable {S : Nat → Prop} {E : Nat → Nat → Prop}

theorem RA.any {x : Int} {b : Nat} (h : RA S E x b) : RA S E (-1) b :=
  Reach.mono h (fun a ha => ⟨ha.1, by omega⟩) (fun a c ha => ⟨ha.1, by omega⟩)

/-- What is not reached is on no way. -/
theorem RA.past {a b : Nat} (h : ¬ RA S E (-1) a) (hb : RA S E (-1) b) : RA S E a b := by
  refine Reach.ind hb (fun c => RA S E a c) (fun c hc => Reach.start ⟨hc.1, ?_⟩) (fun c d hr hc he => Reach.step hc ⟨he.1, ?_⟩)
  · intro e
    have e' : c = a := by omega
    subst e'
    exact h (Reach.start ⟨hc.1, by omega⟩)
  · intro e
    have e' : d = a := by omega
    subst e'
    exact h (Reach.step hr ⟨he.1, by omega⟩)

theorem Held.reached {a b : Nat} (h : Held S E a b) : RA S E (-1) a := by
  by_cases hr : RA S E (-1) a
  · exact hr
  · exact absurd (RA.past hr h.1) h.2

theorem Held.self {a : Nat} (h : RA S E (-1) a) : Held S E a a := ⟨h, fun h' => RA.ne h' rfl⟩

/-- Of two that are over b, one is over the other. -/
theorem Held.total {a c b : Nat} (ha : Held S E a b) (hc : Held S E c b) : Held S E a c ∨ Held S E c a := by
  by_cases h1 : RA S E a c
  · by_cases h2 : RA S E c a
    · exfalso
      have hne : c ≠ a := fun e => RA.ne h1 (by rw [e])
      have key : ∀ d, RA S E (-1) d → RA S E a d ∨ RA S E c d := by
        intro d hd
        refine Reach.ind hd (fun d => RA S E a d ∨ RA S E c d) (fun d hs => ?_) (fun d e _ hdd he => ?_)
        · by_cases e1 : d = a
          · exact .inr (Reach.start ⟨hs.1, by omega⟩)
          · exact .inl (Reach.start ⟨hs.1, by omega⟩)
        · rcases hdd with hdd | hdd
          · by_cases e1 : e = a
            · rw [e1]; exact .inr h2
            · exact .inl (Reach.step hdd ⟨he.1, by omega⟩)
          · by_cases e1 : e = c
            · rw [e1]; exact .inl h1
            · exact .inr (Reach.step hdd ⟨he.1, by omega⟩)
      rcases key b ha.1 with h | h
      · exact ha.2 h
      · exact hc.2 h
    · exact .inr ⟨ha.reached, h2⟩
  · exact .inl ⟨hc.reached, h1⟩

theorem Held.trans {d c a : Nat} (h1 : Held S E d c) (h2 : Held S E c a) : Held S E d a := by
  refine ⟨h2.1, fun hd => h2.2 ?_⟩
  refine Reach.ind hd (fun x => RA S E c x) (fun x hx => Reach.start ⟨hx.1, ?_⟩) (fun x y hr hx he => Reach.step hx ⟨he.1, ?_⟩)
  · intro e
    have e' : x = c := by omega
    subst e'
    exact h1.2 (Reach.start hx)
  · intro e
    have e' : y = c := by omega
    subst e'
    exact h1.2 (Reach.step hr he)

end

/-- What a table of what is over what keeps to. -/
structure Tab (n : Nat) (H : Nat → Nat → Bool) : Prop where
  total : ∀ a c b, a < n → c < n → b < n → H a b = true → H c b = true → H a c = true ∨ H c a = true
  trans : ∀ d c a, d < n → c < n → a < n → H d c = true → H c a = true → H d a = true
  self : ∀ a b, a < n → b < n → H a b = true → H a a = true

theorem tab_of {S : Nat → Prop} {E : Nat → Nat → Prop} {n : Nat} {H : Nat → Nat → Bool} (h : ∀ a c, a < n → c < n → (H a c = true ↔ Held S E a c)) : Tab n H :=
  ⟨fun a c b ha hc hb h1 h2 => (Held.total ((h a b ha hb).1 h1) ((h c b hc hb).1 h2)).imp (h a c ha hc).2 (h c a hc ha).2,
   fun d c a hd hc ha h1 h2 => (h d a hd ha).2 (Held.trans ((h d c hd hc).1 h1) ((h c a hc ha).1 h2)),
   fun a b ha hb h1 => (h a a ha ha).2 (Held.self ((h a b ha hb).1 h1).reached)⟩

theorem best_in {n b : Nat} {H : Nat → Nat → Bool} (ht : Tab n H) (hb : b < n) : ∀ (l : List Nat), (∀ a ∈ l, a < n) → (∃ a ∈ l, a ≠ b ∧ H a b = true) → ∃ a ∈ l, a ≠ b ∧ H a b = true ∧ ∀ c ∈ l, c ≠ b → H c b = true → H c a = true
  | [], _, h => by obtain ⟨a, ha, _⟩ := h; simp at ha
  | x :: l, hl, h => by
    by_cases hx : x ≠ b ∧ H x b = true
    · by_cases hr : ∃ a ∈ l, a ≠ b ∧ H a b = true
      · obtain ⟨a, ha, h1, h2, h3⟩ := best_in ht hb l (fun a ha => hl a (by simp [ha])) hr
        have hxn := hl x (by simp)
        have han := hl a (by simp [ha])
        rcases ht.total x a b hxn han hb hx.2 h2 with h4 | h4
        · refine ⟨a, by simp [ha], h1, h2, fun c hc hcb hc2 => ?_⟩
          rcases List.mem_cons.1 hc with rfl | hc
          · exact h4
          · exact h3 c hc hcb hc2
        · refine ⟨x, by simp, hx.1, hx.2, fun c hc hcb hc2 => ?_⟩
          rcases List.mem_cons.1 hc with rfl | hc'
          · exact ht.self c b hxn hb hc2
          · exact ht.trans c a x (hl c (by simp [hc'])) han hxn (h3 c hc' hcb hc2) h4
      · refine ⟨x, by simp, hx.1, hx.2, fun c hc hcb hc2 => ?_⟩
        rcases List.mem_cons.1 hc with rfl | hc
        · exact ht.self c b (hl c (by simp)) hb hc2
        · exact absurd ⟨c, hc, hcb, hc2⟩ hr
    · obtain ⟨a, ha, h1, h2⟩ := h
      have ha' : a ∈ l := by
        rcases List.mem_cons.1 ha with rfl | ha
        · exact absurd ⟨h1, h2⟩ hx
        · exact ha
      obtain ⟨a, ha, h1, h2, h3⟩ := best_in ht hb l (fun a ha => hl a (by simp [ha])) ⟨a, ha', h1, h2⟩
      refine ⟨a, by simp [ha], h1, h2, fun c hc hcb hc2 => ?_⟩
      rcases List.mem_cons.1 hc with rfl | hc
      · exact absurd ⟨hcb, hc2⟩ hx
      · exact h3 c hc hcb hc2

theorem cand_iff {H : Nat → Nat → Bool} {n b a : Nat} : cand H n b a = true ↔ a ≠ b ∧ H a b = true ∧ ∀ c, c < n → c ≠ b → H c b = true → H c a = true := by
  simp only [cand, Bool.and_eq_true, decide_eq_true_eq, List.all_eq_true, List.mem_range, Bool.or_eq_true, Bool.not_eq_true']
  constructor
  · rintro ⟨⟨h1, h2⟩, h3⟩
    refine ⟨h1, h2, fun c hc hcb hh => ?_⟩
    rcases h3 c hc with (h | h) | h
    · exact absurd h hcb
    · rw [hh] at h; simp at h
    · exact h
  · rintro ⟨h1, h2, h3⟩
    refine ⟨⟨h1, h2⟩, fun c hc => ?_⟩
    by_cases hcb : c = b
    · exact .inl (.inl hcb)
    · cases hh : H c b
      · exact .inl (.inr rfl)
      · exact .inr (h3 c hc hcb hh)

/-- What is answered: the first one to answer, or -1. -/
theorem nearestOf_spec (H : Nat → Nat → Bool) (n b : Nat) : (nearestOf H n b = -1 ∧ ∀ a, a < n → cand H n b a = false) ∨ ∃ a, a < n ∧ nearestOf H n b = (a : Int) ∧ cand H n b a = true ∧ ∀ c, c < a → cand H n b c = false := by
  unfold nearestOf
  cases h : (List.range n).find? (cand H n b) with
  | none =>
    refine .inl ⟨rfl, fun a ha => ?_⟩
    rw [List.find?_eq_none] at h
    have := h a (by simpa using ha)
    simpa using this
  | some a =>
    rw [List.find?_range_eq_some] at h
    refine .inr ⟨a, by simpa using h.2.1, rfl, h.1, fun c hc => ?_⟩
    simpa using h.2.2 c hc

/-- The graph the other way round, with a node ahead that leads to all ends. -/
structure Turn (L Lv : List (Nat × Nat)) (D : List Bool) : Prop where
  mem : ∀ x y, (x, y) ∈ Lv ↔ (x = 0 ∧ ∃ e, D.getD e false = true ∧ y = e + 1) ∨ ∃ a c, (a, c) ∈ L ∧ x = c + 1 ∧ y = a + 1

theorem dual_reach {L Lv : List (Nat × Nat)} {D : List Bool} (h : Turn L Lv D) {x x' : Int} (h0 : (0 : Int) ≠ x') (hx : ∀ a : Nat, (((a + 1 : Nat) : Int) ≠ x' ↔ (a : Int) ≠ x)) (b : Nat) : Fwd Lv x' (b + 1) ↔ Bwd L D x b := by
  constructor
  · intro hr
    have key : ∀ c, Fwd Lv x' c → ∀ d, c = d + 1 → Bwd L D x d := by
      intro c hc
      refine Reach.ind hc (fun c => ∀ d, c = d + 1 → Bwd L D x d) (fun c hs d hd => ?_) (fun c e hce ih he d hd => ?_)
      · have := hs.1
        omega
      · subst hd
        rcases (h.mem c (d + 1)).1 he.1 with ⟨h1, e', h2, h3⟩ | ⟨a, c', h1, h2, h3⟩
        · have : e' = d := by omega
          subst this
          exact Reach.start ⟨h2, (hx e').1 he.2⟩
        · have : a = d := by omega
          subst this
          exact Reach.step (ih c' h2) ⟨h1, (hx a).1 he.2⟩
    exact key _ hr b rfl
  · intro hr
    refine Reach.ind hr (fun b => Fwd Lv x' (b + 1)) (fun b hs => ?_) (fun a c _ ih he => ?_)
    · exact Reach.step (Reach.start ⟨rfl, h0⟩) ⟨(h.mem 0 (b + 1)).2 (.inl ⟨rfl, b, hs.1, rfl⟩), (hx b).2 hs.2⟩
    · exact Reach.step ih ⟨(h.mem (a + 1) (c + 1)).2 (.inr ⟨c, a, he.1, rfl, rfl⟩), (hx c).2 he.2⟩

theorem dual_any {L Lv : List (Nat × Nat)} {D : List Bool} (h : Turn L Lv D) (b : Nat) : Fwd Lv (-1) (b + 1) ↔ Bwd L D (-1) b :=
  dual_reach h (by omega) (fun a => by omega) b

theorem dual_held {L Lv : List (Nat × Nat)} {D : List Bool} (h : Turn L Lv D) (a b : Nat) : HeldF Lv ((a + 1 : Nat) : Int) (b + 1) ↔ HeldB L D a b := by
  unfold HeldF HeldB
  rw [dual_any h, dual_reach h (x := (a : Int)) (x' := ((a + 1 : Nat) : Int)) (by omega) (fun c => by omega)]

theorem dual_nearest {L Lv : List (Nat × Nat)} {D : List Bool} (h : Turn L Lv D) {n b : Nat} (hb : b < n) {H H' : Nat → Nat → Bool} (hH : ∀ a c, a < n → c < n → (H a c = true ↔ HeldB L D a c)) (hH' : ∀ a c, a < n + 1 → c < n + 1 → (H' a c = true ↔ HeldF Lv a c)) (hr : Bwd L D (-1) b) :
    nearestOf H n b = nearestOf H' (n + 1) (b + 1) - 1 := by
  have tH : Tab n H := tab_of hH
  have e1 : ∀ a c, a < n → c < n → H' (a + 1) (c + 1) = H a c := by
    intro a c ha hc
    rw [Bool.eq_iff_iff, hH' (a + 1) (c + 1) (by omega) (by omega), hH a c ha hc]
    exact dual_held h a c
  have e2 : ∀ c, c < n → (H' 0 (c + 1) = true ↔ Bwd L D (-1) c) := by
    intro c hc
    rw [hH' 0 (c + 1) (by omega) (by omega)]
    unfold HeldF
    rw [dual_any h]
    constructor
    · exact fun h => h.1
    · intro h1
      refine ⟨h1, fun h2 => ?_⟩
      have h3 : ∀ d, Fwd Lv 0 d → False := by
        intro d hd
        exact Reach.ind hd (fun _ => False) (fun a ha => ha.2 (by have := ha.1; omega)) (fun _ _ _ hf _ => hf)
      exact h3 _ h2
  have e3 : ∀ a, a < n → H' (a + 1) 0 = false := by
    intro a ha
    cases hv : H' (a + 1) 0
    · rfl
    · exfalso
      have := (hH' (a + 1) 0 (by omega) (by omega)).1 hv
      exact this.2 (Reach.start ⟨rfl, by omega⟩)
  have e4 : H' 0 0 = true := (hH' 0 0 (by omega) (by omega)).2 ⟨Reach.start ⟨rfl, by omega⟩, fun hf => RA.ne hf rfl⟩
  have c0 : cand H' (n + 1) (b + 1) 0 = true ↔ ∀ a, a < n → a ≠ b → H a b = false := by
    rw [cand_iff]
    constructor
    · rintro ⟨_, _, h3⟩ a ha hab
      cases hv : H a b
      · rfl
      · have := h3 (a + 1) (by omega) (by omega) (by rw [e1 a b ha hb]; exact hv)
        rw [e3 a ha] at this
        simp at this
    · intro h1
      refine ⟨by omega, (e2 b hb).2 hr, fun c hc hcb hh => ?_⟩
      cases c with
      | zero => exact e4
      | succ a =>
        rw [e1 a b (by omega) hb, h1 a (by omega) (by omega)] at hh
        simp at hh
  have c1 : ∀ a, a < n → cand H' (n + 1) (b + 1) (a + 1) = cand H n b a := by
    intro a ha
    rw [Bool.eq_iff_iff, cand_iff, cand_iff]
    constructor
    · rintro ⟨h1, h2, h3⟩
      rw [e1 a b ha hb] at h2
      refine ⟨by omega, h2, fun c hc hcb hh => ?_⟩
      have := h3 (c + 1) (by omega) (by omega) (by rw [e1 c b hc hb]; exact hh)
      rwa [e1 c a hc ha] at this
    · rintro ⟨h1, h2, h3⟩
      refine ⟨by omega, by rw [e1 a b ha hb]; exact h2, fun c hc hcb hh => ?_⟩
      cases c with
      | zero =>
        refine (e2 a ha).2 ?_
        have := (hH a b ha hb).1 h2
        exact Held.reached (S := fun a => D.getD a false = true) (E := fun a c => (c, a) ∈ L) this
      | succ c =>
        rw [e1 c b (by omega) hb] at hh
        rw [e1 c a (by omega) ha]
        exact h3 c (by omega) (by omega) hh
  by_cases hsome : ∃ a, a < n ∧ a ≠ b ∧ H a b = true
  · have hz : cand H' (n + 1) (b + 1) 0 = false := by
      cases hv : cand H' (n + 1) (b + 1) 0
      · rfl
      · obtain ⟨a, ha, hab, hh⟩ := hsome
        rw [c0.1 hv a ha hab] at hh
        simp at hh
    obtain ⟨a0, ha0, hab0, hh0, hbest⟩ := best_in tH hb (List.range n) (fun a ha => by simpa using ha) (by obtain ⟨a, ha, hab, hh⟩ := hsome; exact ⟨a, by simpa using ha, hab, hh⟩)
    have ha0n : a0 < n := by simpa using ha0
    have hca0 : cand H n b a0 = true := cand_iff.2 ⟨hab0, hh0, fun c hc hcb hh => hbest c (by simpa using hc) hcb hh⟩
    rcases nearestOf_spec H n b with ⟨_, h2⟩ | ⟨a, ha, h2, h3, h4⟩
    · rw [h2 a0 ha0n] at hca0; simp at hca0
    · have : nearestOf H' (n + 1) (b + 1) = ((a + 1 : Nat) : Int) := by
        unfold nearestOf
        rw [find_range_some (cand H' (n + 1) (b + 1)) (n + 1) (a + 1) (by omega) (by rw [c1 a ha]; exact h3) (fun j hj => by
          cases j with
          | zero => exact hz
          | succ j => rw [c1 j (by omega)]; exact h4 j (by omega))]
      rw [h2, this]
      omega
  · have hz : cand H' (n + 1) (b + 1) 0 = true := c0.2 (fun a ha hab => by
      cases hv : H a b
      · rfl
      · exact absurd ⟨a, ha, hab, hv⟩ hsome)
    have h1 : nearestOf H' (n + 1) (b + 1) = ((0 : Nat) : Int) := by
      unfold nearestOf
      rw [find_range_some (cand H' (n + 1) (b + 1)) (n + 1) 0 (by omega) hz (fun j hj => by omega)]
    have h2 : nearestOf H n b = -1 := by
      rcases nearestOf_spec H n b with ⟨h2, _⟩ | ⟨a, ha, _, h3, _⟩
      · exact h2
      · obtain ⟨h4, h5, _⟩ := cand_iff.1 h3
        exact absurd ⟨a, ha, h4, h5⟩ hsome
    rw [h1, h2]
    rfl

end Go.Proofs.Ytbddcodljmglfaa
