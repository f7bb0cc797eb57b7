/- Plain mathematics: what is reached on ways that do not go over one node, and that a search by a waiting list finds just that. -/
import Init
set_option linter.unusedVariables false
namespace Go.Proofs.Ytbddcodljmglfaa

/-- Reached from S along E: in every set that has S and is shut under E. -/
def Reach (S : Nat → Prop) (E : Nat → Nat → Prop) (b : Nat) : Prop := ∀ P : Nat → Prop, (∀ a, S a → P a) → (∀ a c, P a → E a c → P c) → P b

theorem Reach.start {S : Nat → Prop} {E : Nat → Nat → Prop} {a : Nat} (h : S a) : Reach S E a := fun _ hs _ => hs a h
theorem Reach.step {S : Nat → Prop} {E : Nat → Nat → Prop} {a c : Nat} (h : Reach S E a) (he : E a c) : Reach S E c := fun P hs ht => ht a c (h P hs ht) he
theorem Reach.ind {S : Nat → Prop} {E : Nat → Nat → Prop} {b : Nat} (h : Reach S E b) (P : Nat → Prop) (hs : ∀ a, S a → P a) (ht : ∀ a c, Reach S E a → P a → E a c → P c) : P b :=
  (h (fun b => Reach S E b ∧ P b) (fun a ha => ⟨Reach.start ha, hs a ha⟩) (fun a c ha he => ⟨ha.1.step he, ht a c ha.1 ha.2 he⟩)).2
theorem Reach.mono {S S' : Nat → Prop} {E E' : Nat → Nat → Prop} {b : Nat} (h : Reach S E b) (hs : ∀ a, S a → S' a) (he : ∀ a c, E a c → E' a c) : Reach S' E' b :=
  h _ (fun a ha => Reach.start (hs a ha)) (fun a c ha hc => Reach.step ha (he a c hc))

/-- Reached on ways that do not go over x. -/
def RA (S : Nat → Prop) (E : Nat → Nat → Prop) (x : Int) (b : Nat) : Prop := Reach (fun a => S a ∧ (a : Int) ≠ x) (fun a c => E a c ∧ (c : Int) ≠ x) b

theorem RA.ne {S : Nat → Prop} {E : Nat → Nat → Prop} {x : Int} {b : Nat} (h : RA S E x b) : (b : Int) ≠ x :=
  Reach.ind h (fun b => (b : Int) ≠ x) (fun a ha => ha.2) (fun a c _ _ he => he.2)

theorem RA.congr {S S' : Nat → Prop} {E E' : Nat → Nat → Prop} {x : Int} {b : Nat} (hs : ∀ a, S a ↔ S' a) (he : ∀ a c, E a c ↔ E' a c) : RA S E x b ↔ RA S' E' x b :=
  ⟨fun h => Reach.mono h (fun a ha => ⟨(hs a).1 ha.1, ha.2⟩) (fun a c ha => ⟨(he a c).1 ha.1, ha.2⟩),
   fun h => Reach.mono h (fun a ha => ⟨(hs a).2 ha.1, ha.2⟩) (fun a c ha => ⟨(he a c).2 ha.1, ha.2⟩)⟩

/-- One node is visited: noted as seen, and put behind those that wait. -/
def vis1 (x : Int) (s : List Bool × List Nat) (a : Nat) : List Bool × List Nat :=
  if (a : Int) ≠ x ∧ s.1.getD a false = false then (s.1.set a true, s.2 ++ [a]) else s

def vis (x : Int) (l : List Nat) (s : List Bool × List Nat) : List Bool × List Nat := l.foldl (vis1 x) s

def unseen (s : List Bool) : Nat := s.count false

theorem getD_set {s : List Bool} {a b : Nat} (ha : a < s.length) : (s.set a true).getD b false = (s.getD b false || decide (b = a)) := by
  simp only [List.getD, List.getElem?_set]
  by_cases h : a = b
  · subst h
    simp [ha]
  · have h' : ¬ b = a := fun e => h e.symm
    simp [h, h']

theorem unseen_set {s : List Bool} : ∀ {a : Nat}, a < s.length → s.getD a false = false → unseen (s.set a true) + 1 = unseen s := by
  induction s with
  | nil => intro a h; simp at h
  | cons b s ih =>
    intro a h hb
    cases a with
    | zero =>
      simp at hb
      subst hb
      simp [unseen]
    | succ a =>
      have := ih (a := a) (by simpa using h) (by simpa using hb)
      unfold unseen at this ⊢
      simp only [List.set_cons_succ, List.count_cons]
      omega

theorem vis1_props (x : Int) (n : Nat) (s : List Bool × List Nat) (a : Nat) (hn : s.1.length = n) (ha : a < n) :
    (vis1 x s a).1.length = n ∧ (∀ b, (vis1 x s a).1.getD b false = (s.1.getD b false || (decide (b = a) && decide ((a : Int) ≠ x)))) ∧
    (∃ l, (vis1 x s a).2 = s.2 ++ l ∧ ∀ b, b ∈ l → (b = a ∧ (b : Int) ≠ x)) ∧ unseen (vis1 x s a).1 + (vis1 x s a).2.length = unseen s.1 + s.2.length ∧
    (∀ b, (vis1 x s a).1.getD b false = true → s.1.getD b false = false → b ∈ (vis1 x s a).2) := by
  unfold vis1
  by_cases h : (a : Int) ≠ x ∧ s.1.getD a false = false
  · rw [if_pos h]
    refine ⟨by simpa using hn, fun b => ?_, ⟨[a], rfl, fun b hb => ?_⟩, ?_, fun b hb hb' => ?_⟩
    · rw [getD_set (by omega)]
      simp [h.1]
    · simp at hb
      subst hb
      exact ⟨rfl, h.1⟩
    · have := unseen_set (s := s.1) (a := a) (by omega) h.2
      simp
      omega
    · rw [getD_set (by omega), hb'] at hb
      simp at hb
      simp [hb]
  · rw [if_neg h]
    refine ⟨hn, fun b => ?_, ⟨[], by simp, by simp⟩, rfl, fun b hb hb' => ?_⟩
    · by_cases hb : b = a
      · subst hb
        by_cases h1 : (b : Int) ≠ x
        · have : s.1.getD b false = true := by
            cases h2 : s.1.getD b false
            · exact absurd ⟨h1, h2⟩ h
            · rfl
          rw [this]; rfl
        · simp [h1]
      · simp [hb]
    · rw [hb] at hb'
      simp at hb'

theorem vis_props (x : Int) (n : Nat) : ∀ (l : List Nat) (s : List Bool × List Nat), s.1.length = n → (∀ a ∈ l, a < n) →
    (vis x l s).1.length = n ∧ (∀ b, (vis x l s).1.getD b false = (s.1.getD b false || (decide (b ∈ l) && decide ((b : Int) ≠ x)))) ∧
    (∃ k, (vis x l s).2 = s.2 ++ k ∧ ∀ b, b ∈ k → (b ∈ l ∧ (b : Int) ≠ x)) ∧ unseen (vis x l s).1 + (vis x l s).2.length = unseen s.1 + s.2.length ∧
    (∀ b, (vis x l s).1.getD b false = true → s.1.getD b false = false → b ∈ (vis x l s).2)
  | [], s, hn, _ => ⟨hn, by simp [vis], ⟨[], by simp [vis], by simp⟩, rfl, fun b hb hb' => by simp [vis] at hb; simp at hb'; rw [hb] at hb'; simp at hb'⟩
  | a :: l, s, hn, hl => by
    obtain ⟨h1, h2, ⟨k1, h3, h3'⟩, h4, h5⟩ := vis1_props x n s a hn (hl a (by simp))
    obtain ⟨g1, g2, ⟨k2, g3, g3'⟩, g4, g5⟩ := vis_props x n l (vis1 x s a) h1 (fun b hb => hl b (by simp [hb]))
    have e : vis x (a :: l) s = vis x l (vis1 x s a) := rfl
    rw [e]
    refine ⟨g1, fun b => ?_, ⟨k1 ++ k2, by rw [g3, h3, List.append_assoc], fun b hb => ?_⟩, by omega, fun b hb hb' => ?_⟩
    · rw [g2, h2]
      by_cases e1 : b = a
      · subst e1; cases s.1.getD b false <;> cases decide ((b : Int) ≠ x) <;> simp
      · simp [e1]
    · rcases List.mem_append.1 hb with hb | hb
      · have := h3' b hb
        exact ⟨by simp [this.1], this.2⟩
      · have := g3' b hb
        exact ⟨by simp [this.1], this.2⟩
    · cases hc : (vis1 x s a).1.getD b false
      · exact g5 b hb hc
      · rw [g3]
        exact List.mem_append.2 (.inl (h5 b hc hb'))

/-- What holds all along the search: what is seen is reached; what is seen and waits no longer has passed all on; those that wait are seen. -/
structure Bfs (n : Nat) (S : List Nat) (T : List (List Nat)) (x : Int) (s : List Bool × List Nat) : Prop where
  len : s.1.length = n
  sound : ∀ b, s.1.getD b false = true → RA (· ∈ S) (fun a c => c ∈ T.getD a []) x b
  begun : ∀ a ∈ S, (a : Int) ≠ x → s.1.getD a false = true
  shut : ∀ a, s.1.getD a false = true → a ∉ s.2 → ∀ c ∈ T.getD a [], (c : Int) ≠ x → s.1.getD c false = true
  waits : ∀ a ∈ s.2, s.1.getD a false = true
  room : unseen s.1 + s.2.length ≤ n

theorem Bfs.lt {n : Nat} {S : List Nat} {T : List (List Nat)} {x : Int} {s : List Bool × List Nat} (h : Bfs n S T x s) : ∀ a ∈ s.2, a < n := by
  intro a ha
  have := h.waits a ha
  rcases Nat.lt_or_ge a s.1.length with h' | h'
  · rw [h.len] at h'; exact h'
  · simp [List.getD, List.getElem?_eq_none h'] at this

theorem bfs_start (n : Nat) (S : List Nat) (T : List (List Nat)) (x : Int) (hS : ∀ a ∈ S, a < n) : Bfs n S T x (vis x S (List.replicate n false, [])) := by
  obtain ⟨g1, g2, ⟨k, g3, g3'⟩, g4, g5⟩ := vis_props x n S (List.replicate n false, []) (by simp) hS
  have h0 : ∀ b, (List.replicate n false).getD b false = false := by
    intro b
    simp only [List.getD, List.getElem?_replicate]
    split <;> simp
  have hs : ∀ b, (vis x S (List.replicate n false, [])).1.getD b false = true ↔ b ∈ S ∧ (b : Int) ≠ x := by
    intro b
    rw [g2, h0]
    simp
  refine ⟨g1, fun b hb => ?_, fun a ha hx => (hs a).2 ⟨ha, hx⟩, fun a ha hn => absurd (g5 a ha (h0 a)) hn, fun a ha => ?_, ?_⟩
  · exact Reach.start ((hs b).1 hb)
  · rw [g3] at ha
    simp at ha
    exact (hs a).2 (g3' a ha)
  · rw [g4]
    simp [unseen]

theorem bfs_step (n : Nat) (S : List Nat) (T : List (List Nat)) (x : Int) (sn : List Bool) (a : Nat) (q : List Nat) (hT : ∀ l ∈ T, ∀ c ∈ l, c < n) (h : Bfs n S T x (sn, a :: q)) :
    Bfs n S T x (vis x (T.getD a []) (sn, q)) := by
  have hl : ∀ c ∈ T.getD a [], c < n := by
    intro c hc
    rcases Nat.lt_or_ge a T.length with h' | h'
    · refine hT (T.getD a []) ?_ c hc
      simp [List.getD, List.getElem?_eq_getElem h']
    · simp [List.getD, List.getElem?_eq_none h'] at hc
  obtain ⟨g1, g2, ⟨k, g3, g3'⟩, g4, g5⟩ := vis_props x n (T.getD a []) (sn, q) h.len hl
  have ha : sn.getD a false = true := h.waits a (by simp)
  have hra := h.sound a ha
  refine ⟨g1, fun b hb => ?_, fun b hb hx => ?_, fun b hb hn c hc hx => ?_, fun b hb => ?_, ?_⟩
  · rw [g2] at hb
    simp only [Bool.or_eq_true, Bool.and_eq_true, decide_eq_true_eq] at hb
    rcases hb with hb | ⟨hb, hx⟩
    · exact h.sound b hb
    · exact Reach.step hra ⟨hb, hx⟩
  · rw [g2, h.begun b hb hx]
    simp
  · rw [g2]
    cases hsb : sn.getD b false
    · exact absurd (g5 b hb hsb) hn
    · by_cases hba : b = a
      · subst hba
        simp [-List.getD_eq_getElem?_getD, hc, hx]
      · have hnq : b ∉ (a :: q) := by
          intro h'
          rcases List.mem_cons.1 h' with h' | h'
          · exact hba h'
          · exact hn (by rw [g3]; exact List.mem_append.2 (.inl h'))
        rw [h.shut b hsb hnq c hc hx]
        simp
  · rw [g3] at hb
    rw [g2]
    rcases List.mem_append.1 hb with hb | hb
    · rw [h.waits b (by simp [hb])]
      simp
    · simp [-List.getD_eq_getElem?_getD, (g3' b hb).1, (g3' b hb).2]
  · have := h.room
    simp only [List.length_cons] at this g4
    omega

theorem bfs_end {n : Nat} {S : List Nat} {T : List (List Nat)} {x : Int} {sn : List Bool} (h : Bfs n S T x (sn, [])) (b : Nat) :
    sn.getD b false = true ↔ RA (· ∈ S) (fun a c => c ∈ T.getD a []) x b :=
  ⟨h.sound b, fun hr => hr (fun b => sn.getD b false = true) (fun a ha => h.begun a ha.1 ha.2) (fun a c ha he => h.shut a ha (by simp) c he.1 he.2)⟩

end Go.Proofs.Ytbddcodljmglfaa
