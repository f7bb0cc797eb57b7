/- Where ways meet: the least set that has the edges of what is asked, and its own. -/
import Derived.Test.YtbddcodljmglfaaEdgeAsk
set_option linter.unusedSimpArgs false
set_option linter.unusedVariables false
namespace Go.Proofs.Ytbddcodljmglfaa
open Go.RowKit

inductive Met (L : List (Nat × Nat)) (F : List Nat) : Nat → Prop
  | base {a y : Nat} : a ∈ F → OnEdge L a y → Met L F y
  | step {a y : Nat} : Met L F a → OnEdge L a y → Met L F y

structure MeetI (n : Nat) (L : List (Nat × Nat)) (F : List Nat) (s : List Bool × List Nat) : Prop where
  len : s.1.length = n
  lt : ∀ a ∈ s.2, a < n
  sound : ∀ y, s.1.getD y false = true → Met L F y
  src : ∀ a ∈ s.2, a ∈ F ∨ s.1.getD a false = true
  closed : ∀ a, (a ∈ F ∨ s.1.getD a false = true) → a ∈ s.2 ∨ ∀ y, OnEdge L a y → s.1.getD y false = true

theorem onEdge_lt {L : List (Nat × Nat)} {n a y : Nat} (hL : ∀ x ∈ L, x.1 < n ∧ x.2 < n) (h : OnEdge L a y) : y < n := by
  obtain ⟨_, x, _, h⟩ := h
  exact (hL _ h).2

theorem getD_rep (n y : Nat) : (List.replicate n false).getD y false = false := by
  simp only [List.getD, List.getElem?_replicate]
  split <;> rfl

theorem meetI_start {n : Nat} {L : List (Nat × Nat)} {F W : List Nat} (hF : ∀ a ∈ F, a < n) (hW : ∀ a, a ∈ W ↔ a ∈ F) : MeetI n L F (List.replicate n false, W) := by
  refine ⟨by simp, fun a ha => hF a ((hW a).1 ha), fun y hy => ?_, fun a ha => .inl ((hW a).1 ha), fun a ha => ?_⟩
  · simp only [getD_rep] at hy; simp at hy
  · rcases ha with h | h
    · exact .inl ((hW a).2 h)
    · simp only [getD_rep] at h; simp at h

theorem meetI_step {n : Nat} {L : List (Nat × Nat)} {F : List Nat} {sn : List Bool} {a : Nat} {q E : List Nat} (hL : ∀ x ∈ L, x.1 < n ∧ x.2 < n) (h : MeetI n L F (sn, a :: q)) (hE : ∀ y, y ∈ E ↔ OnEdge L a y) :
    ∃ k, vis (-1) E (sn, a :: q) = ((vis (-1) E (sn, a :: q)).1, a :: (q ++ k)) ∧ MeetI n L F ((vis (-1) E (sn, a :: q)).1, q ++ k) ∧ unseen (vis (-1) E (sn, a :: q)).1 + (q ++ k).length + 1 = unseen sn + (a :: q).length := by
  have hEn : ∀ y ∈ E, y < n := fun y hy => onEdge_lt hL ((hE y).1 hy)
  obtain ⟨p1, p2, ⟨k, p3, p3'⟩, p4, p5⟩ := vis_props (-1) n E (sn, a :: q) h.len hEn
  have hget : ∀ b, (vis (-1) E (sn, a :: q)).1.getD b false = true ↔ (sn.getD b false = true ∨ b ∈ E) := by
    intro b
    rw [p2]
    have : ((b : Int) ≠ -1) := by omega
    simp only [Bool.or_eq_true, Bool.and_eq_true, decide_eq_true_eq]
    constructor
    · rintro (h | h)
      · exact .inl h
      · exact .inr h.1
    · rintro (h | h)
      · exact .inl h
      · exact .inr ⟨h, this⟩
  have hcl : ∀ y, OnEdge L a y → (vis (-1) E (sn, a :: q)).1.getD y false = true := fun y hy => (hget y).2 (.inr ((hE y).2 hy))
  refine ⟨k, ?_, ⟨p1, ?_, ?_, ?_, ?_⟩, ?_⟩
  · refine Prod.ext rfl ?_
    rw [p3]; rfl
  · intro b hb
    rcases List.mem_append.1 hb with hb | hb
    · exact h.lt b (by simp [hb])
    · exact hEn b (p3' b hb).1
  · intro y hy
    rcases (hget y).1 hy with hy | hy
    · exact h.sound y hy
    · rcases h.src a (by simp) with h1 | h1
      · exact .base h1 ((hE y).1 hy)
      · exact .step (h.sound a h1) ((hE y).1 hy)
  · intro b hb
    rcases List.mem_append.1 hb with hb | hb
    · rcases h.src b (by simp [hb]) with h1 | h1
      · exact .inl h1
      · exact .inr ((hget b).2 (.inl h1))
    · exact .inr ((hget b).2 (.inr (p3' b hb).1))
  · intro b hb
    by_cases hba : b = a
    · exact .inr (by rw [hba]; exact hcl)
    · have hold : (b ∈ F ∨ sn.getD b false = true) → b ∈ q ++ k ∨ ∀ y, OnEdge L b y → (vis (-1) E (sn, a :: q)).1.getD y false = true := by
        intro h'
        rcases h.closed b h' with h1 | h1
        · rcases List.mem_cons.1 h1 with h2 | h2
          · exact absurd h2 hba
          · exact .inl (by simp [h2])
        · exact .inr fun y hy => (hget y).2 (.inl (h1 y hy))
      rcases hb with hb | hb
      · exact hold (.inl hb)
      · cases hs : sn.getD b false
        · have := p5 b hb hs
          rw [p3] at this
          rcases List.mem_append.1 this with h1 | h1
          · rcases List.mem_cons.1 h1 with h2 | h2
            · exact absurd h2 hba
            · exact .inl (by simp [h2])
          · exact .inl (by simp [h1])
        · exact hold (.inr hs)
  · have h9 := congrArg List.length p3
    simp only [List.length_append, List.length_cons] at h9 p4 ⊢
    omega

theorem meetI_end {n : Nat} {L : List (Nat × Nat)} {F : List Nat} {sn : List Bool} (h : MeetI n L F (sn, [])) (y : Nat) : sn.getD y false = true ↔ Met L F y := by
  refine ⟨h.sound y, fun hy => ?_⟩
  induction hy with
  | base ha he =>
    rcases h.closed _ (.inl ha) with h1 | h1
    · simp at h1
    · exact h1 _ he
  | step _ he ih =>
    rcases h.closed _ (.inr ih) with h1 | h1
    · simp at h1
    · exact h1 _ he

/-- The set of what is asked. -/
def askTo (n : Nat) (F : List Nat) (k : Nat) : List Bool := (F.take k).foldl (fun s a => s.set a true) (List.replicate n false)

theorem askTo_succ {n : Nat} {F : List Nat} {k : Nat} (hk : k < F.length) : askTo n F (k + 1) = (askTo n F k).set F[k] true := by
  unfold askTo
  rw [List.take_succ_eq_append_getElem hk, List.foldl_append]
  rfl

theorem askTo_length (n : Nat) (F : List Nat) : ∀ k, k ≤ F.length → (askTo n F k).length = n := by
  intro k
  induction k with
  | zero => intro _; simp [askTo]
  | succ k ih => intro hk; rw [askTo_succ (by omega), List.length_set]; exact ih (by omega)

theorem askTo_getD {n : Nat} {F : List Nat} (hF : ∀ a ∈ F, a < n) (b : Nat) : ∀ k, k ≤ F.length → ((askTo n F k).getD b false = true ↔ b ∈ F.take k) := by
  intro k
  induction k with
  | zero => intro _; rw [show askTo n F 0 = List.replicate n false from rfl, getD_rep]; simp
  | succ k ih =>
    intro hk
    rw [askTo_succ (by omega), getD_set (by rw [askTo_length n F k (by omega)]; exact hF _ (List.getElem_mem _)), List.take_succ_eq_append_getElem (by omega), Bool.or_eq_true, ih (by omega), decide_eq_true_eq, List.mem_append, List.mem_singleton]

theorem asked_iff {n : Nat} {F : List Nat} (hF : ∀ a ∈ F, a < n) (b : Nat) : b ∈ idxTo (askTo n F F.length) n ↔ b ∈ F := by
  simp only [idxTo, List.mem_filter, List.mem_range]
  rw [askTo_getD hF b F.length (Nat.le_refl _), List.take_of_length_le (Nat.le_refl _)]
  exact ⟨fun h => h.2, fun h => ⟨hF b h, h⟩⟩

end Go.Proofs.Ytbddcodljmglfaa
