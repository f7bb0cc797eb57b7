/- The document's own search: what waits is taken from the end. Plain mathematics. -/
import Derived.Test.YtbddcodljmglfaaBfs
set_option linter.unusedVariables false
namespace Go.Proofs.Ytbddcodljmglfaa

def outTo (L : List (Nat × Nat)) (u k : Nat) : List Nat := (List.range k).filter fun y => decide ((u, y) ∈ L)

theorem outTo_succ (L : List (Nat × Nat)) (u k : Nat) : outTo L u (k + 1) = outTo L u k ++ (if (u, k) ∈ L then [k] else []) := by
  unfold outTo
  rw [List.range_succ, List.filter_append]
  by_cases h : (u, k) ∈ L
  · simp [h]
  · simp [h]

def visTo (L : List (Nat × Nat)) (x : Int) (u k : Nat) (s : List Bool × List Nat) : List Bool × List Nat := vis x (outTo L u k) s

theorem visTo_zero (L : List (Nat × Nat)) (x : Int) (u : Nat) (s : List Bool × List Nat) : visTo L x u 0 s = s := rfl

theorem visTo_yes {L : List (Nat × Nat)} {x : Int} {u k : Nat} {s : List Bool × List Nat} (h : (u, k) ∈ L) : visTo L x u (k + 1) s = vis1 x (visTo L x u k s) k := by
  unfold visTo
  rw [outTo_succ, if_pos h]
  unfold vis
  rw [List.foldl_append]
  rfl

theorem visTo_no {L : List (Nat × Nat)} {x : Int} {u k : Nat} {s : List Bool × List Nat} (h : (u, k) ∉ L) : visTo L x u (k + 1) s = visTo L x u k s := by
  unfold visTo
  rw [outTo_succ, if_neg h, List.append_nil]

theorem mem_outTo {L : List (Nat × Nat)} {u k y : Nat} : y ∈ outTo L u k ↔ y < k ∧ (u, y) ∈ L := by
  simp [outTo]

/-- What holds all along. -/
structure Dfs (n : Nat) (L : List (Nat × Nat)) (a : Nat) (x : Int) (s : List Bool × List Nat) : Prop where
  len : s.1.length = 40
  sound : ∀ b, s.1.getD b false = true → RA (· = a) (fun u v => (u, v) ∈ L) x b
  begun : s.1.getD a false = true
  shut : ∀ u, s.1.getD u false = true → u ∉ s.2 → ∀ v, (u, v) ∈ L → (v : Int) ≠ x → s.1.getD v false = true
  waits : ∀ u ∈ s.2, s.1.getD u false = true
  room : unseen s.1 + s.2.length ≤ 40
  lt : ∀ u ∈ s.2, u < n

theorem getD_falses (b : Nat) : (List.replicate 40 false).getD b false = false := by
  simp only [List.getD, List.getElem?_replicate]
  split <;> simp

theorem dfs_start {n : Nat} {L : List (Nat × Nat)} {a : Nat} {x : Int} (ha : a < n) (hn : n ≤ 40) (hx : (a : Int) ≠ x) : Dfs n L a x ((List.replicate 40 false).set a true, [a]) := by
  have hg : ∀ b, ((List.replicate 40 false).set a true).getD b false = true ↔ b = a := by
    intro b
    rw [getD_set (by simp; omega), getD_falses]
    simp
  refine ⟨by simp, fun b hb => ?_, (hg a).2 rfl, fun u hu hno => ?_, fun u hu => ?_, ?_, fun u hu => ?_⟩
  · rw [(hg b).1 hb]
    exact Reach.start ⟨rfl, hx⟩
  · rw [(hg u).1 hu] at hno
    simp at hno
  · simp at hu
    exact (hg u).2 hu
  · have := unseen_set (s := List.replicate 40 false) (a := a) (by simp; omega) (getD_falses a)
    simp [unseen] at this ⊢
    omega
  · simp at hu
    omega

theorem dfs_step {n : Nat} {L : List (Nat × Nat)} {a : Nat} {x : Int} {sn : List Bool} {l : List Nat} {u : Nat} (hL : ∀ z ∈ L, z.1 < n ∧ z.2 < n) (hn : n ≤ 40) (h : Dfs n L a x (sn, l ++ [u])) :
    Dfs n L a x (visTo L x u n (sn, l)) ∧ unseen (visTo L x u n (sn, l)).1 + (visTo L x u n (sn, l)).2.length = unseen sn + l.length := by
  obtain ⟨g1, g2, ⟨k, g3, g3'⟩, g4, g5⟩ := vis_props x 40 (outTo L u n) (sn, l) h.len (fun b hb => by have := (mem_outTo.1 hb).1; omega)
  have hu : sn.getD u false = true := h.waits u (by simp)
  have hs : ∀ b, (visTo L x u n (sn, l)).1.getD b false = true ↔ sn.getD b false = true ∨ ((u, b) ∈ L ∧ (b : Int) ≠ x) := by
    intro b
    show (vis x (outTo L u n) (sn, l)).1.getD b false = true ↔ _
    rw [g2]
    simp only [Bool.or_eq_true, Bool.and_eq_true, decide_eq_true_eq, mem_outTo]
    constructor
    · rintro (h1 | ⟨⟨_, h1⟩, h2⟩)
      · exact .inl h1
      · exact .inr ⟨h1, h2⟩
    · rintro (h1 | ⟨h1, h2⟩)
      · exact .inl h1
      · exact .inr ⟨⟨(hL _ h1).2, h1⟩, h2⟩
  refine ⟨⟨g1, fun b hb => ?_, (hs a).2 (.inl h.begun), fun b hb hno v hv hvx => ?_, fun b hb => ?_, ?_, fun b hb => ?_⟩, g4⟩
  · rcases (hs b).1 hb with h1 | ⟨h1, h2⟩
    · exact h.sound b h1
    · exact Reach.step (h.sound u hu) ⟨h1, h2⟩
  · by_cases hb' : sn.getD b false = true
    · by_cases e : b = u
      · rw [e] at hv
        exact (hs v).2 (.inr ⟨hv, hvx⟩)
      · refine (hs v).2 (.inl (h.shut b hb' (fun hm => ?_) v hv hvx))
        rcases List.mem_append.1 hm with hm | hm
        · exact hno (by show b ∈ (vis x (outTo L u n) (sn, l)).2; rw [g3]; exact List.mem_append.2 (.inl hm))
        · simp at hm
          exact e hm
    · exact absurd (g5 b hb (by simpa using hb')) hno
  · have hb' : b ∈ (vis x (outTo L u n) (sn, l)).2 := hb
    rw [g3] at hb'
    rcases List.mem_append.1 hb' with h1 | h1
    · exact (hs b).2 (.inl (h.waits b (List.mem_append.2 (.inl h1))))
    · have := g3' b h1
      exact (hs b).2 (.inr ⟨(mem_outTo.1 this.1).2, this.2⟩)
  · show unseen (vis x (outTo L u n) (sn, l)).1 + (vis x (outTo L u n) (sn, l)).2.length ≤ 40
    rw [g4]
    have := h.room
    simp only [List.length_append, List.length_cons, List.length_nil] at this
    show unseen sn + l.length ≤ 40
    omega
  · have hb' : b ∈ (vis x (outTo L u n) (sn, l)).2 := hb
    rw [g3] at hb'
    rcases List.mem_append.1 hb' with h1 | h1
    · exact h.lt b (List.mem_append.2 (.inl h1))
    · exact (mem_outTo.1 (g3' b h1).1).1

theorem dfs_end {n : Nat} {L : List (Nat × Nat)} {a : Nat} {x : Int} {sn : List Bool} (h : Dfs n L a x (sn, [])) (y : Nat) : sn.getD y false = true ↔ RA (· = a) (fun u v => (u, v) ∈ L) x y := by
  refine ⟨h.sound y, fun hy => ?_⟩
  exact Reach.ind hy (fun b => sn.getD b false = true) (fun b hb => by rw [hb.1]; exact h.begun) (fun u v _ hu he => h.shut u hu (by simp) v he.1 he.2)

end Go.Proofs.Ytbddcodljmglfaa
