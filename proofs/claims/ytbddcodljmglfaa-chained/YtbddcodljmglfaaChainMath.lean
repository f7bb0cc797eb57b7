/- The chain of last ones is all that is over a node. -/
import Derived.Test.YtbddcodljmglfaaAvoids
set_option linter.unusedSimpArgs false
set_option linter.unusedVariables false
namespace Go.Proofs.Ytbddcodljmglfaa
open Go.RowKit

theorem heldF_antisymm {L : List (Nat × Nat)} {a c : Nat} (h1 : HeldF L a c) (h2 : HeldF L c a) : a = c := by
  by_cases hac : a = c
  · exact hac
  exfalso
  have key : Reach (fun x => x = 0 ∧ x ≠ a ∧ x ≠ c) (fun x y => (x, y) ∈ L ∧ y ≠ a ∧ y ≠ c) c ∨ Fwd L a c ∨ Fwd L c a := by
    refine Reach.ind h1.1 (fun x => Reach (fun x => x = 0 ∧ x ≠ a ∧ x ≠ c) (fun x y => (x, y) ∈ L ∧ y ≠ a ∧ y ≠ c) x ∨ Fwd L a c ∨ Fwd L c a) ?_ ?_
    · intro s hs
      by_cases e1 : s = a
      · exact .inr (.inr (by rw [← e1]; exact Reach.start ⟨hs.1, by omega⟩))
      · by_cases e2 : s = c
        · exact .inr (.inl (by rw [← e2]; exact Reach.start ⟨hs.1, by omega⟩))
        · exact .inl (Reach.start ⟨hs.1, e1, e2⟩)
    · intro x y _ hx he
      rcases hx with hx | hx
      · by_cases e1 : y = a
        · refine .inr (.inr ?_)
          rw [← e1]
          exact Reach.step (Reach.mono hx (fun z hz => ⟨hz.1, by have := hz.2.2; omega⟩) (fun z t ht => ⟨ht.1, by have := ht.2.2; omega⟩)) ⟨he.1, by omega⟩
        · by_cases e2 : y = c
          · refine .inr (.inl ?_)
            rw [← e2]
            exact Reach.step (Reach.mono hx (fun z hz => ⟨hz.1, by have := hz.2.1; omega⟩) (fun z t ht => ⟨ht.1, by have := ht.2.1; omega⟩)) ⟨he.1, by omega⟩
          · exact .inl (Reach.step hx ⟨he.1, e1, e2⟩)
      · exact .inr hx
  rcases key with h | h | h
  · exact Reach.ind h (fun x => x ≠ c) (fun x hx => hx.2.2) (fun _ _ _ _ he => he.2.2) rfl
  · exact h1.2 h
  · exact h2.2 h

/-- A chain under way: from b up to c. -/
structure Chn (n : Nat) (L : List (Nat × Nat)) (b : Nat) (l : List Nat) (c : Nat) : Prop where
  cn : c < n
  cm : c ∈ l
  reached : Fwd L (-1) c
  nodup : l.Nodup
  lt : ∀ y ∈ l, y < n
  over : ∀ y ∈ l, HeldF L y b
  up : ∀ y ∈ l, HeldF L c y
  all : ∀ x : Nat, HeldF L x b → x ∈ l ∨ (x ≠ c ∧ HeldF L x c)

theorem chn_start {n : Nat} {L : List (Nat × Nat)} {b : Nat} (hb : b < n) (hr : Fwd L (-1) b) : Chn n L b [b] b := by
  have hs : HeldF L b b := ⟨hr, fun h => RA.ne h rfl⟩
  refine ⟨hb, by simp, hr, by simp, by simpa using hb, by simpa using hs, by simpa using hs, fun x hx => ?_⟩
  by_cases e : x = b
  · exact .inl (by simp [e])
  · exact .inr ⟨e, hx⟩

theorem chn_le {n : Nat} {L : List (Nat × Nat)} {b c : Nat} {l : List Nat} (h : Chn n L b l c) : l.length ≤ n := nodup_len n l h.nodup h.lt

theorem heldF_trans {L : List (Nat × Nat)} {d c a : Nat} (h1 : HeldF L d c) (h2 : HeldF L c a) : HeldF L d a := Held.trans h1 h2

theorem chn_step {n : Nat} {L : List (Nat × Nat)} {b c a : Nat} {l : List Nat} {H : Nat → Nat → Bool} (hH : ∀ a c, a < n → c < n → (H a c = true ↔ HeldF L a c)) (hlt : ∀ x : Nat, HeldF L x b → x < n) (h : Chn n L b l c) (ha : a < n) (hc : cand H n c a = true) : Chn n L b (l ++ [a]) a := by
  obtain ⟨hne, h1, h2⟩ := cand_iff.1 hc
  have hac : HeldF L a c := (hH a c ha h.cn).1 h1
  have hra : Fwd L (-1) a := Held.reached hac
  have hno : a ∉ l := fun hm => hne (heldF_antisymm hac (h.up a hm))
  refine ⟨ha, by simp, hra, ?_, ?_, ?_, ?_, ?_⟩
  · rw [List.nodup_append]
    exact ⟨h.nodup, by simp, fun y hy z hz => by simp at hz; subst hz; intro e; subst e; exact hno hy⟩
  · intro y hy
    rcases List.mem_append.1 hy with hy | hy
    · exact h.lt y hy
    · rw [List.mem_singleton.1 hy]; exact ha
  · intro y hy
    rcases List.mem_append.1 hy with hy | hy
    · exact h.over y hy
    · rw [List.mem_singleton.1 hy]; exact heldF_trans hac (h.over c h.cm)
  · intro y hy
    rcases List.mem_append.1 hy with hy | hy
    · exact heldF_trans hac (h.up y hy)
    · rw [List.mem_singleton.1 hy]; exact ⟨hra, fun h => RA.ne h rfl⟩
  · intro x hx
    rcases h.all x hx with h3 | ⟨h3, h4⟩
    · exact .inl (by simp [h3])
    · by_cases e : x = a
      · exact .inl (by simp [e])
      · have hxn := hlt x hx
        exact .inr ⟨e, (hH x a hxn ha).1 (h2 x hxn h3 ((hH x c hxn h.cn).2 h4))⟩

theorem chn_end {n : Nat} {L : List (Nat × Nat)} {b c : Nat} {l : List Nat} {H : Nat → Nat → Bool} (hH : ∀ a c, a < n → c < n → (H a c = true ↔ HeldF L a c)) (hlt : ∀ x : Nat, HeldF L x b → x < n) (h : Chn n L b l c) (hn : 0 < n) (hno : ∀ a, a < n → cand H n c a = false) : c = 0 ∧ ∀ x : Nat, x ∈ l ↔ HeldF L x b := by
  have ht : Tab n H := tab_of hH
  have key : ∀ x : Nat, x < n → x ≠ c → HeldF L x c → False := by
    intro x hx hxc hh
    obtain ⟨a, ha, h1, h2, h3⟩ := best_in ht h.cn (List.range n) (fun a ha => by simpa using ha) ⟨x, by simpa using hx, hxc, (hH x c hx h.cn).2 hh⟩
    have ha' : a < n := by simpa using ha
    have := hno a ha'
    rw [cand_iff.2 ⟨h1, h2, fun d hd => h3 d (by simpa using hd)⟩] at this
    simp at this
  refine ⟨?_, fun x => ⟨h.over x, fun hx => ?_⟩⟩
  · by_cases e : c = 0
    · exact e
    · exfalso
      refine key 0 hn (fun h => e h.symm) ⟨h.reached, fun hf => ?_⟩
      exact Reach.ind hf (fun _ => False) (fun x hx => hx.2 (by rw [hx.1])) (fun _ _ _ h _ => h)
  · rcases h.all x hx with h1 | ⟨h1, h2⟩
    · exact h1
    · exact (key x (hlt x hx) h1 h2).elim

end Go.Proofs.Ytbddcodljmglfaa
