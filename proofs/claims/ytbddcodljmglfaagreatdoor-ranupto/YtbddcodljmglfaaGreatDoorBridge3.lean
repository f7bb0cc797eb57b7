/- The bridge: lines that lead astray. -/
import Derived.Test.YtbddcodljmglfaaGreatDoorBridge2
set_option linter.unusedSimpArgs false
set_option linter.unusedVariables false
namespace Go.Proofs.YtbddcodljmglfaaGreatDoor

def PG.all (p : PG) : List BlockG := p.closed ++ p.cur.toList
/-- What a step does, told by the blocks. -/
theorem step_shape {i : Nat} {s : BA} {p p' : PG} (h : stepL 0 20 i s p = some p') :
    (i = 0 ∧ p'.all = p.all ∧ argsOf 0 (cuts 32 s) = some p'.args) ∨
    (i ≠ 0 ∧ p'.args = p.args ∧ ∃ b l, p.cur = some b ∧ lineOf 0 (cuts 32 s) = some l ∧ p'.all = p.closed ++ [{ b with lines := b.lines ++ [l] }]) ∨
    (i ≠ 0 ∧ p'.args = p.args ∧ p.cur = none ∧ isBlock (hd (cuts 32 s)) = true ∧ p'.all = p.closed ++ [⟨i + 1, [], []⟩]) := by
  unfold stepL at h
  split at h
  · rename_i hi
    split at h
    · rename_i a ha
      injection h with h
      subst h
      exact .inl ⟨hi, rfl, ha⟩
    · cases h
  · rename_i hi
    split at h
    · rename_i b hb
      have hin : inB 0 b s = match lineOf 0 (cuts 32 s) with | some l => some ({ b with lines := b.lines ++ [l] }, endsK l.word) | none => none := by
        unfold inB
        rw [if_neg (by omega)]
        cases lineOf 0 (cuts 32 s) <;> rfl
      cases hl : lineOf 0 (cuts 32 s) with
      | none => rw [hl] at hin; simp [hin] at h
      | some l =>
        rw [hl] at hin
        cases hk : endsK l.word with
        | true =>
          simp [hin, hk] at h
          subst h
          exact .inr (.inl ⟨hi, rfl, b, l, hb, rfl, by simp [PG.all]⟩)
        | false =>
          simp [hin, hk] at h
          subst h
          exact .inr (.inl ⟨hi, rfl, b, l, hb, rfl, by simp [PG.all]⟩)
    · rename_i hb
      split at h
      · rename_i hq
        injection h with h
        subst h
        refine .inr (.inr ⟨hi, rfl, hb, ?_, by simp [PG.all]⟩)
        rw [cuts_block hq.1]
        simpa [isBlock, hd] using hq.1
      · cases h

theorem lostG_append (n : Nat) : ∀ (A B : List BlockG), lostG n (A ++ B) = (lostG n A).or (lostG n B)
  | [], B => by simp [lostG]
  | a :: A, B => by
    simp only [List.cons_append, lostG]
    cases lostB n a 0 a.lines with
    | some i => simp
    | none => simp only []; exact lostG_append n A B
theorem lostB_snoc (n : Nat) (b b' : BlockG) (h1 : b'.first = b.first) (h2 : b'.phis = b.phis) (l : LineG) : ∀ (ls : List LineG) (j : Nat), lostB n b' j (ls ++ [l]) = (lostB n b j ls).or (if l.leads.any (fun k => decide (n ≤ k)) = true then some (b.first + b.phis.length + (j + ls.length)) else none)
  | [], j => by simp [lostB, h1, h2]
  | x :: ls, j => by
    simp only [List.cons_append, lostB, h1, h2]
    split
    · simp
    · rw [lostB_snoc n b b' h1 h2 l ls (j + 1)]
      simp only [List.length_cons]
      rw [show j + 1 + ls.length = j + (ls.length + 1) by omega]
theorem lostG_one (n : Nat) (b : BlockG) : lostG n [b] = lostB n b 0 b.lines := by
  simp only [lostG]
  cases lostB n b 0 b.lines <;> rfl

/-- Where line s leads, in the document's words. -/
def leadsS (s : BA) : List Nat := leadsR (hd (cuts 32 s)) (cuts 32 s)
def docLost (n : Nat) : Nat → List BA → Option Nat
  | _, [] => none
  | i, s :: r => if (leadsS s).any (fun k => decide (n ≤ k)) = true then some i else docLost n (i + 1) r

theorem docLost_cons (n i : Nat) (s : BA) (r : List BA) : docLost n i (s :: r) = if (leadsS s).any (fun k => decide (n ≤ k)) = true then some i else docLost n (i + 1) r := rfl
theorem leadsS_none {s : BA} (h : kindOf (hd (cuts 32 s)) = none) : leadsS s = [] := by unfold leadsS leadsR; rw [h]
theorem leadsS_line {s : BA} {l : LineG} (h : lineOf 0 (cuts 32 s) = some l) : leadsS s = l.leads := by
  unfold leadsS
  obtain ⟨x0, bs, hc⟩ := cuts_cons s
  rw [hc] at h ⊢
  exact (line_what h).2.2.symm
theorem kind_args {s : BA} {A : List Ver} (h : argsOf 0 (cuts 32 s) = some A) : kindOf (hd (cuts 32 s)) = none := by
  obtain ⟨x0, bs, hc⟩ := cuts_cons s
  rw [hc] at h ⊢
  rw [argsOf_cons] at h
  split at h
  · rename_i hq
    show kindOf x0 = none
    unfold kindOf
    rw [hq.1]
    rfl
  · cases h

theorem lost_step {n i nb : Nat} {s last : BA} {p p' : PG} (hr : Rel i p nb last) (h : stepL 0 20 i s p = some p') : lostG n p'.all = (lostG n p.all).or (if (leadsS s).any (fun k => decide (n ≤ k)) = true then some i else none) := by
  rcases step_shape h with ⟨-, h1, h2⟩ | ⟨-, -, b, l, hb, hl, h1⟩ | ⟨-, -, hc, hb, h1⟩
  · rw [h1, leadsS_none (kind_args h2)]
    simp
  · obtain ⟨e1, e2⟩ := hr.here b hb
    rw [h1, lostG_append, lostG_one, leadsS_line hl]
    show (lostG n p.closed).or (lostB n _ 0 (b.lines ++ [l])) = _
    rw [lostB_snoc n b { b with lines := b.lines ++ [l] } rfl rfl]
    have : p.all = p.closed ++ [b] := by simp [PG.all, hb]
    rw [this, lostG_append, lostG_one, e1]
    rw [show b.first + ([] : List PhiG).length + (0 + b.lines.length) = i by simp; omega]
    cases lostG n p.closed <;> simp
  · rw [h1, lostG_append, leadsS_none (kind_block hb)]
    have : p.all = p.closed := by simp [PG.all, hc]
    rw [this]
    simp [lostG, lostB]

theorem lost_run {n : Nat} : ∀ (T : List BA) (i nb : Nat) (p q : PG) (last : BA), Rel i p nb last → 0 < i + T.length → runL 0 20 i T p = .ok q → lostG n q.closed = (lostG n p.all).or (docLost n i T)
  | [], i, nb, p, q, last, h, hi, hq => by
    unfold runL at hq
    split at hq
    · rename_i hc
      injection hq with hq
      subst hq
      have : p.cur = none := by simpa using hc.1
      simp [PG.all, this, docLost]
    · cases hq
  | s :: r, i, nb, p, q, last, h, hi, hq => by
    unfold runL at hq
    cases hst : stepL 0 20 i s p with
    | none => rw [hst] at hq; cases hq
    | some p' =>
      rw [hst] at hq
      rw [lost_run r (i + 1) _ p' q _ ((rel_step h s).1 p' hst).2 (by omega) hq, lost_step h hst]
      rw [docLost_cons]
      split
      · cases lostG n p.all <;> simp
      · simp

end Go.Proofs.YtbddcodljmglfaaGreatDoor
