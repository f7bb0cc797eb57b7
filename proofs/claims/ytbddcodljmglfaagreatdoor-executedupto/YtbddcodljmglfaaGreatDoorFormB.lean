/- The bridge, of forms: lines that lead astray; the lines of the text and what the blocks hold, in their order. And what follows on it. -/
import Derived.Test.YtbddcodljmglfaaGreatDoorFormA
import Derived.Test.YtbddcodljmglfaaGreatDoorTextB
set_option linter.unusedSimpArgs false
set_option linter.unusedVariables false
namespace Go.Proofs.YtbddcodljmglfaaGreatDoor

theorem relF_start : RelF 0 ⟨[], [], none⟩ 0 ByteArray.empty :=
  ⟨by simp, fun _ => ⟨rfl, rfl⟩, fun h => absurd h (by omega), fun h => absurd h (by omega), fun h => absurd h (by omega), fun b hb => by cases hb⟩

/-- What a step does, told by the blocks. -/
theorem stepF_shape {i : Nat} {s : BA} {p p' : PG} (h : stepL 1 40 i s p = some p') :
    (i = 0 ∧ p'.all = p.all ∧ argsOf 1 (cuts 32 s) = some p'.args) ∨
    (i ≠ 0 ∧ p'.args = p.args ∧ ∃ b ph, p.cur = some b ∧ b.lines = [] ∧ phiOf (cuts 32 s) = some ph ∧ p'.all = p.closed ++ [{ b with phis := b.phis ++ [ph] }]) ∨
    (i ≠ 0 ∧ p'.args = p.args ∧ ∃ b l, p.cur = some b ∧ lineOf 1 (cuts 32 s) = some l ∧ p'.all = p.closed ++ [{ b with lines := b.lines ++ [l] }]) ∨
    (i ≠ 0 ∧ p'.args = p.args ∧ p.cur = none ∧ isBlock (hd (cuts 32 s)) = true ∧ p'.all = p.closed ++ [⟨i + 1, [], []⟩]) := by
  unfold stepL at h
  split at h
  · rename_i hi
    split at h
    · rename_i a ha
      injection h with h
      subst h
      exact .inl ⟨hi, rfl, ha⟩
    · cases h
  · rename_i hi
    split at h
    · rename_i b hb
      cases hin : inB 1 b s with
      | none => simp [hin] at h
      | some r =>
        obtain ⟨b', e⟩ := r
        have hall : p'.args = p.args ∧ p'.all = p.closed ++ [b'] := by
          cases e with
          | true => simp [hin] at h; subst h; simp [PG.all]
          | false => simp [hin] at h; subst h; simp [PG.all]
        unfold inB at hin
        split at hin
        · rename_i ph hph
          injection hin with hin
          injection hin with h1 h2
          subst h1
          split at hph
          · rename_i hc
            exact .inr (.inl ⟨hi, hall.1, b, ph, hb, List.eq_nil_of_length_eq_zero hc.2, hph, hall.2⟩)
          · cases hph
        · split at hin
          · rename_i l hl
            injection hin with hin
            injection hin with h1 h2
            subst h1
            exact .inr (.inr (.inl ⟨hi, hall.1, b, l, hb, hl, hall.2⟩))
          · cases hin
    · rename_i hb
      split at h
      · rename_i hq
        injection h with h
        subst h
        refine .inr (.inr (.inr ⟨hi, rfl, hb, ?_, by simp [PG.all]⟩))
        rw [cuts_block hq.1]
        simpa [isBlock, hd] using hq.1
      · cases h

theorem leadsS_line1 {s : BA} {l : LineG} (h : lineOf 1 (cuts 32 s) = some l) : leadsS s = l.leads := by
  unfold leadsS
  obtain ⟨x0, bs, hc⟩ := cuts_cons s
  rw [hc] at h ⊢
  exact (line_what1 h).2.2.symm
theorem args_hd {s : BA} {A : List Ver} (h : argsOf 1 (cuts 32 s) = some A) : ByteArray.toList (hd (cuts 32 s)) = [97, 114, 103, 115] := by
  obtain ⟨x0, bs, hc⟩ := cuts_cons s
  rw [hc] at h ⊢
  rw [argsOf_cons] at h
  split at h
  · rename_i hq; exact hq.1
  · cases h
theorem kind_args1 {s : BA} {A : List Ver} (h : argsOf 1 (cuts 32 s) = some A) : kindOf (hd (cuts 32 s)) = none := by
  unfold kindOf
  rw [args_hd h]
  rfl
theorem phi_hd {s : BA} {ph : PhiG} (h : phiOf (cuts 32 s) = some ph) : isPhi (hd (cuts 32 s)) = true := by
  obtain ⟨x0, bs, hc⟩ := cuts_cons s
  rw [hc] at h ⊢
  cases hp : isPhi x0 with
  | true => exact hp
  | false => rw [phi_other hp] at h; cases h

theorem lostF_step {n i nb : Nat} {s last : BA} {p p' : PG} (hr : RelF i p nb last) (h : stepL 1 40 i s p = some p') : lostG n p'.all = (lostG n p.all).or (if (leadsS s).any (fun k => decide (n ≤ k)) = true then some i else none) := by
  rcases stepF_shape h with ⟨-, h1, h2⟩ | ⟨-, -, b, ph, hb, hb0, hl, h1⟩ | ⟨-, -, b, l, hb, hl, h1⟩ | ⟨-, -, hc, hb, h1⟩
  · rw [h1, leadsS_none (kind_args1 h2)]
    simp
  · rw [h1, lostG_append, lostG_one, leadsS_none (kind_phi (phi_hd hl))]
    have : p.all = p.closed ++ [b] := by simp [PG.all, hb]
    rw [this, lostG_append, lostG_one, hb0]
    simp [lostB]
  · obtain ⟨e1, -⟩ := hr.here b hb
    rw [h1, lostG_append, lostG_one, leadsS_line1 hl]
    show (lostG n p.closed).or (lostB n _ 0 (b.lines ++ [l])) = _
    rw [lostB_snoc n b { b with lines := b.lines ++ [l] } rfl rfl]
    have : p.all = p.closed ++ [b] := by simp [PG.all, hb]
    rw [this, lostG_append, lostG_one]
    rw [show b.first + b.phis.length + (0 + b.lines.length) = i by omega]
    cases lostG n p.closed <;> simp
  · rw [h1, lostG_append, leadsS_none (kind_block hb)]
    have : p.all = p.closed := by simp [PG.all, hc]
    rw [this]
    simp [lostG, lostB]

theorem lostF_run {n : Nat} : ∀ (T : List BA) (i nb : Nat) (p q : PG) (last : BA), RelF i p nb last → 0 < i + T.length → runL 1 40 i T p = .ok q → lostG n q.closed = (lostG n p.all).or (docLost n i T)
  | [], i, nb, p, q, last, h, hi, hq => by
    unfold runL at hq
    split at hq
    · rename_i hc
      injection hq with hq
      subst hq
      have : p.cur = none := by simpa using hc.1
      simp [PG.all, this, docLost]
    · cases hq
  | s :: r, i, nb, p, q, last, h, hi, hq => by
    unfold runL at hq
    cases hst : stepL 1 40 i s p with
    | none => rw [hst] at hq; cases hq
    | some p' =>
      rw [hst] at hq
      rw [lostF_run r (i + 1) _ p' q _ ((relF_step h s).1 p' hst).2 (by omega) hq, lostF_step h hst]
      rw [docLost_cons]
      split
      · cases lostG n p.all <;> simp
      · simp

/-! What the blocks hold, in order. -/
inductive Itm where
  | phi (p : PhiG)
  | line (l : LineG)
/-- An item: its block, its line's number, what it is. -/
structure It where
  blk : Nat
  at_ : Nat
  it : Itm
def phiIts (k : Nat) : Nat → List PhiG → List It
  | _, [] => []
  | n, p :: r => ⟨k, n, .phi p⟩ :: phiIts k (n + 1) r
def lineIts (k : Nat) : Nat → List LineG → List It
  | _, [] => []
  | n, l :: r => ⟨k, n, .line l⟩ :: lineIts k (n + 1) r
def blkIts (k : Nat) (b : BlockG) : List It := phiIts k b.first b.phis ++ lineIts k (b.first + b.phis.length) b.lines
def itsFrom : Nat → List BlockG → List It
  | _, [] => []
  | k, b :: r => blkIts k b ++ itsFrom (k + 1) r
theorem itsFrom_snoc : ∀ (A : List BlockG) (k : Nat) (b : BlockG), itsFrom k (A ++ [b]) = itsFrom k A ++ blkIts (k + A.length) b
  | [], k, b => by simp [itsFrom]
  | a :: A, k, b => by
    simp only [List.cons_append, itsFrom, itsFrom_snoc A (k + 1) b, List.length_cons, List.append_assoc]
    rw [show k + 1 + A.length = k + (A.length + 1) by omega]
theorem phiIts_snoc (k : Nat) : ∀ (L : List PhiG) (n : Nat) (p : PhiG), phiIts k n (L ++ [p]) = phiIts k n L ++ [⟨k, n + L.length, .phi p⟩]
  | [], n, p => rfl
  | a :: L, n, p => by
    simp only [List.cons_append, phiIts, phiIts_snoc k L (n + 1) p, List.length_cons]
    rw [show n + 1 + L.length = n + (L.length + 1) by omega]
theorem lineIts_snoc (k : Nat) : ∀ (L : List LineG) (n : Nat) (l : LineG), lineIts k n (L ++ [l]) = lineIts k n L ++ [⟨k, n + L.length, .line l⟩]
  | [], n, p => rfl
  | a :: L, n, p => by
    simp only [List.cons_append, lineIts, lineIts_snoc k L (n + 1) p, List.length_cons]
    rw [show n + 1 + L.length = n + (L.length + 1) by omega]

/-- The lines, from the first block on, that begin no block: each with its block, so many having begun ahead. -/
def bodyL : Nat → Nat → List BA → List (Nat × Nat × BA)
  | _, _, [] => []
  | nb, i, s :: r => if isBlock (hd (cuts 32 s)) = true then bodyL (nb + 1) (i + 1) r else (nb - 1, i, s) :: bodyL nb (i + 1) r
theorem bodyL_snoc : ∀ (L : List BA) (nb i : Nat) (x : BA), bodyL nb i (L ++ [x]) = bodyL nb i L ++ (if isBlock (hd (cuts 32 x)) = true then [] else [(nb + (blkIdx i L).length - 1, i + L.length, x)])
  | [], nb, i, x => by
    simp only [List.nil_append, bodyL, blkIdx, List.length_nil, Nat.add_zero]
  | s :: r, nb, i, x => by
    simp only [List.cons_append, bodyL, blkIdx]
    rw [bodyL_snoc r (nb + 1) (i + 1) x, bodyL_snoc r nb (i + 1) x]
    split
    · simp only [List.length_cons]
      rw [show nb + 1 + (blkIdx (i + 1) r).length = nb + ((blkIdx (i + 1) r).length + 1) by omega, show i + 1 + r.length = i + (r.length + 1) by omega]
    · simp only [List.length_cons, List.cons_append]
      rw [show i + 1 + r.length = i + (r.length + 1) by omega]
/-- A line of the text says an item. -/
def SaysIt (x : Nat × Nat × BA) (y : It) : Prop := x.1 = y.blk ∧ x.2.1 = y.at_ ∧ match y.it with
  | .phi p => isPhi (hd (cuts 32 x.2.2)) = true ∧ phiOf (cuts 32 x.2.2) = some p
  | .line l => isPhi (hd (cuts 32 x.2.2)) = false ∧ lineOf 1 (cuts 32 x.2.2) = some l
/-- Two lists, one by one. -/
inductive Both {α β : Type} (R : α → β → Prop) : List α → List β → Prop where
  | nil : Both R [] []
  | cons {a b l r} (h : R a b) (t : Both R l r) : Both R (a :: l) (b :: r)
theorem Both.snoc {α β : Type} {R : α → β → Prop} {l : List α} {r : List β} (h : Both R l r) {a : α} {b : β} (hab : R a b) : Both R (l ++ [a]) (r ++ [b]) := by
  induction h with
  | nil => exact .cons hab .nil
  | cons h t ih => exact .cons h ih

end Go.Proofs.YtbddcodljmglfaaGreatDoor

namespace Go.Proofs.YtbddcodljmglfaaGreatDoor

/-- What is known of the blocks, i lines read. -/
structure ItsOf (T0 : List BA) (i : Nat) (p : PG) : Prop where
  firsts : p.all.map (·.first) = (blkIdx 0 (T0.take i)).map (· + 1)
  items : 1 ≤ i → Both SaysIt (bodyL 0 1 ((T0.take i).drop 1)) (itsFrom 0 p.all)
  cur : ∀ b, p.cur = some b → b.first + b.phis.length + b.lines.length = i
  start : i ≤ 1 → p.closed = [] ∧ p.cur = none

theorem takeS {T0 : List BA} {i : Nat} {s : BA} (h : T0[i]? = some s) : T0.take (i + 1) = T0.take i ++ [s] := by
  rw [List.take_add_one, h]
  rfl
theorem takeL {T0 : List BA} {i : Nat} {s : BA} (h : T0[i]? = some s) : (T0.take i).length = i := by
  have := (List.getElem?_eq_some_iff.1 h).1
  simp
  omega
/-- How many blocks have begun in the lines behind the first one. -/
theorem blkIdx_drop {L : List BA} (h : ∀ x, L[0]? = some x → isBlock (hd (cuts 32 x)) = false) : (blkIdx 1 (L.drop 1)).length = (blkIdx 0 L).length := by
  cases L with
  | nil => rfl
  | cons x r =>
    have := h x rfl
    simp only [List.drop_succ_cons, List.drop_zero, blkIdx]
    rw [if_neg (by rw [this]; decide)]

theorem its_step {T0 : List BA} {i nb : Nat} {s last : BA} {p q : PG} (hs : T0[i]? = some s) (h0 : ∀ x, T0[0]? = some x → isBlock (hd (cuts 32 x)) = false) (hr : RelF i p nb last) (h : stepL 1 40 i s p = some q) (hp : ItsOf T0 i p) : ItsOf T0 (i + 1) q := by
  have hidx := blkIdx_snoc (T0.take i) 0 s
  rw [← takeS hs, takeL hs, Nat.zero_add] at hidx
  have hq := ((relF_step hr s).1 q h).2
  have hcur : ∀ b, q.cur = some b → b.first + b.phis.length + b.lines.length = i + 1 := fun b hb => (hq.here b hb).1
  have hstart : i + 1 ≤ 1 → q.closed = [] ∧ q.cur = none := hq.start
  have hbody : 1 ≤ i → bodyL 0 1 ((T0.take (i + 1)).drop 1) = bodyL 0 1 ((T0.take i).drop 1) ++ (if isBlock (hd (cuts 32 s)) = true then [] else [(p.all.length - 1, i, s)]) := by
    intro hi
    rw [takeS hs, List.drop_append_of_le_length (by rw [takeL hs]; exact hi), bodyL_snoc, blkIdx_drop (fun x hx => h0 x (by
      rw [List.getElem?_take_of_lt (by omega)] at hx
      exact hx))]
    have : p.all.length = (blkIdx 0 (T0.take i)).length := by
      have := congrArg List.length hp.firsts
      simpa using this
    rw [this, Nat.zero_add, List.length_drop, takeL hs, show 1 + (i - 1) = i by omega]
  rcases stepF_shape h with ⟨hi, h1, h2⟩ | ⟨hi, -, b, ph, hb, hb0, hph, h1⟩ | ⟨hi, -, b, l, hb, hl, h1⟩ | ⟨hi, -, hc, hbl, h1⟩
  · subst hi
    have hnb : isBlock (hd (cuts 32 s)) = false := by unfold isBlock; rw [args_hd h2]; rfl
    refine ⟨?_, fun _ => ?_, hcur, hstart⟩
    · rw [h1, hidx, if_neg (by rw [hnb]; decide), List.append_nil]
      exact hp.firsts
    · have hst := hp.start (by omega)
      rw [h1, takeS hs]
      simp [PG.all, hst.1, hst.2, itsFrom, bodyL]
      exact .nil
  · have hpa : p.all = p.closed ++ [b] := by simp [PG.all, hb]
    have hisp := phi_hd hph
    have hnb := phi_noblock hisp
    have hi1 : 1 ≤ i := by omega
    refine ⟨?_, fun _ => ?_, hcur, hstart⟩
    · have := hp.firsts
      rw [hpa] at this
      rw [h1, hidx, if_neg (by rw [hnb]; decide), List.append_nil, ← this]
      simp
    · have hh := hp.items hi1
      rw [hbody hi1, if_neg (by rw [hnb]; decide), h1, itsFrom_snoc]
      rw [hpa, itsFrom_snoc] at hh
      have e1 : blkIts (0 + p.closed.length) { b with phis := b.phis ++ [ph] } = blkIts (0 + p.closed.length) b ++ [⟨0 + p.closed.length, i, .phi ph⟩] := by
        unfold blkIts
        simp only [hb0, lineIts, List.append_nil, phiIts_snoc]
        have := hp.cur b hb
        rw [hb0] at this
        simp at this
        rw [show b.first + b.phis.length = i by omega]
      rw [e1, ← List.append_assoc]
      refine hh.snoc ⟨?_, rfl, hisp, hph⟩
      rw [hpa]
      simp
  · have hpa : p.all = p.closed ++ [b] := by simp [PG.all, hb]
    have hk : kindOf (hd (cuts 32 s)) = some l.word := by
      obtain ⟨x0, bs, hc⟩ := cuts_cons s
      rw [hc] at hl ⊢
      exact (line_what1 hl).1
    obtain ⟨hnb, hnp⟩ := kind_noblock hk
    have hi1 : 1 ≤ i := by omega
    refine ⟨?_, fun _ => ?_, hcur, hstart⟩
    · have := hp.firsts
      rw [hpa] at this
      rw [h1, hidx, if_neg (by rw [hnb]; decide), List.append_nil, ← this]
      simp
    · have hh := hp.items hi1
      rw [hbody hi1, if_neg (by rw [hnb]; decide), h1, itsFrom_snoc]
      rw [hpa, itsFrom_snoc] at hh
      have e1 : blkIts (0 + p.closed.length) { b with lines := b.lines ++ [l] } = blkIts (0 + p.closed.length) b ++ [⟨0 + p.closed.length, i, .line l⟩] := by
        unfold blkIts
        simp only [lineIts_snoc, List.append_assoc]
        have := hp.cur b hb
        rw [show b.first + b.phis.length + b.lines.length = i by omega]
      rw [e1, ← List.append_assoc]
      refine hh.snoc ⟨?_, rfl, hnp, hl⟩
      rw [hpa]
      simp
  · have hpa : p.all = p.closed := by simp [PG.all, hc]
    have hi1 : 1 ≤ i := by omega
    refine ⟨?_, fun _ => ?_, hcur, hstart⟩
    · have := hp.firsts
      rw [hpa] at this
      rw [h1, hidx, if_pos hbl]
      simp [this]
    · have hh := hp.items hi1
      rw [hbody hi1, if_pos hbl, List.append_nil, h1, itsFrom_snoc]
      rw [hpa] at hh
      simpa [blkIts, phiIts, lineIts] using hh

theorem its_run {T0 : List BA} (h0 : ∀ x, T0[0]? = some x → isBlock (hd (cuts 32 x)) = false) : ∀ (T : List BA) (i nb : Nat) (p q : PG) (last : BA), T = T0.drop i → i ≤ T0.length → RelF i p nb last → runL 1 40 i T p = .ok q → ItsOf T0 i p → ItsOf T0 T0.length q ∧ q.cur = none
  | [], i, nb, p, q, last, hT, hi, hr, h, hp => by
    unfold runL at h
    split at h
    · rename_i hc
      injection h with h
      subst h
      have hl : i = T0.length := by
        have := congrArg List.length hT
        simp at this
        omega
      subst hl
      exact ⟨hp, by simpa using hc.1⟩
    · cases h
  | s :: r, i, nb, p, q, last, hT, hi, hr, h, hp => by
    unfold runL at h
    have hs : T0[i]? = some s := by
      have := congrArg (·[0]?) hT
      simp at this
      rw [← this]
    cases hst : stepL 1 40 i s p with
    | none => rw [hst] at h; cases h
    | some p' =>
      rw [hst] at h
      have hlt := (List.getElem?_eq_some_iff.1 hs).1
      refine its_run h0 r (i + 1) _ p' q _ ?_ (by omega) ((relF_step hr s).1 p' hst).2 h (its_step hs h0 hr hst hp)
      have := congrArg (List.drop 1) hT
      simpa [List.drop_drop, Nat.add_comm] using this

/-- Of a text that is a form as far as its lines go: where its blocks begin, and its lines one by one. -/
theorem form_its {s : BA} {A : List Ver} {bs : List BlockG} (h : readG 1 40 1000 s = .ok (A, bs)) : bs.map (·.first) = (blkIdx 0 (cuts 10 s)).map (· + 1) ∧ Both SaysIt (bodyL 0 1 ((cuts 10 s).drop 1)) (itsFrom 0 bs) ∧ (cuts 10 s).length ≤ 1000 ∧ ∃ x0, (cuts 10 s)[0]? = some x0 ∧ argsOf 1 (cuts 32 x0) = some A := by
  unfold readG at h
  split at h
  · cases h
  · rename_i hlen
    split at h
    · cases h
    · rename_i q hq
      split at h
      · cases h
      · injection h with h
        injection h with h1 h2
        subst h1 h2
        have hne := cuts_ne 10 s
        generalize cuts 10 s = T at *
        cases T with
        | nil => exact absurd rfl hne
        | cons x r =>
          have hargs : argsOf 1 (cuts 32 x) = some q.args := by
            unfold runL at hq
            cases hst : stepL 1 40 0 x ⟨[], [], none⟩ with
            | none => rw [hst] at hq; cases hq
            | some p' =>
              rw [hst] at hq
              have aux : ∀ (T : List BA) (i : Nat) (p q : PG), i ≠ 0 → runL 1 40 i T p = .ok q → q.args = p.args := by
                intro T
                induction T with
                | nil =>
                  intro i p q hi hq
                  unfold runL at hq
                  split at hq
                  · injection hq with hq; subst hq; rfl
                  · cases hq
                | cons s r ih =>
                  intro i p q hi hq
                  unfold runL at hq
                  cases hst : stepL 1 40 i s p with
                  | none => rw [hst] at hq; cases hq
                  | some p' =>
                    rw [hst] at hq
                    rw [ih (i + 1) p' q (by omega) hq]
                    rcases stepF_shape hst with ⟨h0, -⟩ | ⟨-, h, -⟩ | ⟨-, h, -⟩ | ⟨-, h, -⟩
                    · exact absurd h0 hi
                    · exact h
                    · exact h
                    · exact h
              rw [aux r 1 p' q (by omega) hq]
              rcases stepF_shape hst with ⟨-, -, h2⟩ | ⟨h0, -⟩ | ⟨h0, -⟩ | ⟨h0, -⟩
              · exact h2
              · exact absurd rfl h0
              · exact absurd rfl h0
              · exact absurd rfl h0
          have h0 : ∀ y, (x :: r)[0]? = some y → isBlock (hd (cuts 32 y)) = false := by
            intro y hy
            simp at hy
            subst hy
            unfold isBlock
            rw [args_hd hargs]
            rfl
          obtain ⟨g1, g2⟩ := its_run h0 (x :: r) 0 0 _ q ByteArray.empty (by simp) (by omega) relF_start hq ⟨by simp [PG.all, blkIdx], fun h => absurd h (by omega), fun b hb => (by cases hb), fun _ => ⟨rfl, rfl⟩⟩
          have hall : q.all = q.closed := by simp [PG.all, g2]
          have hf := g1.firsts
          have hi := g1.items (by simp)
          rw [hall, List.take_length] at hf hi
          exact ⟨hf, hi, by omega, x, rfl, hargs⟩

end Go.Proofs.YtbddcodljmglfaaGreatDoor
