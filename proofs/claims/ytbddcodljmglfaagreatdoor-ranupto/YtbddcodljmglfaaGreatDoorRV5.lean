/- Which lines of a text are which lines of its blocks: of no run. -/
import Derived.Test.YtbddcodljmglfaaGreatDoorRV4
import Derived.Test.YtbddcodljmglfaaGreatDoorBridge5
set_option linter.unusedSimpArgs false
set_option linter.unusedVariables false
namespace Go.Proofs.YtbddcodljmglfaaGreatDoor

theorem line_noblock {s : BA} {l : LineG} (h : lineOf 0 (cuts 32 s) = some l) : isBlock (hd (cuts 32 s)) = false := by
  obtain ⟨x0, bs, hc⟩ := cuts_cons s
  rw [hc] at h ⊢
  simp only [lineOf] at h
  split at h
  · rename_i k hk
    have hlt := kind_lt hk
    have hw := kind_word hk
    show (ByteArray.toList x0 == _) = false
    rw [hw]
    rcases (by omega : k = 0 ∨ k = 1 ∨ k = 2 ∨ k = 3 ∨ k = 4 ∨ k = 5 ∨ k = 6 ∨ k = 7 ∨ k = 8 ∨ k = 9) with rfl | rfl | rfl | rfl | rfl | rfl | rfl | rfl | rfl | rfl <;> rfl
  · cases h
theorem block_cuts {s : BA} (h : ByteArray.toList s = [98, 108, 111, 99, 107]) : isBlock (hd (cuts 32 s)) = true := by
  rw [ByteArray.toList_eq] at h
  have hc : cuts 32 s = [s] := by
    unfold cuts
    rw [h, cutsB_none 32 _ (by decide)]
    simp only [List.map_cons, List.map_nil]
    rw [ofL_eq h]
  rw [hc]
  show (ByteArray.toList s == _) = true
  rw [ByteArray.toList_eq, h]
  rfl
theorem args_noblock {s : BA} {A : List Ver} (h : argsOf 0 (cuts 32 s) = some A) : isBlock (hd (cuts 32 s)) = false := by
  obtain ⟨x0, bs, hc⟩ := cuts_cons s
  rw [hc] at h ⊢
  simp only [argsOf] at h
  split at h
  · rename_i hq
    show (ByteArray.toList x0 == _) = false
    rw [hq.1]
    rfl
  · cases h

/-- What is known of the blocks, i lines read. -/
structure LinesOf (T0 : List BA) (i : Nat) (p : PG) : Prop where
  firsts : (p.closed ++ p.cur.toList).map (·.first) = (blkIdx 0 (T0.take i)).map (· + 1)
  lines : ∀ b ∈ p.closed ++ p.cur.toList, ∀ (j : Nat) l, b.lines[j]? = some l → ∃ s, T0[b.first + j]? = some s ∧ lineOf 0 (cuts 32 s) = some l
  cur : ∀ b, p.cur = some b → b.first + b.lines.length = i
  start : i = 0 → p.closed = [] ∧ p.cur = none

theorem take_snoc {T0 : List BA} {i : Nat} {s : BA} (h : T0[i]? = some s) : T0.take (i + 1) = T0.take i ++ [s] := by
  rw [List.take_add_one, h]
  rfl
theorem take_len {T0 : List BA} {i : Nat} {s : BA} (h : T0[i]? = some s) : (T0.take i).length = i := by
  have := (List.getElem?_eq_some_iff.1 h).1
  simp
  omega
theorem lines_step {T0 : List BA} {i mb : Nat} {s : BA} {p q : PG} (hs : T0[i]? = some s) (h : stepL 0 mb i s p = some q) (hp : LinesOf T0 i p) : LinesOf T0 (i + 1) q := by
  have hidx := blkIdx_snoc (T0.take i) 0 s
  rw [← take_snoc hs, take_len hs, Nat.zero_add] at hidx
  unfold stepL at h
  split at h
  · rename_i hi0
    split at h
    · rename_i a ha
      injection h with h
      subst h
      rw [if_neg (by rw [args_noblock ha]; decide), List.append_nil] at hidx
      obtain ⟨h1, h2⟩ := hp.start hi0
      refine ⟨by rw [hidx]; exact hp.firsts, hp.lines, fun b hb => ?_, fun h => absurd h (by omega)⟩
      rw [show p.cur = none from h2] at hb
      cases hb
    · cases h
  · split at h
    · rename_i b hb
      unfold inB at h
      simp only [show ¬ ((0 : Nat) = 1) by decide, false_and, if_false] at h
      cases hl : lineOf 0 (cuts 32 s) with
      | none => rw [hl] at h; simp at h
      | some l =>
        rw [hl] at h
        simp only at h
        rw [if_neg (by rw [line_noblock hl]; decide), List.append_nil] at hidx
        have hcur := hp.cur b hb
        have hbl : ∀ (j : Nat) l', (b.lines ++ [l])[j]? = some l' → ∃ s, T0[b.first + j]? = some s ∧ lineOf 0 (cuts 32 s) = some l' := by
          intro j l' hj
          by_cases hjl : j < b.lines.length
          · rw [List.getElem?_append_left hjl] at hj
            exact hp.lines b (by rw [hb]; simp) j l' hj
          · rw [List.getElem?_append_right (by omega)] at hj
            have hj0 : j = b.lines.length := by
              rcases Nat.lt_or_ge b.lines.length j with h' | h'
              · rw [List.getElem?_eq_none (by simp; omega)] at hj; cases hj
              · omega
            subst hj0
            simp at hj
            subst hj
            exact ⟨s, by rw [hcur]; exact hs, hl⟩
        have hfi := hp.firsts
        rw [hb] at hfi
        cases he : endsK l.word with
        | true =>
          rw [he] at h
          simp only at h
          injection h with h
          subst h
          refine ⟨?_, ?_, fun b' hb' => (by cases hb'), fun h => absurd h (by omega)⟩
          · rw [hidx, ← hfi]
            simp
          · intro b' hb' j l' hj
            simp only [Option.toList_none, List.append_nil, List.mem_append, List.mem_singleton] at hb'
            rcases hb' with hb' | rfl
            · exact hp.lines b' (List.mem_append_left _ hb') j l' hj
            · exact hbl j l' hj
        | false =>
          rw [he] at h
          simp only at h
          injection h with h
          subst h
          refine ⟨?_, ?_, fun b' hb' => ?_, fun h => absurd h (by omega)⟩
          · rw [hidx, ← hfi]
            simp
          · intro b' hb' j l' hj
            simp only [Option.toList_some, List.mem_append, List.mem_singleton] at hb'
            rcases hb' with hb' | rfl
            · exact hp.lines b' (List.mem_append_left _ hb') j l' hj
            · exact hbl j l' hj
          · injection hb' with hb'
            subst hb'
            simp
            omega
    · rename_i hnone
      split at h
      · rename_i hq
        injection h with h
        subst h
        rw [if_pos (block_cuts hq.1)] at hidx
        have hfi := hp.firsts
        rw [hnone] at hfi
        refine ⟨?_, ?_, fun b' hb' => ?_, fun h => absurd h (by omega)⟩
        · simp only [Option.toList_none, List.append_nil] at hfi
          rw [hidx]
          simp [hfi]
        · intro b' hb' j l' hj
          simp only [Option.toList_some, List.mem_append, List.mem_singleton] at hb'
          rcases hb' with hb' | rfl
          · exact hp.lines b' (List.mem_append_left _ hb') j l' hj
          · simp at hj
        · injection hb' with hb'
          subst hb'
          simp
      · cases h
theorem lines_run {T0 : List BA} {mb : Nat} : ∀ (T : List BA) (i : Nat) (p q : PG), T = T0.drop i → i ≤ T0.length → runL 0 mb i T p = .ok q → LinesOf T0 i p → LinesOf T0 T0.length q ∧ q.cur = none
  | [], i, p, q, hT, hi, h, hp => by
    unfold runL at h
    split at h
    · rename_i hc
      injection h with h
      subst h
      have hl : i = T0.length := by
        have := congrArg List.length hT
        simp at this
        omega
      subst hl
      exact ⟨hp, by simpa using hc.1⟩
    · cases h
  | s :: r, i, p, q, hT, hi, h, hp => by
    unfold runL at h
    have hs : T0[i]? = some s := by
      have := congrArg (·[0]?) hT
      simp at this
      rw [← this]
    cases hst : stepL 0 mb i s p with
    | none => rw [hst] at h; cases h
    | some p' =>
      rw [hst] at h
      have hlt := (List.getElem?_eq_some_iff.1 hs).1
      refine lines_run r (i + 1) p' q ?_ (by omega) h (lines_step hs hst hp)
      have := congrArg (List.drop 1) hT
      simpa [List.drop_drop, Nat.add_comm] using this
/-- Of a text that is a program: where its blocks begin, and what their lines say. -/
theorem prog_lines {s : BA} {A : List Ver} {bs : List BlockG} (h : progG s = .ok (A, bs)) : bs.map (·.first) = (blkIdx 0 (cuts 10 s)).map (· + 1) ∧ ∀ b ∈ bs, ∀ (j : Nat) l, b.lines[j]? = some l → ∃ x, (cuts 10 s)[b.first + j]? = some x ∧ lineOf 0 (cuts 32 x) = some l := by
  unfold progG at h
  split at h
  · cases h
  · rename_i a bs' hr
    split at h
    · cases h
    · injection h with h
      injection h with h1 h2
      subst h1 h2
      unfold readG at hr
      split at hr
      · cases hr
      · split at hr
        · cases hr
        · rename_i q hq
          split at hr
          · cases hr
          · injection hr with hr
            injection hr with h1 h2
            subst h1 h2
            obtain ⟨g1, g2⟩ := lines_run (T0 := cuts 10 s) (cuts 10 s) 0 _ q (by simp) (by omega) hq ⟨by simp [blkIdx], by simp, fun b hb => (by cases hb), fun _ => ⟨rfl, rfl⟩⟩
            have hf := g1.firsts
            have hl := g1.lines
            rw [g2] at hf hl
            rw [List.take_length] at hf
            simp only [Option.toList_none, List.append_nil] at hf hl
            exact ⟨hf, hl⟩

end Go.Proofs.YtbddcodljmglfaaGreatDoor
