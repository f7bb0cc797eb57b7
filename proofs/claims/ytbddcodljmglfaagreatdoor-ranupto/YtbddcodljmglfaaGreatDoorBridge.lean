/- The bridge between the document's words and the program's: of no run. -/
import Derived.Test.YtbddcodljmglfaaGreatDoorRT10
import Derived.Test.YtbddcodljmglfaaGreatDoorReadSpec
set_option linter.unusedSimpArgs false
set_option linter.unusedVariables false
namespace Go.Proofs.YtbddcodljmglfaaGreatDoor

theorem readVer0 (s : BA) : readVer 0 s = if isNm s = true then some (s, 0) else none := by unfold readVer; rw [if_pos rfl]
theorem readVer0_some (s : BA) : (readVer 0 s).isSome = isNm s := by
  rw [readVer0]
  split <;> simp [*]

theorem argsGo0 : ∀ (bs : List BA) (acc : List Ver), (∀ v ∈ acc, v.2 = 0) →
    ((argsGo 0 acc bs).isSome = true ↔ ∀ (k : Nat) (b : BA), bs[k]? = some b → isNm b = true ∧ (b, 0) ∉ acc ∧ ∀ (j : Nat) (c : BA), j < k → bs[j]? = some c → c ≠ b) ∧ ∀ A, argsGo 0 acc bs = some A → A = acc ++ bs.map (fun b => (b, 0))
  | [], acc, _ => by
    refine ⟨by simp [argsGo], fun A h => ?_⟩
    simp [argsGo] at h
    simp [h]
  | x :: r, acc, hacc => by
    unfold argsGo
    rw [readVer0]
    by_cases hx : isNm x = true
    · rw [if_pos hx]
      simp only
      by_cases hh : verHas acc (x, 0) = false
      · rw [if_pos ⟨trivial, hh⟩]
        have hmem : (x, 0) ∉ acc := fun h => by rw [verHas_iff.2 h] at hh; cases hh
        obtain ⟨h1, h2⟩ := argsGo0 r (acc ++ [(x, 0)]) (by
          intro v hv
          rcases List.mem_append.1 hv with hv | hv
          · exact hacc v hv
          · simp at hv; subst hv; rfl)
        refine ⟨?_, fun A h => by rw [h2 A h]; simp⟩
        rw [h1]
        constructor
        · intro h k b hk
          cases k with
          | zero =>
            simp at hk
            subst hk
            exact ⟨hx, hmem, fun j c hj => absurd hj (by omega)⟩
          | succ k =>
            obtain ⟨a1, a2, a3⟩ := h k b (by simpa using hk)
            refine ⟨a1, fun hm => a2 (List.mem_append_left _ hm), fun j c hj hc => ?_⟩
            cases j with
            | zero =>
              simp at hc
              subst hc
              intro e
              subst e
              exact a2 (by simp)
            | succ j => exact a3 j c (by omega) (by simpa using hc)
        · intro h k b hk
          obtain ⟨a1, a2, a3⟩ := h (k + 1) b (by simpa using hk)
          refine ⟨a1, ?_, fun j c hj hc => a3 (j + 1) c (by omega) (by simpa using hc)⟩
          intro hm
          rcases List.mem_append.1 hm with hm | hm
          · exact a2 hm
          · simp at hm
            exact a3 0 x (by omega) (by simp) hm.symm
      · rw [if_neg (fun h => hh h.2)]
        have hmem : (x, 0) ∈ acc := verHas_iff.1 (by simpa using hh)
        refine ⟨?_, fun A h => by cases h⟩
        constructor
        · intro h; cases h
        · intro h; exact absurd hmem (h 0 x (by simp)).2.1
    · rw [if_neg hx]
      refine ⟨?_, fun A h => by cases h⟩
      constructor
      · intro h; cases h
      · intro h; exact absurd (h 0 x (by simp)).1 hx

theorem argsOf_cons (tg : Nat) (w : BA) (bs : List BA) : argsOf tg (w :: bs) = if ByteArray.toList w = [97, 114, 103, 115] ∧ bs.length ≤ 4 then argsGo tg [] bs else none := rfl
theorem lineOf_cons (tg : Nat) (w : BA) (bs : List BA) : lineOf tg (w :: bs) = match kindOf w with | some k => fillG tg (partsOf k) bs ⟨k, noVer, [], 0, []⟩ | none => none := rfl
theorem args_bridge (x0 : BA) (bs : List BA) : argsR 0 x0 (x0 :: bs) ↔ (argsOf 0 (x0 :: bs)).isSome = true := by
  unfold argsR
  rw [argsOf_cons]
  by_cases h0 : ByteArray.toList x0 = [97, 114, 103, 115] ∧ bs.length ≤ 4
  · rw [if_pos h0, (argsGo0 bs [] (by simp)).1]
    constructor
    · rintro ⟨-, -, h⟩ k b hk
      obtain ⟨a1, -, a3⟩ := h (k + 1) (by omega) b (by simpa using hk)
      exact ⟨by rw [readVer0_some] at a1; exact a1, by simp, fun j c hj hc => a3 (j + 1) c (by omega) (by omega) (by simpa using hc)⟩
    · intro h
      refine ⟨h0.1, by simp; omega, fun i hi x hx => ?_⟩
      obtain ⟨k, rfl⟩ : ∃ k, i = k + 1 := ⟨i - 1, by omega⟩
      obtain ⟨a1, -, a3⟩ := h k x (by simpa using hx)
      refine ⟨by rw [readVer0_some]; exact a1, fun h => absurd h (by decide), fun j y h1 h2 hy => ?_⟩
      obtain ⟨m, rfl⟩ : ∃ m, j = m + 1 := ⟨j - 1, by omega⟩
      exact a3 m y (by omega) (by simpa using hy)
  · rw [if_neg h0]
    constructor
    · rintro ⟨h1, h2, -⟩
      exact absurd ⟨h1, by simp at h2; omega⟩ h0
    · intro h; cases h
theorem args_names {x0 : BA} {bs : List BA} {A : List Ver} (h : argsOf 0 (x0 :: bs) = some A) : A = bs.map (fun b => (b, 0)) := by
  rw [argsOf_cons] at h
  split at h
  · have := (argsGo0 bs [] (by simp)).2 A h
    simpa using this
  · cases h

theorem addPart_ok (tg p : Nat) (b : BA) (l : LineG) : (addPart tg p b l).isSome = partOk tg p b := by
  unfold addPart partOk
  by_cases h1 : p = 1
  · simp [h1]; cases readVer tg b <;> rfl
  · by_cases h2 : p = 2
    · simp [h2]; cases readVer tg b <;> rfl
    · by_cases h3 : p = 3
      · simp [h3]; cases numB b <;> rfl
      · simp [h1, h2, h3]; cases blkB b <;> rfl
theorem addPart_what {p : Nat} {b : BA} {l l' : LineG} (h : addPart 0 p b l = some l') :
    l'.word = l.word ∧ l'.sets = (if p = 1 then (b, 0) else l.sets) ∧ l'.takes = l.takes ++ (if p = 2 then [(b, 0)] else []) ∧ l'.leads = l.leads ++ (if p = 1 ∨ p = 2 ∨ p = 3 then [] else [(blkB b).getD 0]) := by
  unfold addPart at h
  rw [readVer0] at h
  by_cases h1 : p = 1
  · subst h1
    simp only [if_true] at h
    by_cases hn : isNm b = true
    · rw [if_pos hn] at h; simp at h; subst h; simp
    · rw [if_neg hn] at h; cases h
  · rw [if_neg h1] at h
    by_cases h2 : p = 2
    · subst h2
      simp only [if_true] at h
      by_cases hn : isNm b = true
      · rw [if_pos hn] at h; simp at h; subst h; simp
      · rw [if_neg hn] at h; cases h
    · rw [if_neg h2] at h
      by_cases h3 : p = 3
      · subst h3
        simp only [if_true] at h
        cases hb : numB b with
        | none => rw [hb] at h; cases h
        | some v => rw [hb] at h; simp at h; subst h; simp
      · rw [if_neg h3] at h
        cases hb : blkB b with
        | none => rw [hb] at h; cases h
        | some v => rw [hb] at h; simp at h; subst h; simp [h1, h2, h3]

theorem fillG_ok (tg : Nat) : ∀ (ps : List Nat) (bs : List BA) (l : LineG), (fillG tg ps bs l).isSome = true ↔ bs.length = ps.length ∧ ∀ (j p : Nat) (x : BA), ps[j]? = some p → bs[j]? = some x → partOk tg p x = true
  | [], [], l => by simp [fillG]
  | [], _ :: _, l => by simp [fillG]
  | _ :: _, [], l => by simp [fillG]
  | p :: ps, b :: bs, l => by
    unfold fillG
    have h0 := addPart_ok tg p b l
    cases ha : addPart tg p b l with
    | none =>
      rw [ha] at h0
      constructor
      · intro h; cases h
      · rintro ⟨-, h⟩
        have := h 0 p b (by simp) (by simp)
        rw [← h0] at this
        cases this
    | some l' =>
      rw [ha] at h0
      simp only
      rw [fillG_ok tg ps bs l']
      constructor
      · rintro ⟨h1, h2⟩
        refine ⟨by simp [h1], fun j q x hq hx => ?_⟩
        cases j with
        | zero =>
          simp at hq hx
          subst hq hx
          exact h0.symm
        | succ j => exact h2 j q x (by simpa using hq) (by simpa using hx)
      · rintro ⟨h1, h2⟩
        exact ⟨by simpa using h1, fun j q x hq hx => h2 (j + 1) q x (by simpa using hq) (by simpa using hx)⟩

theorem fillG_what : ∀ (ps : List Nat) (bs : List BA) (l l' : LineG), (∀ p ∈ ps, p = 1 ∨ p = 2 ∨ p = 3 ∨ p = 4) → fillG 0 ps bs l = some l' → l'.word = l.word ∧ l'.takes = l.takes ++ (takesG ps bs).map (fun b => (b, 0)) ∧ l'.leads = l.leads ++ leadsG ps bs
  | [], [], l, l', _, h => by simp [fillG] at h; subst h; simp [takesG, leadsG]
  | [], _ :: _, l, l', _, h => by simp [fillG] at h
  | _ :: _, [], l, l', _, h => by simp [fillG] at h
  | p :: ps, b :: bs, l, l', hp, h => by
    unfold fillG at h
    split at h
    · rename_i m hm
      obtain ⟨a1, -, a3, a4⟩ := addPart_what hm
      obtain ⟨b1, b2, b3⟩ := fillG_what ps bs m l' (fun q hq => hp q (List.mem_cons_of_mem _ hq)) h
      refine ⟨b1.trans a1, ?_, ?_⟩
      · rw [b2, a3]
        by_cases h2 : p = 2
        · simp [takesG, h2]
        · simp [takesG, h2]
      · rw [b3, a4]
        rcases hp p (by simp) with rfl | rfl | rfl | rfl <;> simp [leadsG]
    · cases h

theorem plain_bridge (x0 : BA) (bs : List BA) : plainR 0 x0 (x0 :: bs) ↔ (lineOf 0 (x0 :: bs)).isSome = true := by
  unfold plainR
  rw [lineOf_cons]
  cases hk : kindOf x0 with
  | none => simp
  | some kd =>
    simp only []
    rw [fillG_ok]
    constructor
    · rintro ⟨kd', h, h1, h2⟩
      injection h with h
      subst h
      exact ⟨by simpa using h1, fun j p x hp hx => h2 j p x hp (by simpa using hx)⟩
    · rintro ⟨h1, h2⟩
      exact ⟨kd, rfl, by simp [h1], fun j p x hp hx => h2 j p x hp (by simpa using hx)⟩
theorem line_what {x0 : BA} {bs : List BA} {l : LineG} (h : lineOf 0 (x0 :: bs) = some l) : kindOf x0 = some l.word ∧ l.takes = (takesR x0 (x0 :: bs)).map (fun b => (b, 0)) ∧ l.leads = leadsR x0 (x0 :: bs) := by
  rw [lineOf_cons] at h
  unfold takesR leadsR
  cases hk : kindOf x0 with
  | none => rw [hk] at h; cases h
  | some kd =>
    rw [hk] at h
    obtain ⟨h1, h2, h3⟩ := fillG_what _ _ _ _ (parts_range ⟨kd, kindOf_lt hk⟩) h
    exact ⟨by rw [h1], by simpa using h2, by simpa using h3⟩

end Go.Proofs.YtbddcodljmglfaaGreatDoor
