/- The bridge between the document's words and the program's: of no run. And what follows on it. -/
import Derived.Test.YtbddcodljmglfaaGreatDoorTextA
import Derived.Test.YtbddcodljmglfaaGreatDoorMathA
set_option linter.unusedSimpArgs false
set_option linter.unusedVariables false
namespace Go.Proofs.YtbddcodljmglfaaGreatDoor

theorem readVer0 (s : BA) : readVer 0 s = if isNm s = true then some (s, 0) else none := by unfold readVer; rw [if_pos rfl]
theorem readVer0_some (s : BA) : (readVer 0 s).isSome = isNm s := by
  rw [readVer0]
  split <;> simp [*]

theorem argsGo0 : ∀ (bs : List BA) (acc : List Ver), (∀ v ∈ acc, v.2 = 0) →
    ((argsGo 0 acc bs).isSome = true ↔ ∀ (k : Nat) (b : BA), bs[k]? = some b → isNm b = true ∧ (b, 0) ∉ acc ∧ ∀ (j : Nat) (c : BA), j < k → bs[j]? = some c → c ≠ b) ∧ ∀ A, argsGo 0 acc bs = some A → A = acc ++ bs.map (fun b => (b, 0))
  | [], acc, _ => by
    refine ⟨by simp [argsGo], fun A h => ?_⟩
    simp [argsGo] at h
    simp [h]
  | x :: r, acc, hacc => by
    unfold argsGo
    rw [readVer0]
    by_cases hx : isNm x = true
    · rw [if_pos hx]
      simp only
      by_cases hh : verHas acc (x, 0) = false
      · rw [if_pos ⟨trivial, hh⟩]
        have hmem : (x, 0) ∉ acc := fun h => by rw [verHas_iff.2 h] at hh; cases hh
        obtain ⟨h1, h2⟩ := argsGo0 r (acc ++ [(x, 0)]) (by
          intro v hv
          rcases List.mem_append.1 hv with hv | hv
          · exact hacc v hv
          · simp at hv; subst hv; rfl)
        refine ⟨?_, fun A h => by rw [h2 A h]; simp⟩
        rw [h1]
        constructor
        · intro h k b hk
          cases k with
          | zero =>
            simp at hk
            subst hk
            exact ⟨hx, hmem, fun j c hj => absurd hj (by omega)⟩
          | succ k =>
            obtain ⟨a1, a2, a3⟩ := h k b (by simpa using hk)
            refine ⟨a1, fun hm => a2 (List.mem_append_left _ hm), fun j c hj hc => ?_⟩
            cases j with
            | zero =>
              simp at hc
              subst hc
              intro e
              subst e
              exact a2 (by simp)
            | succ j => exact a3 j c (by omega) (by simpa using hc)
        · intro h k b hk
          obtain ⟨a1, a2, a3⟩ := h (k + 1) b (by simpa using hk)
          refine ⟨a1, ?_, fun j c hj hc => a3 (j + 1) c (by omega) (by simpa using hc)⟩
          intro hm
          rcases List.mem_append.1 hm with hm | hm
          · exact a2 hm
          · simp at hm
            exact a3 0 x (by omega) (by simp) hm.symm
      · rw [if_neg (fun h => hh h.2)]
        have hmem : (x, 0) ∈ acc := verHas_iff.1 (by simpa using hh)
        refine ⟨?_, fun A h => by cases h⟩
        constructor
        · intro h; cases h
        · intro h; exact absurd hmem (h 0 x (by simp)).2.1
    · rw [if_neg hx]
      refine ⟨?_, fun A h => by cases h⟩
      constructor
      · intro h; cases h
      · intro h; exact absurd (h 0 x (by simp)).1 hx

theorem argsOf_cons (tg : Nat) (w : BA) (bs : List BA) : argsOf tg (w :: bs) = if ByteArray.toList w = [97, 114, 103, 115] ∧ bs.length ≤ 4 then argsGo tg [] bs else none := rfl
theorem lineOf_cons (tg : Nat) (w : BA) (bs : List BA) : lineOf tg (w :: bs) = match kindOf w with | some k => fillG tg (partsOf k) bs ⟨k, noVer, [], 0, []⟩ | none => none := rfl
theorem args_bridge (x0 : BA) (bs : List BA) : argsR 0 x0 (x0 :: bs) ↔ (argsOf 0 (x0 :: bs)).isSome = true := by
  unfold argsR
  rw [argsOf_cons]
  by_cases h0 : ByteArray.toList x0 = [97, 114, 103, 115] ∧ bs.length ≤ 4
  · rw [if_pos h0, (argsGo0 bs [] (by simp)).1]
    constructor
    · rintro ⟨-, -, h⟩ k b hk
      obtain ⟨a1, -, a3⟩ := h (k + 1) (by omega) b (by simpa using hk)
      exact ⟨by rw [readVer0_some] at a1; exact a1, by simp, fun j c hj hc => a3 (j + 1) c (by omega) (by omega) (by simpa using hc)⟩
    · intro h
      refine ⟨h0.1, by simp; omega, fun i hi x hx => ?_⟩
      obtain ⟨k, rfl⟩ : ∃ k, i = k + 1 := ⟨i - 1, by omega⟩
      obtain ⟨a1, -, a3⟩ := h k x (by simpa using hx)
      refine ⟨by rw [readVer0_some]; exact a1, fun h => absurd h (by decide), fun j y h1 h2 hy => ?_⟩
      obtain ⟨m, rfl⟩ : ∃ m, j = m + 1 := ⟨j - 1, by omega⟩
      exact a3 m y (by omega) (by simpa using hy)
  · rw [if_neg h0]
    constructor
    · rintro ⟨h1, h2, -⟩
      exact absurd ⟨h1, by simp at h2; omega⟩ h0
    · intro h; cases h
theorem args_names {x0 : BA} {bs : List BA} {A : List Ver} (h : argsOf 0 (x0 :: bs) = some A) : A = bs.map (fun b => (b, 0)) := by
  rw [argsOf_cons] at h
  split at h
  · have := (argsGo0 bs [] (by simp)).2 A h
    simpa using this
  · cases h

theorem addPart_ok (tg p : Nat) (b : BA) (l : LineG) : (addPart tg p b l).isSome = partOk tg p b := by
  unfold addPart partOk
  by_cases h1 : p = 1
  · simp [h1]; cases readVer tg b <;> rfl
  · by_cases h2 : p = 2
    · simp [h2]; cases readVer tg b <;> rfl
    · by_cases h3 : p = 3
      · simp [h3]; cases numB b <;> rfl
      · simp [h1, h2, h3]; cases blkB b <;> rfl
theorem addPart_what {p : Nat} {b : BA} {l l' : LineG} (h : addPart 0 p b l = some l') :
    l'.word = l.word ∧ l'.sets = (if p = 1 then (b, 0) else l.sets) ∧ l'.takes = l.takes ++ (if p = 2 then [(b, 0)] else []) ∧ l'.leads = l.leads ++ (if p = 1 ∨ p = 2 ∨ p = 3 then [] else [(blkB b).getD 0]) := by
  unfold addPart at h
  rw [readVer0] at h
  by_cases h1 : p = 1
  · subst h1
    simp only [if_true] at h
    by_cases hn : isNm b = true
    · rw [if_pos hn] at h; simp at h; subst h; simp
    · rw [if_neg hn] at h; cases h
  · rw [if_neg h1] at h
    by_cases h2 : p = 2
    · subst h2
      simp only [if_true] at h
      by_cases hn : isNm b = true
      · rw [if_pos hn] at h; simp at h; subst h; simp
      · rw [if_neg hn] at h; cases h
    · rw [if_neg h2] at h
      by_cases h3 : p = 3
      · subst h3
        simp only [if_true] at h
        cases hb : numB b with
        | none => rw [hb] at h; cases h
        | some v => rw [hb] at h; simp at h; subst h; simp
      · rw [if_neg h3] at h
        cases hb : blkB b with
        | none => rw [hb] at h; cases h
        | some v => rw [hb] at h; simp at h; subst h; simp [h1, h2, h3]

theorem fillG_ok (tg : Nat) : ∀ (ps : List Nat) (bs : List BA) (l : LineG), (fillG tg ps bs l).isSome = true ↔ bs.length = ps.length ∧ ∀ (j p : Nat) (x : BA), ps[j]? = some p → bs[j]? = some x → partOk tg p x = true
  | [], [], l => by simp [fillG]
  | [], _ :: _, l => by simp [fillG]
  | _ :: _, [], l => by simp [fillG]
  | p :: ps, b :: bs, l => by
    unfold fillG
    have h0 := addPart_ok tg p b l
    cases ha : addPart tg p b l with
    | none =>
      rw [ha] at h0
      constructor
      · intro h; cases h
      · rintro ⟨-, h⟩
        have := h 0 p b (by simp) (by simp)
        rw [← h0] at this
        cases this
    | some l' =>
      rw [ha] at h0
      simp only
      rw [fillG_ok tg ps bs l']
      constructor
      · rintro ⟨h1, h2⟩
        refine ⟨by simp [h1], fun j q x hq hx => ?_⟩
        cases j with
        | zero =>
          simp at hq hx
          subst hq hx
          exact h0.symm
        | succ j => exact h2 j q x (by simpa using hq) (by simpa using hx)
      · rintro ⟨h1, h2⟩
        exact ⟨by simpa using h1, fun j q x hq hx => h2 (j + 1) q x (by simpa using hq) (by simpa using hx)⟩

theorem fillG_what : ∀ (ps : List Nat) (bs : List BA) (l l' : LineG), (∀ p ∈ ps, p = 1 ∨ p = 2 ∨ p = 3 ∨ p = 4) → fillG 0 ps bs l = some l' → l'.word = l.word ∧ l'.takes = l.takes ++ (takesG ps bs).map (fun b => (b, 0)) ∧ l'.leads = l.leads ++ leadsG ps bs
  | [], [], l, l', _, h => by simp [fillG] at h; subst h; simp [takesG, leadsG]
  | [], _ :: _, l, l', _, h => by simp [fillG] at h
  | _ :: _, [], l, l', _, h => by simp [fillG] at h
  | p :: ps, b :: bs, l, l', hp, h => by
    unfold fillG at h
    split at h
    · rename_i m hm
      obtain ⟨a1, -, a3, a4⟩ := addPart_what hm
      obtain ⟨b1, b2, b3⟩ := fillG_what ps bs m l' (fun q hq => hp q (List.mem_cons_of_mem _ hq)) h
      refine ⟨b1.trans a1, ?_, ?_⟩
      · rw [b2, a3]
        by_cases h2 : p = 2
        · simp [takesG, h2]
        · simp [takesG, h2]
      · rw [b3, a4]
        rcases hp p (by simp) with rfl | rfl | rfl | rfl <;> simp [leadsG]
    · cases h

theorem plain_bridge (x0 : BA) (bs : List BA) : plainR 0 x0 (x0 :: bs) ↔ (lineOf 0 (x0 :: bs)).isSome = true := by
  unfold plainR
  rw [lineOf_cons]
  cases hk : kindOf x0 with
  | none => simp
  | some kd =>
    simp only []
    rw [fillG_ok]
    constructor
    · rintro ⟨kd', h, h1, h2⟩
      injection h with h
      subst h
      exact ⟨by simpa using h1, fun j p x hp hx => h2 j p x hp (by simpa using hx)⟩
    · rintro ⟨h1, h2⟩
      exact ⟨kd, rfl, by simp [h1], fun j p x hp hx => h2 j p x hp (by simpa using hx)⟩
theorem line_what {x0 : BA} {bs : List BA} {l : LineG} (h : lineOf 0 (x0 :: bs) = some l) : kindOf x0 = some l.word ∧ l.takes = (takesR x0 (x0 :: bs)).map (fun b => (b, 0)) ∧ l.leads = leadsR x0 (x0 :: bs) := by
  rw [lineOf_cons] at h
  unfold takesR leadsR
  cases hk : kindOf x0 with
  | none => rw [hk] at h; cases h
  | some kd =>
    rw [hk] at h
    obtain ⟨h1, h2, h3⟩ := fillG_what _ _ _ _ (parts_range ⟨kd, kindOf_lt hk⟩) h
    exact ⟨by rw [h1], by simpa using h2, by simpa using h3⟩

end Go.Proofs.YtbddcodljmglfaaGreatDoor

namespace Go.Proofs.YtbddcodljmglfaaGreatDoor

def hd (ws : List BA) : BA := ws.headD ByteArray.empty
def isBlock (x : BA) : Bool := ByteArray.toList x == [98, 108, 111, 99, 107]
def standsB (i nb : Nat) (last : BA) (ws : List BA) : Bool :=
  if i = 0 then (argsOf 0 ws).isSome
  else if isBlock (hd ws) = true then decide (ws.length = 1) && !(decide (1 < i) && !endsW last) && decide (nb < 20)
  else (decide (1 < i) && !endsW last) && (lineOf 0 ws).isSome
theorem standsB_iff (i nb : Nat) (x0 last : BA) (bs : List BA) : standsB i nb last (x0 :: bs) = true ↔ standsR i nb x0 last (x0 :: bs) := by
  unfold standsB standsR
  by_cases hi : i = 0
  · rw [if_pos hi, if_pos hi, args_bridge]
  · rw [if_neg hi, if_neg hi]
    by_cases hb : ByteArray.toList x0 = [98, 108, 111, 99, 107]
    · rw [if_pos (by simpa [isBlock, hd] using hb), if_pos hb]
      have e1 : (x0 :: bs).length = 1 ↔ bs = [] := by simp
      by_cases h1 : bs = [] <;> by_cases h2 : 1 < i <;> by_cases h3 : nb < 20 <;> cases endsW last <;> simp [h1, h2, h3] <;> omega
    · rw [if_neg (by simpa [isBlock, hd] using hb), if_neg hb, plain_bridge]
      cases endsW last <;> simp

/-- The document's loop: how many blocks there are, or the line by which it is seen that there is no program. -/
def docL : Nat → Nat → BA → List BA → Except Nat Nat
  | i, nb, last, [] => if endsW last = true then .ok nb else .error i
  | i, nb, last, s :: r => if standsB i nb last (cuts 32 s) = true then docL (i + 1) (if isBlock (hd (cuts 32 s)) = true then nb + 1 else nb) (hd (cuts 32 s)) r else .error i

theorem cuts_cons (s : BA) : ∃ x bs, cuts 32 s = x :: bs := by
  cases h : cuts 32 s with
  | nil => exact absurd h (cuts_ne 32 s)
  | cons x bs => exact ⟨x, bs, rfl⟩
theorem cutsB_one (c : UInt8) : ∀ (l x : List UInt8), cutsB c l = [x] → x = l
  | [], x, h => by simp [cutsB] at h; exact h
  | b :: r, x, h => by
    unfold cutsB at h
    split at h
    · exact absurd (List.cons.inj h).2 (cutsB_ne c r)
    · split at h
      · rename_i hq
        exact absurd hq (cutsB_ne c r)
      · rename_i y ys hq
        obtain ⟨h1, h2⟩ := List.cons.inj h
        subst h2
        have := cutsB_one c r y hq
        rw [← h1, this]
theorem cuts_one {s x : BA} (h : cuts 32 s = [x]) : x = s := by
  unfold cuts at h
  cases hq : cutsB 32 s.data.toList with
  | nil => rw [hq] at h; cases h
  | cons y ys =>
    rw [hq] at h
    obtain ⟨h1, h2⟩ := List.cons.inj h
    have : ys = [] := by simpa using h2
    subst this
    rw [← h1, cutsB_one 32 _ _ hq, ofL_toList]
theorem cuts_block {s : BA} (h : ByteArray.toList s = [98, 108, 111, 99, 107]) : cuts 32 s = [s] := by
  have hs : s = ⟨#[98, 108, 111, 99, 107]⟩ := by
    apply ba_ext
    rw [h, ByteArray.toList_eq]
  subst hs
  unfold cuts
  have : cutsB 32 (#[98, 108, 111, 99, 107] : Array UInt8).toList = [[98, 108, 111, 99, 107]] := by decide
  rw [this]
  rfl
theorem kind_block {x : BA} (h : isBlock x = true) : kindOf x = none := by
  have : ByteArray.toList x = [98, 108, 111, 99, 107] := by simpa [isBlock] using h
  unfold kindOf
  rw [this]
  rfl
theorem ends_block {x : BA} (h : isBlock x = true) : endsW x = false := by unfold endsW; rw [kind_block h]

/-- What the two have in common ahead of line i. -/
structure Rel (i : Nat) (p : PG) (nb : Nat) (last : BA) : Prop where
  cnt : nb = p.closed.length + (if p.cur.isSome = true then 1 else 0)
  start : i ≤ 1 → p.closed = [] ∧ p.cur = none
  ends : i = 1 → endsW last = false
  cur : 1 < i → (p.cur.isSome = true ↔ endsW last = false)
  some1 : 1 < i → 1 ≤ nb
  here : ∀ b, p.cur = some b → b.phis = [] ∧ b.first + b.lines.length = i

theorem rel_end {i nb : Nat} {p : PG} {last : BA} (h : Rel i p nb last) (hi : 0 < i) : (p.cur.isNone = true ∧ p.closed.length ≠ 0) ↔ endsW last = true := by
  by_cases h1 : i = 1
  · rw [h.ends h1, (h.start (by omega)).1]
    simp
  · have h2 := h.cur (by omega)
    have h3 := h.some1 (by omega)
    have h4 := h.cnt
    cases hc : p.cur with
    | none =>
      rw [hc] at h2 h4
      simp at h2 h4
      simp [h2]
      intro hq
      rw [hq] at h4
      simp at h4
      omega
    | some b =>
      rw [hc] at h2
      simp at h2
      simp [h2]

theorem rel_step {i nb : Nat} {p : PG} {last : BA} (h : Rel i p nb last) (s : BA) :
    (∀ p', stepL 0 20 i s p = some p' → standsB i nb last (cuts 32 s) = true ∧ Rel (i + 1) p' (if isBlock (hd (cuts 32 s)) = true then nb + 1 else nb) (hd (cuts 32 s))) ∧ (stepL 0 20 i s p = none → standsB i nb last (cuts 32 s) = false) := by
  obtain ⟨x0, bs, hc⟩ := cuts_cons s
  rw [hc]
  have hhd : hd (x0 :: bs) = x0 := rfl
  rw [hhd]
  unfold stepL standsB
  rw [hc, hhd]
  by_cases hi : i = 0
  · rw [if_pos hi, if_pos hi]
    cases ha : argsOf 0 (x0 :: bs) with
    | none => exact ⟨fun p' h => (by cases h), fun _ => rfl⟩
    | some a =>
      refine ⟨fun p' hp => ?_, fun hp => (by cases hp)⟩
      injection hp with hp
      subst hp
      have hx : ByteArray.toList x0 = [97, 114, 103, 115] := by
        rw [argsOf_cons] at ha
        split at ha
        · rename_i hq; exact hq.1
        · cases ha
      have hb : isBlock x0 = false := by unfold isBlock; rw [hx]; rfl
      have he : endsW x0 = false := by unfold endsW kindOf; rw [hx]; rfl
      have hst := h.start (by omega)
      refine ⟨rfl, ?_, fun _ => hst, fun _ => he, fun h1 => absurd h1 (by omega), fun h1 => absurd h1 (by omega), fun b hb => (by rw [show _ = none from hst.2] at hb; cases hb)⟩
      rw [hb]
      exact h.cnt
  · rw [if_neg hi, if_neg hi]
    cases hcur : p.cur with
    | some b =>
      have hi1 : 1 < i := by
        by_cases h1 : i ≤ 1
        · have := (h.start h1).2; rw [hcur] at this; cases this
        · omega
      have hlast : endsW last = false := (h.cur hi1).1 (by rw [hcur]; rfl)
      have hhere := h.here b hcur
      have hnb := h.cnt
      rw [hcur] at hnb
      simp at hnb
      have hin : inB 0 b s = match lineOf 0 (x0 :: bs) with | some l => some ({ b with lines := b.lines ++ [l] }, endsK l.word) | none => none := by
        unfold inB
        rw [if_neg (by omega), hc]
        cases lineOf 0 (x0 :: bs) <;> rfl
      simp only [hin]
      by_cases hb : isBlock x0 = true
      · have hl : lineOf 0 (x0 :: bs) = none := by rw [lineOf_cons, kind_block hb]
        rw [hl, if_pos hb]
        exact ⟨fun p' h => (by cases h), fun _ => by simp [hi1, hlast]⟩
      · rw [if_neg hb]
        cases hl : lineOf 0 (x0 :: bs) with
        | none => exact ⟨fun p' h => (by cases h), fun _ => by simp⟩
        | some l =>
          have hw := (line_what hl).1
          have he : endsW x0 = endsK l.word := by unfold endsW; rw [hw]
          refine ⟨fun p' hp => ⟨by simp [hi1, hlast], ?_⟩, fun hp => ?_⟩
          · rw [if_neg hb]
            cases hk : endsK l.word with
            | true =>
              rw [hk] at he
              simp [hk] at hp
              subst hp
              exact ⟨by simp [hnb], fun h1 => absurd h1 (by omega), fun h1 => absurd h1 (by omega), fun _ => by simp [he], fun _ => by omega, fun c hcc => by cases hcc⟩
            | false =>
              rw [hk] at he
              simp [hk] at hp
              subst hp
              exact ⟨by simp [hnb], fun h1 => absurd h1 (by omega), fun h1 => absurd h1 (by omega), fun _ => by simp [he], fun _ => by omega, fun c hcc => by injection hcc with hcc; subst hcc; exact ⟨hhere.1, by simp; omega⟩⟩
          · cases hk : endsK l.word with
            | true => simp [hk] at hp
            | false => simp [hk] at hp
    | none =>
      have hnin : (decide (1 < i) && !endsW last) = false := by
        by_cases h1 : 1 < i
        · have := h.cur h1
          rw [hcur] at this
          simp at this
          simp [this]
        · simp [h1]
      have hnb := h.cnt
      rw [hcur] at hnb
      simp at hnb
      rw [hnin]
      simp only
      by_cases hb : isBlock x0 = true
      · rw [if_pos hb, if_pos hb]
        have hbx : ByteArray.toList x0 = [98, 108, 111, 99, 107] := by simpa [isBlock] using hb
        by_cases hq : ByteArray.toList s = [98, 108, 111, 99, 107] ∧ p.closed.length < 20
        · rw [if_pos hq]
          have hone := cuts_block hq.1
          rw [hc] at hone
          obtain ⟨-, h2⟩ := List.cons.inj hone
          subst h2
          refine ⟨fun p' hp => ?_, fun hp => (by cases hp)⟩
          injection hp with hp
          subst hp
          refine ⟨by simp [hnb, hq.2], ⟨by simp [hnb], fun h1 => absurd h1 (by omega), fun h1 => absurd h1 (by omega), fun _ => by simp [ends_block hb], fun _ => by omega, fun c hcc => by injection hcc with hcc; subst hcc; exact ⟨rfl, by simp⟩⟩⟩
        · rw [if_neg hq]
          refine ⟨fun p' hp => (by cases hp), fun _ => ?_⟩
          by_cases hlen : bs = []
          · subst hlen
            have hxs : x0 = s := cuts_one hc
            subst hxs
            have : ¬ p.closed.length < 20 := fun h => hq ⟨hbx, h⟩
            simp [hnb, this]
          · have : ¬ (x0 :: bs).length = 1 := by
              intro h
              simp at h
              exact hlen h
            simp [this]
            intro h
            exact absurd h hlen
      · rw [if_neg hb]
        have hq : ¬ (ByteArray.toList s = [98, 108, 111, 99, 107] ∧ p.closed.length < 20) := by
          rintro ⟨hq, -⟩
          have hone := cuts_block hq
          rw [hc] at hone
          obtain ⟨h1, -⟩ := List.cons.inj hone
          subst h1
          exact hb (by simpa [isBlock] using hq)
        rw [if_neg hq]
        exact ⟨fun p' hp => (by cases hp), fun _ => by simp⟩

theorem docL_run : ∀ (T : List BA) (i nb : Nat) (p : PG) (last : BA), Rel i p nb last → 0 < i + T.length →
    (∀ k, runL 0 20 i T p = .error k → docL i nb last T = .error k) ∧ (∀ q, runL 0 20 i T p = .ok q → docL i nb last T = .ok q.closed.length ∧ q.cur = none)
  | [], i, nb, p, last, h, hi => by
    have he := rel_end h (by simpa using hi)
    unfold runL docL
    by_cases hq : endsW last = true
    · rw [if_pos (he.2 hq), if_pos hq]
      have hcn : p.cur = none := by simpa using (he.2 hq).1
      refine ⟨fun k hk => (by cases hk), fun q hk => ?_⟩
      injection hk with hk
      subst hk
      refine ⟨?_, hcn⟩
      rw [h.cnt, hcn]
      simp
    · rw [if_neg (fun hh => hq (he.1 hh)), if_neg hq]
      exact ⟨fun k hk => (by injection hk with hk; rw [hk]), fun q hk => by cases hk⟩
  | s :: r, i, nb, p, last, h, hi => by
    have hs := rel_step h s
    unfold runL docL
    cases hst : stepL 0 20 i s p with
    | none =>
      rw [if_neg (by rw [hs.2 hst]; simp)]
      exact ⟨fun k hk => (by injection hk with hk; rw [hk]), fun q hk => by cases hk⟩
    | some p' =>
      obtain ⟨h1, h2⟩ := hs.1 p' hst
      rw [if_pos h1]
      exact docL_run r (i + 1) _ p' _ h2 (by omega)

end Go.Proofs.YtbddcodljmglfaaGreatDoor

namespace Go.Proofs.YtbddcodljmglfaaGreatDoor

def PG.all (p : PG) : List BlockG := p.closed ++ p.cur.toList
/-- What a step does, told by the blocks. -/
theorem step_shape {i : Nat} {s : BA} {p p' : PG} (h : stepL 0 20 i s p = some p') :
    (i = 0 ∧ p'.all = p.all ∧ argsOf 0 (cuts 32 s) = some p'.args) ∨
    (i ≠ 0 ∧ p'.args = p.args ∧ ∃ b l, p.cur = some b ∧ lineOf 0 (cuts 32 s) = some l ∧ p'.all = p.closed ++ [{ b with lines := b.lines ++ [l] }]) ∨
    (i ≠ 0 ∧ p'.args = p.args ∧ p.cur = none ∧ isBlock (hd (cuts 32 s)) = true ∧ p'.all = p.closed ++ [⟨i + 1, [], []⟩]) := by
  unfold stepL at h
  split at h
  · rename_i hi
    split at h
    · rename_i a ha
      injection h with h
      subst h
      exact .inl ⟨hi, rfl, ha⟩
    · cases h
  · rename_i hi
    split at h
    · rename_i b hb
      have hin : inB 0 b s = match lineOf 0 (cuts 32 s) with | some l => some ({ b with lines := b.lines ++ [l] }, endsK l.word) | none => none := by
        unfold inB
        rw [if_neg (by omega)]
        cases lineOf 0 (cuts 32 s) <;> rfl
      cases hl : lineOf 0 (cuts 32 s) with
      | none => rw [hl] at hin; simp [hin] at h
      | some l =>
        rw [hl] at hin
        cases hk : endsK l.word with
        | true =>
          simp [hin, hk] at h
          subst h
          exact .inr (.inl ⟨hi, rfl, b, l, hb, rfl, by simp [PG.all]⟩)
        | false =>
          simp [hin, hk] at h
          subst h
          exact .inr (.inl ⟨hi, rfl, b, l, hb, rfl, by simp [PG.all]⟩)
    · rename_i hb
      split at h
      · rename_i hq
        injection h with h
        subst h
        refine .inr (.inr ⟨hi, rfl, hb, ?_, by simp [PG.all]⟩)
        rw [cuts_block hq.1]
        simpa [isBlock, hd] using hq.1
      · cases h

theorem lostG_append (n : Nat) : ∀ (A B : List BlockG), lostG n (A ++ B) = (lostG n A).or (lostG n B)
  | [], B => by simp [lostG]
  | a :: A, B => by
    simp only [List.cons_append, lostG]
    cases lostB n a 0 a.lines with
    | some i => simp
    | none => simp only []; exact lostG_append n A B
theorem lostB_snoc (n : Nat) (b b' : BlockG) (h1 : b'.first = b.first) (h2 : b'.phis = b.phis) (l : LineG) : ∀ (ls : List LineG) (j : Nat), lostB n b' j (ls ++ [l]) = (lostB n b j ls).or (if l.leads.any (fun k => decide (n ≤ k)) = true then some (b.first + b.phis.length + (j + ls.length)) else none)
  | [], j => by simp [lostB, h1, h2]
  | x :: ls, j => by
    simp only [List.cons_append, lostB, h1, h2]
    split
    · simp
    · rw [lostB_snoc n b b' h1 h2 l ls (j + 1)]
      simp only [List.length_cons]
      rw [show j + 1 + ls.length = j + (ls.length + 1) by omega]
theorem lostG_one (n : Nat) (b : BlockG) : lostG n [b] = lostB n b 0 b.lines := by
  simp only [lostG]
  cases lostB n b 0 b.lines <;> rfl

/-- Where line s leads, in the document's words. -/
def leadsS (s : BA) : List Nat := leadsR (hd (cuts 32 s)) (cuts 32 s)
def docLost (n : Nat) : Nat → List BA → Option Nat
  | _, [] => none
  | i, s :: r => if (leadsS s).any (fun k => decide (n ≤ k)) = true then some i else docLost n (i + 1) r

theorem docLost_cons (n i : Nat) (s : BA) (r : List BA) : docLost n i (s :: r) = if (leadsS s).any (fun k => decide (n ≤ k)) = true then some i else docLost n (i + 1) r := rfl
theorem leadsS_none {s : BA} (h : kindOf (hd (cuts 32 s)) = none) : leadsS s = [] := by unfold leadsS leadsR; rw [h]
theorem leadsS_line {s : BA} {l : LineG} (h : lineOf 0 (cuts 32 s) = some l) : leadsS s = l.leads := by
  unfold leadsS
  obtain ⟨x0, bs, hc⟩ := cuts_cons s
  rw [hc] at h ⊢
  exact (line_what h).2.2.symm
theorem kind_args {s : BA} {A : List Ver} (h : argsOf 0 (cuts 32 s) = some A) : kindOf (hd (cuts 32 s)) = none := by
  obtain ⟨x0, bs, hc⟩ := cuts_cons s
  rw [hc] at h ⊢
  rw [argsOf_cons] at h
  split at h
  · rename_i hq
    show kindOf x0 = none
    unfold kindOf
    rw [hq.1]
    rfl
  · cases h

theorem lost_step {n i nb : Nat} {s last : BA} {p p' : PG} (hr : Rel i p nb last) (h : stepL 0 20 i s p = some p') : lostG n p'.all = (lostG n p.all).or (if (leadsS s).any (fun k => decide (n ≤ k)) = true then some i else none) := by
  rcases step_shape h with ⟨-, h1, h2⟩ | ⟨-, -, b, l, hb, hl, h1⟩ | ⟨-, -, hc, hb, h1⟩
  · rw [h1, leadsS_none (kind_args h2)]
    simp
  · obtain ⟨e1, e2⟩ := hr.here b hb
    rw [h1, lostG_append, lostG_one, leadsS_line hl]
    show (lostG n p.closed).or (lostB n _ 0 (b.lines ++ [l])) = _
    rw [lostB_snoc n b { b with lines := b.lines ++ [l] } rfl rfl]
    have : p.all = p.closed ++ [b] := by simp [PG.all, hb]
    rw [this, lostG_append, lostG_one, e1]
    rw [show b.first + ([] : List PhiG).length + (0 + b.lines.length) = i by simp; omega]
    cases lostG n p.closed <;> simp
  · rw [h1, lostG_append, leadsS_none (kind_block hb)]
    have : p.all = p.closed := by simp [PG.all, hc]
    rw [this]
    simp [lostG, lostB]

theorem lost_run {n : Nat} : ∀ (T : List BA) (i nb : Nat) (p q : PG) (last : BA), Rel i p nb last → 0 < i + T.length → runL 0 20 i T p = .ok q → lostG n q.closed = (lostG n p.all).or (docLost n i T)
  | [], i, nb, p, q, last, h, hi, hq => by
    unfold runL at hq
    split at hq
    · rename_i hc
      injection hq with hq
      subst hq
      have : p.cur = none := by simpa using hc.1
      simp [PG.all, this, docLost]
    · cases hq
  | s :: r, i, nb, p, q, last, h, hi, hq => by
    unfold runL at hq
    cases hst : stepL 0 20 i s p with
    | none => rw [hst] at hq; cases hq
    | some p' =>
      rw [hst] at hq
      rw [lost_run r (i + 1) _ p' q _ ((rel_step h s).1 p' hst).2 (by omega) hq, lost_step h hst]
      rw [docLost_cons]
      split
      · cases lostG n p.all <;> simp
      · simp

end Go.Proofs.YtbddcodljmglfaaGreatDoor

namespace Go.Proofs.YtbddcodljmglfaaGreatDoor

theorem fillG_sets : ∀ (ps : List Nat) (bs : List BA) (l l' : LineG), (∀ p ∈ ps, p ≠ 1) → fillG 0 ps bs l = some l' → l'.sets = l.sets
  | [], [], l, l', _, h => by simp [fillG] at h; subst h; rfl
  | [], _ :: _, l, l', _, h => by simp [fillG] at h
  | _ :: _, [], l, l', _, h => by simp [fillG] at h
  | p :: ps, b :: bs, l, l', hp, h => by
    unfold fillG at h
    split at h
    · rename_i m hm
      rw [fillG_sets ps bs m l' (fun q hq => hp q (List.mem_cons_of_mem _ hq)) h, (addPart_what hm).2.1, if_neg (hp p (by simp))]
    · cases h
theorem parts_tail : ∀ k : Fin 10, ∀ p ∈ (partsOf k.val).tail, p ≠ 1 := by decide
theorem line_sets {x0 : BA} {bs : List BA} {l : LineG} (h : lineOf 0 (x0 :: bs) = some l) : l.sets = (setsR x0 (x0 :: bs), 0) := by
  rw [lineOf_cons] at h
  unfold setsR
  cases hk : kindOf x0 with
  | none => rw [hk] at h; cases h
  | some kd =>
    rw [hk] at h
    simp only at h
    have hkd := kindOf_lt hk
    have ht := parts_tail ⟨kd, hkd⟩
    have hpos := parts_pos ⟨kd, hkd⟩
    simp only at ht hpos
    show l.sets = (if (partsOf kd)[0]? = some 1 then (x0 :: bs).getD 1 ByteArray.empty else ByteArray.empty, 0)
    obtain ⟨ps, hps⟩ : ∃ ps, ps = partsOf kd := ⟨_, rfl⟩
    rw [← hps] at ht hpos h ⊢
    clear hps
    cases ps with
    | nil => simp at hpos
    | cons p ps =>
      cases bs with
      | nil => simp [fillG] at h
      | cons b bs =>
        unfold fillG at h
        split at h
        · rename_i m hm
          rw [fillG_sets ps bs m l (by simpa using ht) h, (addPart_what hm).2.1]
          by_cases hp : p = 1
          · simp [hp]
          · simp [hp, noVer]
        · cases h

theorem takesG_nm : ∀ (ps : List Nat) (bs : List BA), (∀ (j p : Nat) (x : BA), ps[j]? = some p → bs[j]? = some x → partOk 0 p x = true) → ∀ x ∈ takesG ps bs, isNm x = true
  | [], bs, _, x, hx => by simp [takesG] at hx
  | _ :: _, [], _, x, hx => by simp [takesG] at hx
  | p :: ps, b :: bs, h, x, hx => by
    have ih := takesG_nm ps bs (fun j q y hq hy => h (j + 1) q y (by simpa using hq) (by simpa using hy))
    unfold takesG at hx
    split at hx
    · rename_i hp
      rcases List.mem_cons.1 hx with rfl | hx
      · have := h 0 p x (by simp) (by simp)
        simpa [partOk, hp, readVer0_some] using this
      · exact ih x hx
    · exact ih x hx
theorem takesR_nm {x0 : BA} {bs : List BA} (h : (lineOf 0 (x0 :: bs)).isSome = true) : ∀ x ∈ takesR x0 (x0 :: bs), isNm x = true := by
  obtain ⟨kd, hk, -, h2⟩ := (plain_bridge x0 bs).2 h
  unfold takesR
  rw [hk]
  exact takesG_nm _ _ (fun j p x hp hx => h2 j p x hp (by simpa using hx))
theorem nm_pos {x : BA} (h : isNm x = true) : x.size ≠ 0 := by
  have := (isNm_iff x).1 h
  omega

abbrev v0 (L : List BA) : List Ver := L.map (fun b => (b, 0))
theorem has_map (L : List BA) (x : BA) : verHas (v0 L) (x, 0) = hasB L x := by
  rw [Bool.eq_iff_iff, verHas_iff, hasB_iff]
  simp [v0]
theorem named_map (L : List BA) (x : BA) (hx : x.size ≠ 0) : named (v0 L) (x, 0) = v0 (addR L x) := by
  unfold named addR
  rw [if_neg hx, has_map]
  split <;> simp [v0]
theorem namedAll_map : ∀ (xs L : List BA), (∀ x ∈ xs, x.size ≠ 0) → namedAll (v0 L) (v0 xs) = v0 (xs.foldl addR L)
  | [], L, _ => rfl
  | x :: xs, L, h => by
    show namedAll (named (v0 L) (x, 0)) (v0 xs) = v0 (xs.foldl addR (addR L x))
    rw [named_map L x (h x (by simp))]
    exact namedAll_map xs _ (fun y hy => h y (List.mem_cons_of_mem _ hy))

/-- The names behind line s, in the document's words. -/
def setsS (s : BA) : BA := setsR (hd (cuts 32 s)) (cuts 32 s)
def takesS (s : BA) : List BA := takesR (hd (cuts 32 s)) (cuts 32 s)
def docNames (L : List BA) (s : BA) : List BA := (takesS s).foldl addR (if (setsS s).size = 0 then L else addR L (setsS s))
def docCrowd : List BA → Nat → List BA → Option Nat
  | _, _, [] => none
  | L, i, s :: r => if 8 < (docNames L s).length then some i else docCrowd (docNames L s) (i + 1) r
theorem docCrowd_cons (L : List BA) (i : Nat) (s : BA) (r : List BA) : docCrowd L i (s :: r) = if 8 < (docNames L s).length then some i else docCrowd (docNames L s) (i + 1) r := rfl

theorem names_line {s : BA} {l : LineG} (L : List BA) (h : lineOf 0 (cuts 32 s) = some l) : namedAll (v0 L) (l.sets :: l.takes) = v0 (docNames L s) := by
  obtain ⟨x0, bs, hc⟩ := cuts_cons s
  unfold docNames setsS takesS
  rw [hc] at h ⊢
  have hhd : hd (x0 :: bs) = x0 := rfl
  rw [hhd, line_sets h, (line_what h).2.1]
  have hnm := takesR_nm (x0 := x0) (bs := bs) (by rw [h]; rfl)
  show namedAll (named (v0 L) _) (v0 _) = _
  by_cases hz : (setsR x0 (x0 :: bs)).size = 0
  · rw [if_pos hz, show named (v0 L) (setsR x0 (x0 :: bs), 0) = v0 L by unfold named; rw [if_pos hz]]
    exact namedAll_map _ _ (fun x hx => nm_pos (hnm x hx))
  · rw [if_neg hz, named_map L _ hz]
    exact namedAll_map _ _ (fun x hx => nm_pos (hnm x hx))
theorem names_none {s : BA} (L : List BA) (h : kindOf (hd (cuts 32 s)) = none) : docNames L s = L := by
  unfold docNames setsS takesS setsR takesR
  rw [h]
  rfl

def crowdAll (nm : List Ver) : List BlockG → Nat ⊕ List Ver
  | [] => .inr nm
  | b :: r => match crowdB b nm 0 b.lines with | .inl i => .inl i | .inr nm' => crowdAll nm' r
theorem crowdG_all : ∀ (B : List BlockG) (nm : List Ver), crowdG nm B = match crowdAll nm B with | .inl i => some i | .inr _ => none
  | [], nm => rfl
  | b :: r, nm => by
    simp only [crowdG, crowdAll]
    cases crowdB b nm 0 b.lines with
    | inl i => rfl
    | inr nm' => exact crowdG_all r nm'
theorem crowdAll_append : ∀ (A B : List BlockG) (nm : List Ver), crowdAll nm (A ++ B) = match crowdAll nm A with | .inl i => .inl i | .inr nm' => crowdAll nm' B
  | [], B, nm => rfl
  | a :: A, B, nm => by
    simp only [List.cons_append, crowdAll]
    cases crowdB a nm 0 a.lines with
    | inl i => rfl
    | inr nm' => exact crowdAll_append A B nm'
theorem crowdB_snoc (b b' : BlockG) (h1 : b'.first = b.first) (h2 : b'.phis = b.phis) (l : LineG) : ∀ (ls : List LineG) (nm : List Ver) (j : Nat), crowdB b' nm j (ls ++ [l]) = match crowdB b nm j ls with | .inl i => .inl i | .inr nm' => if 8 < (namedAll nm' (l.sets :: l.takes)).length then .inl (b.first + b.phis.length + (j + ls.length)) else .inr (namedAll nm' (l.sets :: l.takes))
  | [], nm, j => by simp only [List.nil_append, crowdB, h1, h2, List.length_nil, Nat.add_zero]
  | x :: ls, nm, j => by
    simp only [List.cons_append, crowdB, h1, h2]
    split
    · rfl
    · rw [crowdB_snoc b b' h1 h2 l ls _ (j + 1)]
      simp only [List.length_cons]
      rw [show j + 1 + ls.length = j + (ls.length + 1) by omega]
theorem crowdAll_one (nm : List Ver) (b : BlockG) : crowdAll nm [b] = crowdB b nm 0 b.lines := by
  simp only [crowdAll]
  cases crowdB b nm 0 b.lines <;> rfl

theorem crowd_step {i nb : Nat} {s last : BA} {p p' : PG} {nm : List Ver} (hr : Rel i p nb last) (hi : i ≠ 0) (h : stepL 0 20 i s p = some p') :
    (∀ k, crowdAll nm p.all = .inl k → crowdAll nm p'.all = .inl k) ∧ (∀ L, crowdAll nm p.all = .inr (v0 L) → L.length ≤ 8 → crowdAll nm p'.all = if 8 < (docNames L s).length then .inl i else .inr (v0 (docNames L s))) := by
  rcases step_shape h with ⟨h0, -⟩ | ⟨-, -, b, l, hb, hl, h1⟩ | ⟨-, -, hc, hb, h1⟩
  · exact absurd h0 hi
  · obtain ⟨e1, e2⟩ := hr.here b hb
    have hall : p.all = p.closed ++ [b] := by simp [PG.all, hb]
    rw [h1, hall, crowdAll_append, crowdAll_append]
    cases crowdAll nm p.closed with
    | inl i0 => exact ⟨fun k hk => hk, fun L hk => by cases hk⟩
    | inr nm' =>
      simp only []
      rw [crowdAll_one, crowdAll_one]
      show _ ∧ ∀ L, _ → _ → crowdB _ nm' 0 (b.lines ++ [l]) = _
      rw [crowdB_snoc b { b with lines := b.lines ++ [l] } rfl rfl]
      refine ⟨fun k hk => ?_, fun L hk hL => ?_⟩
      · rw [hk]
      · rw [hk]
        simp only []
        rw [names_line L hl, e1]
        rw [show b.first + ([] : List PhiG).length + (0 + b.lines.length) = i by simp; omega]
        simp [v0]
  · have hall : p.all = p.closed := by simp [PG.all, hc]
    rw [h1, hall, crowdAll_append]
    refine ⟨fun k hk => by rw [hk], fun L hk hL => ?_⟩
    rw [hk, names_none L (kind_block hb), if_neg (by omega)]
    rfl

theorem crowd_run {nm : List Ver} : ∀ (T : List BA) (i nb : Nat) (p q : PG) (last : BA), Rel i p nb last → i ≠ 0 → runL 0 20 i T p = .ok q →
    (∀ k, crowdAll nm p.all = .inl k → crowdG nm q.closed = some k) ∧ (∀ L, crowdAll nm p.all = .inr (v0 L) → L.length ≤ 8 → crowdG nm q.closed = docCrowd L i T)
  | [], i, nb, p, q, last, h, hi, hq => by
    unfold runL at hq
    split at hq
    · rename_i hc
      injection hq with hq
      subst hq
      have hcn : p.cur = none := by simpa using hc.1
      have hall : p.all = p.closed := by simp [PG.all, hcn]
      rw [hall, crowdG_all]
      exact ⟨fun k hk => by rw [hk], fun L hk _ => by rw [hk]; rfl⟩
    · cases hq
  | s :: r, i, nb, p, q, last, h, hi, hq => by
    unfold runL at hq
    cases hst : stepL 0 20 i s p with
    | none => rw [hst] at hq; cases hq
    | some p' =>
      rw [hst] at hq
      obtain ⟨c1, c2⟩ := crowd_step (nm := nm) h hi hst
      obtain ⟨d1, d2⟩ := crowd_run (nm := nm) r (i + 1) _ p' q _ ((rel_step h s).1 p' hst).2 (by omega) hq
      refine ⟨fun k hk => d1 k (c1 k hk), fun L hk hL => ?_⟩
      have := c2 L hk hL
      rw [docCrowd_cons]
      by_cases h8 : 8 < (docNames L s).length
      · rw [if_pos h8] at this ⊢
        exact d1 i this
      · rw [if_neg h8] at this ⊢
        exact d2 _ this (by omega)

end Go.Proofs.YtbddcodljmglfaaGreatDoor

namespace Go.Proofs.YtbddcodljmglfaaGreatDoor

/-- The document's error and line. -/
def docG (s : BA) : Nat × Nat :=
  if 120 < (cuts 10 s).length then (6, 0)
  else match docL 0 0 ByteArray.empty (cuts 10 s) with
    | .error i => (7, i)
    | .ok nb => match docLost nb 0 (cuts 10 s) with
      | some i => (8, i)
      | none => match docCrowd ((cuts 32 (hd (cuts 10 s))).drop 1) 1 ((cuts 10 s).drop 1) with
        | some i => (9, i)
        | none => (0, 0)

theorem rel_start : Rel 0 ⟨[], [], none⟩ 0 ByteArray.empty :=
  ⟨by simp, fun _ => ⟨rfl, rfl⟩, fun h => absurd h (by omega), fun h => absurd h (by omega), fun h => absurd h (by omega), fun b hb => by cases hb⟩

theorem run_args : ∀ (T : List BA) (i : Nat) (p q : PG), i ≠ 0 → runL 0 20 i T p = .ok q → q.args = p.args
  | [], i, p, q, hi, hq => by
    unfold runL at hq
    split at hq
    · injection hq with hq; subst hq; rfl
    · cases hq
  | s :: r, i, p, q, hi, hq => by
    unfold runL at hq
    cases hst : stepL 0 20 i s p with
    | none => rw [hst] at hq; cases hq
    | some p' =>
      rw [hst] at hq
      rw [run_args r (i + 1) p' q (by omega) hq]
      rcases step_shape hst with ⟨h0, -⟩ | ⟨-, h, -⟩ | ⟨-, h, -⟩
      · exact absurd h0 hi
      · exact h
      · exact h

theorem crowd_all {T : List BA} {q : PG} (hT : T ≠ []) (h : runL 0 20 0 T ⟨[], [], none⟩ = .ok q) : crowdG q.args q.closed = docCrowd ((cuts 32 (hd T)).drop 1) 1 (T.drop 1) := by
  cases T with
  | nil => exact absurd rfl hT
  | cons s r =>
    unfold runL at h
    cases hst : stepL 0 20 0 s ⟨[], [], none⟩ with
    | none => rw [hst] at h; cases h
    | some p' =>
      rw [hst] at h
      have hrel := ((rel_step rel_start s).1 p' hst).2
      have ha := run_args r 1 p' q (by omega) h
      rcases step_shape hst with ⟨-, h1, h2⟩ | ⟨h0, -⟩ | ⟨h0, -⟩
      · obtain ⟨x0, bs, hc⟩ := cuts_cons s
        rw [hc] at h2
        have hA := args_names h2
        have hlen : bs.length ≤ 4 := by
          rw [argsOf_cons] at h2
          split at h2
          · rename_i hq; exact hq.2
          · cases h2
        have := (crowd_run (nm := q.args) r 1 _ p' q _ hrel (by omega) h).2 bs (by rw [h1, ha, hA]; rfl) (by omega)
        rw [this]
        show _ = docCrowd ((cuts 32 s).drop 1) 1 r
        rw [hc]
        rfl
      · exact absurd rfl h0
      · exact absurd rfl h0

theorem doc_eq (s : BA) : docG s = match progG s with | .ok _ => (0, 0) | .error e => e := by
  unfold docG progG readG
  by_cases hl : 120 < (cuts 10 s).length
  · rw [if_pos hl, if_pos hl]
  · rw [if_neg hl, if_neg hl]
    have hne := cuts_ne 10 s
    generalize cuts 10 s = T at *
    have hpos : 0 < 0 + T.length := by
      cases T with
      | nil => exact absurd rfl hne
      | cons a b => simp
    obtain ⟨d1, d2⟩ := docL_run T 0 0 _ _ rel_start hpos
    cases hr : runL 0 20 0 T ⟨[], [], none⟩ with
    | error k => rw [d1 k hr]
    | ok q =>
      have hc := crowd_all hne hr
      have hlo := lost_run (n := q.closed.length) T 0 0 _ q _ rel_start hpos hr
      rw [show lostG q.closed.length (PG.all ⟨[], [], none⟩) = none from rfl, Option.none_or] at hlo
      rw [(d2 q hr).1]
      simp only []
      rw [← hlo, ← hc]
      cases hlq : lostG q.closed.length q.closed with
      | some i => rfl
      | none =>
        simp only []
        cases hcq : crowdG q.args q.closed with
        | some i => simp [hcq]
        | none => simp [hcq]

end Go.Proofs.YtbddcodljmglfaaGreatDoor
