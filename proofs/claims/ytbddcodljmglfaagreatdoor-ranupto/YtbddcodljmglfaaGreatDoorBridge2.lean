/- The bridge: the document's loop over the lines and the program's. -/
import Derived.Test.YtbddcodljmglfaaGreatDoorBridge
set_option linter.unusedSimpArgs false
set_option linter.unusedVariables false
namespace Go.Proofs.YtbddcodljmglfaaGreatDoor

def hd (ws : List BA) : BA := ws.headD ByteArray.empty
def isBlock (x : BA) : Bool := ByteArray.toList x == [98, 108, 111, 99, 107]
def standsB (i nb : Nat) (last : BA) (ws : List BA) : Bool :=
  if i = 0 then (argsOf 0 ws).isSome
  else if isBlock (hd ws) = true then decide (ws.length = 1) && !(decide (1 < i) && !endsW last) && decide (nb < 20)
  else (decide (1 < i) && !endsW last) && (lineOf 0 ws).isSome
theorem standsB_iff (i nb : Nat) (x0 last : BA) (bs : List BA) : standsB i nb last (x0 :: bs) = true ↔ standsR i nb x0 last (x0 :: bs) := by
  unfold standsB standsR
  by_cases hi : i = 0
  · rw [if_pos hi, if_pos hi, args_bridge]
  · rw [if_neg hi, if_neg hi]
    by_cases hb : ByteArray.toList x0 = [98, 108, 111, 99, 107]
    · rw [if_pos (by simpa [isBlock, hd] using hb), if_pos hb]
      have e1 : (x0 :: bs).length = 1 ↔ bs = [] := by simp
      by_cases h1 : bs = [] <;> by_cases h2 : 1 < i <;> by_cases h3 : nb < 20 <;> cases endsW last <;> simp [h1, h2, h3] <;> omega
    · rw [if_neg (by simpa [isBlock, hd] using hb), if_neg hb, plain_bridge]
      cases endsW last <;> simp

/-- The document's loop: how many blocks there are, or the line by which it is seen that there is no program. -/
def docL : Nat → Nat → BA → List BA → Except Nat Nat
  | i, nb, last, [] => if endsW last = true then .ok nb else .error i
  | i, nb, last, s :: r => if standsB i nb last (cuts 32 s) = true then docL (i + 1) (if isBlock (hd (cuts 32 s)) = true then nb + 1 else nb) (hd (cuts 32 s)) r else .error i

theorem cuts_cons (s : BA) : ∃ x bs, cuts 32 s = x :: bs := by
  cases h : cuts 32 s with
  | nil => exact absurd h (cuts_ne 32 s)
  | cons x bs => exact ⟨x, bs, rfl⟩
theorem cutsB_one (c : UInt8) : ∀ (l x : List UInt8), cutsB c l = [x] → x = l
  | [], x, h => by simp [cutsB] at h; exact h
  | b :: r, x, h => by
    unfold cutsB at h
    split at h
    · exact absurd (List.cons.inj h).2 (cutsB_ne c r)
    · split at h
      · rename_i hq
        exact absurd hq (cutsB_ne c r)
      · rename_i y ys hq
        obtain ⟨h1, h2⟩ := List.cons.inj h
        subst h2
        have := cutsB_one c r y hq
        rw [← h1, this]
theorem cuts_one {s x : BA} (h : cuts 32 s = [x]) : x = s := by
  unfold cuts at h
  cases hq : cutsB 32 s.data.toList with
  | nil => rw [hq] at h; cases h
  | cons y ys =>
    rw [hq] at h
    obtain ⟨h1, h2⟩ := List.cons.inj h
    have : ys = [] := by simpa using h2
    subst this
    rw [← h1, cutsB_one 32 _ _ hq, ofL_toList]
theorem cuts_block {s : BA} (h : ByteArray.toList s = [98, 108, 111, 99, 107]) : cuts 32 s = [s] := by
  have hs : s = ⟨#[98, 108, 111, 99, 107]⟩ := by
    apply ba_ext
    rw [h, ByteArray.toList_eq]
  subst hs
  unfold cuts
  have : cutsB 32 (#[98, 108, 111, 99, 107] : Array UInt8).toList = [[98, 108, 111, 99, 107]] := by decide
  rw [this]
  rfl
theorem kind_block {x : BA} (h : isBlock x = true) : kindOf x = none := by
  have : ByteArray.toList x = [98, 108, 111, 99, 107] := by simpa [isBlock] using h
  unfold kindOf
  rw [this]
  rfl
theorem ends_block {x : BA} (h : isBlock x = true) : endsW x = false := by unfold endsW; rw [kind_block h]

/-- What the two have in common ahead of line i. -/
structure Rel (i : Nat) (p : PG) (nb : Nat) (last : BA) : Prop where
  cnt : nb = p.closed.length + (if p.cur.isSome = true then 1 else 0)
  start : i ≤ 1 → p.closed = [] ∧ p.cur = none
  ends : i = 1 → endsW last = false
  cur : 1 < i → (p.cur.isSome = true ↔ endsW last = false)
  some1 : 1 < i → 1 ≤ nb
  here : ∀ b, p.cur = some b → b.phis = [] ∧ b.first + b.lines.length = i

theorem rel_end {i nb : Nat} {p : PG} {last : BA} (h : Rel i p nb last) (hi : 0 < i) : (p.cur.isNone = true ∧ p.closed.length ≠ 0) ↔ endsW last = true := by
  by_cases h1 : i = 1
  · rw [h.ends h1, (h.start (by omega)).1]
    simp
  · have h2 := h.cur (by omega)
    have h3 := h.some1 (by omega)
    have h4 := h.cnt
    cases hc : p.cur with
    | none =>
      rw [hc] at h2 h4
      simp at h2 h4
      simp [h2]
      intro hq
      rw [hq] at h4
      simp at h4
      omega
    | some b =>
      rw [hc] at h2
      simp at h2
      simp [h2]

theorem rel_step {i nb : Nat} {p : PG} {last : BA} (h : Rel i p nb last) (s : BA) :
    (∀ p', stepL 0 20 i s p = some p' → standsB i nb last (cuts 32 s) = true ∧ Rel (i + 1) p' (if isBlock (hd (cuts 32 s)) = true then nb + 1 else nb) (hd (cuts 32 s))) ∧ (stepL 0 20 i s p = none → standsB i nb last (cuts 32 s) = false) := by
  obtain ⟨x0, bs, hc⟩ := cuts_cons s
  rw [hc]
  have hhd : hd (x0 :: bs) = x0 := rfl
  rw [hhd]
  unfold stepL standsB
  rw [hc, hhd]
  by_cases hi : i = 0
  · rw [if_pos hi, if_pos hi]
    cases ha : argsOf 0 (x0 :: bs) with
    | none => exact ⟨fun p' h => (by cases h), fun _ => rfl⟩
    | some a =>
      refine ⟨fun p' hp => ?_, fun hp => (by cases hp)⟩
      injection hp with hp
      subst hp
      have hx : ByteArray.toList x0 = [97, 114, 103, 115] := by
        rw [argsOf_cons] at ha
        split at ha
        · rename_i hq; exact hq.1
        · cases ha
      have hb : isBlock x0 = false := by unfold isBlock; rw [hx]; rfl
      have he : endsW x0 = false := by unfold endsW kindOf; rw [hx]; rfl
      have hst := h.start (by omega)
      refine ⟨rfl, ?_, fun _ => hst, fun _ => he, fun h1 => absurd h1 (by omega), fun h1 => absurd h1 (by omega), fun b hb => (by rw [show _ = none from hst.2] at hb; cases hb)⟩
      rw [hb]
      exact h.cnt
  · rw [if_neg hi, if_neg hi]
    cases hcur : p.cur with
    | some b =>
      have hi1 : 1 < i := by
        by_cases h1 : i ≤ 1
        · have := (h.start h1).2; rw [hcur] at this; cases this
        · omega
      have hlast : endsW last = false := (h.cur hi1).1 (by rw [hcur]; rfl)
      have hhere := h.here b hcur
      have hnb := h.cnt
      rw [hcur] at hnb
      simp at hnb
      have hin : inB 0 b s = match lineOf 0 (x0 :: bs) with | some l => some ({ b with lines := b.lines ++ [l] }, endsK l.word) | none => none := by
        unfold inB
        rw [if_neg (by omega), hc]
        cases lineOf 0 (x0 :: bs) <;> rfl
      simp only [hin]
      by_cases hb : isBlock x0 = true
      · have hl : lineOf 0 (x0 :: bs) = none := by rw [lineOf_cons, kind_block hb]
        rw [hl, if_pos hb]
        exact ⟨fun p' h => (by cases h), fun _ => by simp [hi1, hlast]⟩
      · rw [if_neg hb]
        cases hl : lineOf 0 (x0 :: bs) with
        | none => exact ⟨fun p' h => (by cases h), fun _ => by simp⟩
        | some l =>
          have hw := (line_what hl).1
          have he : endsW x0 = endsK l.word := by unfold endsW; rw [hw]
          refine ⟨fun p' hp => ⟨by simp [hi1, hlast], ?_⟩, fun hp => ?_⟩
          · rw [if_neg hb]
            cases hk : endsK l.word with
            | true =>
              rw [hk] at he
              simp [hk] at hp
              subst hp
              exact ⟨by simp [hnb], fun h1 => absurd h1 (by omega), fun h1 => absurd h1 (by omega), fun _ => by simp [he], fun _ => by omega, fun c hcc => by cases hcc⟩
            | false =>
              rw [hk] at he
              simp [hk] at hp
              subst hp
              exact ⟨by simp [hnb], fun h1 => absurd h1 (by omega), fun h1 => absurd h1 (by omega), fun _ => by simp [he], fun _ => by omega, fun c hcc => by injection hcc with hcc; subst hcc; exact ⟨hhere.1, by simp; omega⟩⟩
          · cases hk : endsK l.word with
            | true => simp [hk] at hp
            | false => simp [hk] at hp
    | none =>
      have hnin : (decide (1 < i) && !endsW last) = false := by
        by_cases h1 : 1 < i
        · have := h.cur h1
          rw [hcur] at this
          simp at this
          simp [this]
        · simp [h1]
      have hnb := h.cnt
      rw [hcur] at hnb
      simp at hnb
      rw [hnin]
      simp only
      by_cases hb : isBlock x0 = true
      · rw [if_pos hb, if_pos hb]
        have hbx : ByteArray.toList x0 = [98, 108, 111, 99, 107] := by simpa [isBlock] using hb
        by_cases hq : ByteArray.toList s = [98, 108, 111, 99, 107] ∧ p.closed.length < 20
        · rw [if_pos hq]
          have hone := cuts_block hq.1
          rw [hc] at hone
          obtain ⟨-, h2⟩ := List.cons.inj hone
          subst h2
          refine ⟨fun p' hp => ?_, fun hp => (by cases hp)⟩
          injection hp with hp
          subst hp
          refine ⟨by simp [hnb, hq.2], ⟨by simp [hnb], fun h1 => absurd h1 (by omega), fun h1 => absurd h1 (by omega), fun _ => by simp [ends_block hb], fun _ => by omega, fun c hcc => by injection hcc with hcc; subst hcc; exact ⟨rfl, by simp⟩⟩⟩
        · rw [if_neg hq]
          refine ⟨fun p' hp => (by cases hp), fun _ => ?_⟩
          by_cases hlen : bs = []
          · subst hlen
            have hxs : x0 = s := cuts_one hc
            subst hxs
            have : ¬ p.closed.length < 20 := fun h => hq ⟨hbx, h⟩
            simp [hnb, this]
          · have : ¬ (x0 :: bs).length = 1 := by
              intro h
              simp at h
              exact hlen h
            simp [this]
            intro h
            exact absurd h hlen
      · rw [if_neg hb]
        have hq : ¬ (ByteArray.toList s = [98, 108, 111, 99, 107] ∧ p.closed.length < 20) := by
          rintro ⟨hq, -⟩
          have hone := cuts_block hq
          rw [hc] at hone
          obtain ⟨h1, -⟩ := List.cons.inj hone
          subst h1
          exact hb (by simpa [isBlock] using hq)
        rw [if_neg hq]
        exact ⟨fun p' hp => (by cases hp), fun _ => by simp⟩

theorem docL_run : ∀ (T : List BA) (i nb : Nat) (p : PG) (last : BA), Rel i p nb last → 0 < i + T.length →
    (∀ k, runL 0 20 i T p = .error k → docL i nb last T = .error k) ∧ (∀ q, runL 0 20 i T p = .ok q → docL i nb last T = .ok q.closed.length ∧ q.cur = none)
  | [], i, nb, p, last, h, hi => by
    have he := rel_end h (by simpa using hi)
    unfold runL docL
    by_cases hq : endsW last = true
    · rw [if_pos (he.2 hq), if_pos hq]
      have hcn : p.cur = none := by simpa using (he.2 hq).1
      refine ⟨fun k hk => (by cases hk), fun q hk => ?_⟩
      injection hk with hk
      subst hk
      refine ⟨?_, hcn⟩
      rw [h.cnt, hcn]
      simp
    · rw [if_neg (fun hh => hq (he.1 hh)), if_neg hq]
      exact ⟨fun k hk => (by injection hk with hk; rw [hk]), fun q hk => by cases hk⟩
  | s :: r, i, nb, p, last, h, hi => by
    have hs := rel_step h s
    unfold runL docL
    cases hst : stepL 0 20 i s p with
    | none =>
      rw [if_neg (by rw [hs.2 hst]; simp)]
      exact ⟨fun k hk => (by injection hk with hk; rw [hk]), fun q hk => by cases hk⟩
    | some p' =>
      obtain ⟨h1, h2⟩ := hs.1 p' hst
      rw [if_pos h1]
      exact docL_run r (i + 1) _ p' _ h2 (by omega)

end Go.Proofs.YtbddcodljmglfaaGreatDoor
