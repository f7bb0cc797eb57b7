/- Numbers as digits: of no program's run. -/
import Derived.Lib.ParseIntB
import Derived.Lib.ParseIntBCases
import Derived.Lib.ItoaNum
set_option linter.unusedSimpArgs false
set_option linter.unusedVariables false
namespace Go.Proofs.YtbddcodljmglfaaGreatDoor

abbrev BA := ByteArray
theorem ba_get (s : BA) (k : Nat) (h : k < s.size) : s.data.toList[k]'(by rw [Array.length_toList]; exact h) = s[k] := rfl

/-- What digits come to. -/
def dig1 (n : Nat) (b : UInt8) : Nat := 10 * n + (b.toNat - 48)
def digVal (n : Nat) (l : List UInt8) : Nat := l.foldl dig1 n
def isDig (b : UInt8) : Bool := decide (48 ≤ b.toNat) && decide (b.toNat ≤ 57)
/-- Digits, 1 to 10 of them, the first not 0 but in '0' (plain: there is no sign). -/
def digsOk (plain : Bool) (d : List UInt8) : Bool := decide (1 ≤ d.length) && decide (d.length ≤ 10) && (!(d.head? == some 48) || (plain && d == [48])) && d.all isDig

def numR (s : BA) (lo hi : Int) : Option Int :=
  if s.data.toList.head? = some 45 then
    (if digsOk false s.data.toList.tail = true ∧ lo ≤ -(digVal 0 s.data.toList.tail : Int) ∧ -(digVal 0 s.data.toList.tail : Int) ≤ hi then some (-(digVal 0 s.data.toList.tail : Int)) else none)
  else (if digsOk true s.data.toList = true ∧ lo ≤ (digVal 0 s.data.toList : Int) ∧ (digVal 0 s.data.toList : Int) ≤ hi then some (digVal 0 s.data.toList : Int) else none)

theorem digVal_nil (n : Nat) : digVal n [] = n := by simp only [digVal, List.foldl_nil]
theorem digVal_cons (n : Nat) (x : UInt8) (r : List UInt8) : digVal n (x :: r) = digVal (10 * n + (x.toNat - 48)) r := by simp only [digVal, List.foldl_cons, dig1]
theorem digVal_snoc (l : List UInt8) (b : UInt8) : ∀ n, digVal n (l ++ [b]) = 10 * digVal n l + (b.toNat - 48) := by
  intro n; simp only [digVal, List.foldl_append, List.foldl_cons, List.foldl_nil, dig1]
theorem digVal_lt (l : List UInt8) (h : ∀ b ∈ l, isDig b = true) : ∀ n m, n < 10 ^ m → digVal n l < 10 ^ (m + l.length) := by
  induction l with
  | nil => intro n m h; rw [digVal_nil, List.length_nil, Nat.add_zero]; exact h
  | cons b r ih =>
    intro n m hn
    rw [digVal_cons, List.length_cons]
    have hb : b.toNat ≤ 57 := by have := h b (by simp); simp [isDig] at this; omega
    have := ih (fun x hx => h x (by simp [hx])) (10 * n + (b.toNat - 48)) (m + 1) (by rw [Nat.pow_succ]; omega)
    rw [show m + (r.length + 1) = m + 1 + r.length by omega]
    exact this

theorem take_succ_ba (d : BA) (k : Nat) (h : k < d.size) : d.data.toList.take (k + 1) = d.data.toList.take k ++ [d[k]] := by
  have hl : k < d.data.toList.length := by rw [Array.length_toList]; exact h
  rw [List.take_add_one, List.getElem?_eq_getElem hl, ba_get d k h]
  rfl


theorem isDig_of {b : UInt8} (h1 : 48 ≤ b.toNat) (h2 : b.toNat ≤ 57) : isDig b = true := by simp [isDig, h1, h2]
theorem digsOk_len {p : Bool} {d : List UInt8} (h : ¬ (1 ≤ d.length ∧ d.length ≤ 10)) : digsOk p d = false := by
  rw [← Bool.not_eq_true]
  intro h'
  simp only [digsOk, Bool.and_eq_true, decide_eq_true_eq] at h'
  exact h h'.1.1
theorem digsOk_zero {p : Bool} {d : List UInt8} (h : d.head? = some 48) (h2 : p = true → d ≠ [48]) : digsOk p d = false := by
  rw [← Bool.not_eq_true]
  intro h'
  simp only [digsOk, Bool.and_eq_true, decide_eq_true_eq, Bool.or_eq_true, h] at h'
  rcases h'.1.2 with h3 | h3
  · simp at h3
  · exact h2 h3.1 (by simpa using h3.2)
theorem digsOk_dig {p : Bool} {d : List UInt8} {k : Nat} (h : k < d.length) (h2 : isDig d[k] = false) : digsOk p d = false := by
  rw [← Bool.not_eq_true]
  intro h'
  simp only [digsOk, Bool.and_eq_true, List.all_eq_true] at h'
  have := h'.2 d[k] (List.getElem_mem h)
  rw [h2] at this
  exact absurd this (by decide)
theorem digsOk_yes {p : Bool} {d : List UInt8} (h1 : 1 ≤ d.length) (h2 : d.length ≤ 10) (h3 : d.head? ≠ some 48 ∨ (p = true ∧ d = [48])) (h4 : ∀ b ∈ d, isDig b = true) : digsOk p d = true := by
  simp only [digsOk, Bool.and_eq_true, decide_eq_true_eq, Bool.or_eq_true, List.all_eq_true]
  refine ⟨⟨⟨h1, h2⟩, ?_⟩, h4⟩
  rcases h3 with h3 | ⟨h3, h3'⟩
  · exact .inl (by simpa using h3)
  · exact .inr ⟨h3, by simpa using h3'⟩
theorem head_ba {d : BA} (h : 0 < d.size) : d.data.toList.head? = some d[0] := by
  rw [List.head?_eq_getElem?, List.getElem?_eq_getElem (by rw [Array.length_toList]; exact h), ba_get d 0 h]
theorem len_ba (d : BA) : d.data.toList.length = d.size := by rw [Array.length_toList]; rfl
theorem all_ba {d : BA} {p : UInt8 → Prop} (h : ∀ j (hj : j < d.size), p d[j]) : ∀ b ∈ d.data.toList, p b := by
  intro b hb
  obtain ⟨j, hj, rfl⟩ := List.getElem_of_mem hb
  have hjs : j < d.size := by rw [Array.length_toList] at hj; exact hj
  have := h j hjs
  rw [← ba_get d j hjs] at this
  exact this

/-- The number that a word is, as the program finds it. -/
def numB (s : BA) : Option Int :=
  match Lib.parseIntB 64 s.data.toList with
  | .ok v => if (⟨(Lib.itoa v).toArray⟩ : BA) = s ∧ -1000000000 ≤ v ∧ v ≤ 1000000000 then some v else none
  | _ => none

theorem dec_small {u : Nat} (h : u < 10) : Lib.decDigits u = [UInt8.ofNat (48 + u)] := by rw [Lib.decDigits, dif_pos h]
theorem dec_big {u : Nat} (h : ¬ u < 10) : Lib.decDigits u = Lib.decDigits (u / 10) ++ [UInt8.ofNat (48 + u % 10)] := by rw [Lib.decDigits, dif_neg h]
theorem u8_nat {n : Nat} (h : n < 256) : (UInt8.ofNat n).toNat = n := by simp; omega
theorem isDig_dec : ∀ u : Nat, ∀ b ∈ Lib.decDigits u, isDig b = true := by
  intro u
  induction u using Nat.strongRecOn with
  | _ u ih =>
    intro b hb
    by_cases h : u < 10
    · rw [dec_small h, List.mem_singleton] at hb
      subst hb
      have := u8_nat (n := 48 + u) (by omega)
      exact isDig_of (by omega) (by omega)
    · rw [dec_big h, List.mem_append, List.mem_singleton] at hb
      rcases hb with hb | rfl
      · exact ih (u / 10) (by omega) b hb
      · have := u8_nat (n := 48 + u % 10) (by omega)
        exact isDig_of (by omega) (by omega)
theorem digVal_dec : ∀ u : Nat, digVal 0 (Lib.decDigits u) = u := by
  intro u
  induction u using Nat.strongRecOn with
  | _ u ih =>
    by_cases h : u < 10
    · rw [dec_small h, digVal_cons, digVal_nil, u8_nat (by omega)]; omega
    · rw [dec_big h, digVal_snoc, ih (u / 10) (by omega), u8_nat (by omega)]; omega
theorem dec_ne (u : Nat) : Lib.decDigits u ≠ [] := by
  by_cases h : u < 10
  · rw [dec_small h]; simp
  · rw [dec_big h]; simp
theorem head_dec : ∀ u : Nat, 0 < u → (Lib.decDigits u).head? ≠ some 48 := by
  intro u
  induction u using Nat.strongRecOn with
  | _ u ih =>
    intro h0
    by_cases h : u < 10
    · rw [dec_small h]
      intro e
      simp only [List.head?_cons, Option.some.injEq] at e
      have := congrArg UInt8.toNat e
      rw [u8_nat (by omega)] at this
      have h2 : (48 : UInt8).toNat = 48 := rfl
      omega
    · rw [dec_big h]
      have := ih (u / 10) (by omega) (by omega)
      cases hq : Lib.decDigits (u / 10) with
      | nil => exact absurd hq (dec_ne _)
      | cons x r => rw [hq] at this; simpa using this
theorem head_dec45 (u : Nat) : (Lib.decDigits u).head? ≠ some 45 := by
  cases hq : Lib.decDigits u with
  | nil => exact absurd hq (dec_ne _)
  | cons x r =>
    have := isDig_dec u x (by rw [hq]; simp)
    intro e
    simp only [List.head?_cons, Option.some.injEq] at e
    subst e
    exact absurd this (by decide)
theorem digVal_ge (l : List UInt8) : ∀ n, n ≤ digVal n l := by
  induction l with
  | nil => intro n; rw [digVal_nil]; exact Nat.le_refl _
  | cons b r ih => intro n; rw [digVal_cons]; have := ih (10 * n + (b.toNat - 48)); omega
theorem digVal_pos {l : List UInt8} (hd : ∀ b ∈ l, isDig b = true) (hn : l ≠ []) (h48 : l.head? ≠ some 48) : 0 < digVal 0 l := by
  cases l with
  | nil => exact absurd rfl hn
  | cons b r =>
    rw [digVal_cons]
    have h1 := digVal_ge r (10 * 0 + (b.toNat - 48))
    have hb := hd b (by simp)
    simp only [isDig, Bool.and_eq_true, decide_eq_true_eq] at hb
    have : b.toNat ≠ 48 := fun e => h48 (by simp only [List.head?_cons, Option.some.injEq]; exact UInt8.toNat_inj.1 e)
    omega
theorem ofNat_dig {b : UInt8} (h : isDig b = true) : UInt8.ofNat (48 + (b.toNat - 48)) = b := by
  simp only [isDig, Bool.and_eq_true, decide_eq_true_eq] at h
  apply UInt8.toNat_inj.1
  rw [u8_nat (by omega)]
  omega
theorem dec_digVal_aux : ∀ (n : Nat) (d : List UInt8), d.length = n → (∀ b ∈ d, isDig b = true) → d ≠ [] → (d.head? ≠ some 48 ∨ d = [48]) → Lib.decDigits (digVal 0 d) = d := by
  intro n
  induction n with
  | zero => intro d hl _ hn; exact absurd (List.eq_nil_of_length_eq_zero hl) hn
  | succ n ih =>
    intro d hl hd hn h48
    have hs : d = d.dropLast ++ [d.getLast hn] := (List.dropLast_concat_getLast hn).symm
    generalize d.getLast hn = b at hs
    generalize d.dropLast = d' at hs
    subst hs
    have hb := hd b (by simp)
    have hb' := hb
    simp only [isDig, Bool.and_eq_true, decide_eq_true_eq] at hb'
    rw [digVal_snoc]
    by_cases hn' : d' = []
    · subst hn'
      rw [digVal_nil, dec_small (by omega)]
      simp only [Nat.mul_zero, Nat.zero_add, List.nil_append]
      rw [ofNat_dig hb]
    · have hh : d'.head? ≠ some 48 := by
        rcases h48 with h | h
        · cases d' with
          | nil => exact absurd rfl hn'
          | cons x r => simpa using h
        · cases d' with
          | nil => exact absurd rfl hn'
          | cons x r => simp at h
      have hp := digVal_pos (fun x hx => hd x (by simp [hx])) hn' hh
      rw [dec_big (by omega), show (10 * digVal 0 d' + (b.toNat - 48)) / 10 = digVal 0 d' by omega, show (10 * digVal 0 d' + (b.toNat - 48)) % 10 = b.toNat - 48 by omega, ofNat_dig hb,
        ih d' (by simp at hl; exact hl) (fun x hx => hd x (by simp [hx])) hn' (.inl hh)]
theorem dec_digVal {d : List UInt8} (hd : ∀ b ∈ d, isDig b = true) (hn : d ≠ []) (h48 : d.head? ≠ some 48 ∨ d = [48]) : Lib.decDigits (digVal 0 d) = d := dec_digVal_aux _ d rfl hd hn h48
theorem parseM_ok (M : Nat) : ∀ (l : List UInt8) (acc : Nat), (∀ b ∈ l, isDig b = true) → digVal acc l ≤ M → digVal acc l < 18446744073709551610 → Lib.parseUintM M acc l = .ok (digVal acc l) := by
  intro l
  induction l with
  | nil => intro acc _ _ _; rw [Lib.parseUintM, digVal_nil]
  | cons b r ih =>
    intro acc hd hM h64
    have hb := hd b (by simp)
    simp only [isDig, Bool.and_eq_true, decide_eq_true_eq] at hb
    rw [digVal_cons] at hM h64 ⊢
    have hge := digVal_ge r (10 * acc + (b.toNat - 48))
    have e : acc * 10 + (b.toNat - 48) = 10 * acc + (b.toNat - 48) := by omega
    rw [Lib.parseUintM, if_pos hb, if_neg (by omega), e, if_neg (by omega)]
    exact ih _ (fun x hx => hd x (by simp [hx])) hM h64
theorem dec_len10 {u : Nat} (h : u ≤ 1000000000) : 1 ≤ (Lib.decDigits u).length ∧ (Lib.decDigits u).length ≤ 10 := by
  rw [Lib.decDigits_length]
  refine ⟨Lib.nDigits_pos u, ?_⟩
  rcases Nat.lt_or_ge 10 (Lib.nDigits u) with h' | h'
  · exfalso
    obtain ⟨k, hk⟩ : ∃ k, Lib.nDigits u = k + 1 := ⟨Lib.nDigits u - 1, by omega⟩
    have h1 : 10 ^ k ≤ u := by
      rcases Nat.lt_or_ge u (10 ^ k) with h2 | h2
      · exfalso
        have aux : ∀ (k u : Nat), u < 10 ^ (k + 1) → Lib.nDigits u ≤ k + 1 := by
          intro k
          induction k with
          | zero => intro u hu; rw [Lib.nDigits_small (by simpa using hu)]; omega
          | succ k ih =>
            intro u hu
            by_cases h10 : u < 10
            · rw [Lib.nDigits_small h10]; omega
            · rw [Lib.nDigits_big h10]
              have := ih (u / 10) (by rw [Nat.pow_succ] at hu; omega)
              omega
        cases k with
        | zero => omega
        | succ k => have := aux k u h2; omega
      · exact h2
    have h2 : (10 : Nat) ^ 10 ≤ 10 ^ k := Nat.pow_le_pow_right (by decide) (by omega)
    omega
  · exact h'
theorem itoa_pos (u : Nat) : Lib.itoa (u : Int) = Lib.decDigits u := by unfold Lib.itoa; rw [if_neg (by omega)]; simp
theorem itoa_minus (u : Nat) (h : 1 ≤ u) : Lib.itoa (-(u : Int)) = 45 :: Lib.decDigits u := by unfold Lib.itoa; rw [if_pos (by omega)]; simp
theorem ba_of_list {s : BA} {l : List UInt8} (h : s.data.toList = l) : (⟨l.toArray⟩ : BA) = s := by subst h; cases s; simp
theorem list_of_ba {s : BA} {l : List UInt8} (h : (⟨l.toArray⟩ : BA) = s) : s.data.toList = l := by subst h; simp

theorem numB_eq (s : BA) : numB s = numR s (-1000000000) 1000000000 := by
  have one : ∀ v, numB s = some v → numR s (-1000000000) 1000000000 = some v := by
    intro v h
    unfold numB at h
    split at h
    case h_2 => cases h
    case h_1 v' _ =>
      split at h
      case isFalse => cases h
      case isTrue hc =>
        injection h with h
        subst h
        obtain ⟨hs, hlo, hhi⟩ := hc
        have hl := list_of_ba hs
        unfold numR
        by_cases hv : v' < 0
        · obtain ⟨u, hu, rfl⟩ : ∃ u : Nat, 1 ≤ u ∧ v' = -(u : Int) := ⟨v'.natAbs, by omega, by omega⟩
          rw [itoa_minus u hu] at hl
          have hb := dec_len10 (u := u) (by omega)
          rw [hl, if_pos (by simp), List.tail_cons, digVal_dec, if_pos ⟨digsOk_yes hb.1 hb.2 (.inl (head_dec u (by omega))) (isDig_dec u), by omega, by omega⟩]
        · obtain ⟨u, rfl⟩ : ∃ u : Nat, v' = (u : Int) := ⟨v'.toNat, by omega⟩
          rw [itoa_pos u] at hl
          have hb := dec_len10 (u := u) (by omega)
          have h48 : (Lib.decDigits u).head? ≠ some 48 ∨ (true = true ∧ Lib.decDigits u = [48]) := by
            by_cases h0 : u = 0
            · subst h0; exact .inr ⟨rfl, by rw [dec_small (by omega)]; rfl⟩
            · exact .inl (head_dec u (by omega))
          rw [hl, if_neg (head_dec45 u), digVal_dec, if_pos ⟨digsOk_yes hb.1 hb.2 h48 (isDig_dec u), by omega, by omega⟩]
  have two : ∀ v, numR s (-1000000000) 1000000000 = some v → numB s = some v := by
    intro v h
    unfold numR at h
    split at h
    case isTrue h45 =>
      split at h
      case isFalse => cases h
      case isTrue hc =>
        injection h with h
        obtain ⟨hok, hlo, hhi⟩ := hc
        cases hq : s.data.toList with
        | nil => rw [hq] at h45; simp at h45
        | cons b r =>
          rw [hq] at h45 hok hlo hhi h
          simp only [List.head?_cons, Option.some.injEq] at h45
          subst h45
          rw [List.tail_cons] at hok hlo hhi h
          simp only [digsOk, Bool.and_eq_true, decide_eq_true_eq, Bool.or_eq_true, List.all_eq_true, Bool.false_and, Bool.false_eq_true, or_false] at hok
          obtain ⟨⟨⟨h1, h2⟩, h3⟩, h4⟩ := hok
          have h3' : r.head? ≠ some 48 := by simpa using h3
          have hn : r ≠ [] := fun e => by rw [e] at h1; simp at h1
          have hp := digVal_pos h4 hn h3'
          have hdec := dec_digVal h4 hn (.inl h3')
          have hparse : Lib.parseIntB 64 (45 :: r) = .ok (-(digVal 0 r : Int)) := by
            rw [Lib.parseIntB_minus, Lib.parseUintB, if_neg hn, parseM_ok _ r 0 h4 (by omega) (by omega)]
            simp only [Lib.signedC]
            rw [if_neg (by omega)]
          unfold numB
          rw [hq, hparse]
          show (if _ then _ else _) = _
          rw [if_pos ⟨ba_of_list (by rw [hq, itoa_minus _ (by omega), hdec]), hlo, hhi⟩, h]
    case isFalse h45 =>
      split at h
      case isFalse => cases h
      case isTrue hc =>
        injection h with h
        obtain ⟨hok, hlo, hhi⟩ := hc
        cases hq : s.data.toList with
        | nil => rw [hq] at hok; simp [digsOk] at hok
        | cons b r =>
          rw [hq] at h45 hok hlo hhi h
          have hok' := hok
          simp only [digsOk, Bool.and_eq_true, decide_eq_true_eq, Bool.or_eq_true, List.all_eq_true, Bool.true_and] at hok'
          obtain ⟨⟨⟨h1, h2⟩, h3⟩, h4⟩ := hok'
          have h3' : (b :: r).head? ≠ some 48 ∨ (b :: r) = [48] := by
            rcases h3 with h3 | h3
            · exact .inl (by simpa using h3)
            · exact .inr (by simpa using h3)
          have hdec := dec_digVal h4 (by simp) h3'
          have hb := h4 b (by simp)
          simp only [isDig, Bool.and_eq_true, decide_eq_true_eq] at hb
          have hparse : Lib.parseIntB 64 (b :: r) = .ok (digVal 0 (b :: r) : Int) := by
            rw [Lib.parseIntB_plain 64 b r (by omega) (by omega), Lib.parseUintB, if_neg (by simp), parseM_ok _ (b :: r) 0 h4 (by omega) (by omega)]
            simp only [Lib.signlessC]
            rw [if_neg (by omega)]
          unfold numB
          rw [hq, hparse]
          show (if _ then _ else _) = _
          rw [if_pos ⟨ba_of_list (by rw [hq, itoa_pos, hdec]), hlo, hhi⟩, h]
  cases hq : numB s with
  | some v => exact (one v hq).symm
  | none =>
    cases hr : numR s (-1000000000) 1000000000 with
    | none => rfl
    | some v => rw [two v hr] at hq; cases hq

end Go.Proofs.YtbddcodljmglfaaGreatDoor
