/- Numbers as digits: of no program's run. And what follows on it. -/
import Derived.Lib.ParseIntB
import Derived.Lib.ParseIntBCases
import Derived.Lib.ItoaNum
import Derived.Lib.SplitLaws
set_option linter.unusedSimpArgs false
set_option linter.unusedVariables false
namespace Go.Proofs.YtbddcodljmglfaaGreatDoor

abbrev BA := ByteArray
theorem ba_get (s : BA) (k : Nat) (h : k < s.size) : s.data.toList[k]'(by rw [Array.length_toList]; exact h) = s[k] := rfl

/-- What digits come to. -/
def dig1 (n : Nat) (b : UInt8) : Nat := 10 * n + (b.toNat - 48)
def digVal (n : Nat) (l : List UInt8) : Nat := l.foldl dig1 n
def isDig (b : UInt8) : Bool := decide (48 ≤ b.toNat) && decide (b.toNat ≤ 57)
/-- Digits, 1 to 10 of them, the first not 0 but in '0' (plain: there is no sign). -/
def digsOk (plain : Bool) (d : List UInt8) : Bool := decide (1 ≤ d.length) && decide (d.length ≤ 10) && (!(d.head? == some 48) || (plain && d == [48])) && d.all isDig

def numR (s : BA) (lo hi : Int) : Option Int :=
  if s.data.toList.head? = some 45 then
    (if digsOk false s.data.toList.tail = true ∧ lo ≤ -(digVal 0 s.data.toList.tail : Int) ∧ -(digVal 0 s.data.toList.tail : Int) ≤ hi then some (-(digVal 0 s.data.toList.tail : Int)) else none)
  else (if digsOk true s.data.toList = true ∧ lo ≤ (digVal 0 s.data.toList : Int) ∧ (digVal 0 s.data.toList : Int) ≤ hi then some (digVal 0 s.data.toList : Int) else none)

theorem digVal_nil (n : Nat) : digVal n [] = n := by simp only [digVal, List.foldl_nil]
theorem digVal_cons (n : Nat) (x : UInt8) (r : List UInt8) : digVal n (x :: r) = digVal (10 * n + (x.toNat - 48)) r := by simp only [digVal, List.foldl_cons, dig1]
theorem digVal_snoc (l : List UInt8) (b : UInt8) : ∀ n, digVal n (l ++ [b]) = 10 * digVal n l + (b.toNat - 48) := by
  intro n; simp only [digVal, List.foldl_append, List.foldl_cons, List.foldl_nil, dig1]
theorem digVal_lt (l : List UInt8) (h : ∀ b ∈ l, isDig b = true) : ∀ n m, n < 10 ^ m → digVal n l < 10 ^ (m + l.length) := by
  induction l with
  | nil => intro n m h; rw [digVal_nil, List.length_nil, Nat.add_zero]; exact h
  | cons b r ih =>
    intro n m hn
    rw [digVal_cons, List.length_cons]
    have hb : b.toNat ≤ 57 := by have := h b (by simp); simp [isDig] at this; omega
    have := ih (fun x hx => h x (by simp [hx])) (10 * n + (b.toNat - 48)) (m + 1) (by rw [Nat.pow_succ]; omega)
    rw [show m + (r.length + 1) = m + 1 + r.length by omega]
    exact this

theorem take_succ_ba (d : BA) (k : Nat) (h : k < d.size) : d.data.toList.take (k + 1) = d.data.toList.take k ++ [d[k]] := by
  have hl : k < d.data.toList.length := by rw [Array.length_toList]; exact h
  rw [List.take_add_one, List.getElem?_eq_getElem hl, ba_get d k h]
  rfl


theorem isDig_of {b : UInt8} (h1 : 48 ≤ b.toNat) (h2 : b.toNat ≤ 57) : isDig b = true := by simp [isDig, h1, h2]
theorem digsOk_len {p : Bool} {d : List UInt8} (h : ¬ (1 ≤ d.length ∧ d.length ≤ 10)) : digsOk p d = false := by
  rw [← Bool.not_eq_true]
  intro h'
  simp only [digsOk, Bool.and_eq_true, decide_eq_true_eq] at h'
  exact h h'.1.1
theorem digsOk_zero {p : Bool} {d : List UInt8} (h : d.head? = some 48) (h2 : p = true → d ≠ [48]) : digsOk p d = false := by
  rw [← Bool.not_eq_true]
  intro h'
  simp only [digsOk, Bool.and_eq_true, decide_eq_true_eq, Bool.or_eq_true, h] at h'
  rcases h'.1.2 with h3 | h3
  · simp at h3
  · exact h2 h3.1 (by simpa using h3.2)
theorem digsOk_dig {p : Bool} {d : List UInt8} {k : Nat} (h : k < d.length) (h2 : isDig d[k] = false) : digsOk p d = false := by
  rw [← Bool.not_eq_true]
  intro h'
  simp only [digsOk, Bool.and_eq_true, List.all_eq_true] at h'
  have := h'.2 d[k] (List.getElem_mem h)
  rw [h2] at this
  exact absurd this (by decide)
theorem digsOk_yes {p : Bool} {d : List UInt8} (h1 : 1 ≤ d.length) (h2 : d.length ≤ 10) (h3 : d.head? ≠ some 48 ∨ (p = true ∧ d = [48])) (h4 : ∀ b ∈ d, isDig b = true) : digsOk p d = true := by
  simp only [digsOk, Bool.and_eq_true, decide_eq_true_eq, Bool.or_eq_true, List.all_eq_true]
  refine ⟨⟨⟨h1, h2⟩, ?_⟩, h4⟩
  rcases h3 with h3 | ⟨h3, h3'⟩
  · exact .inl (by simpa using h3)
  · exact .inr ⟨h3, by simpa using h3'⟩
theorem head_ba {d : BA} (h : 0 < d.size) : d.data.toList.head? = some d[0] := by
  rw [List.head?_eq_getElem?, List.getElem?_eq_getElem (by rw [Array.length_toList]; exact h), ba_get d 0 h]
theorem len_ba (d : BA) : d.data.toList.length = d.size := by rw [Array.length_toList]; rfl
theorem all_ba {d : BA} {p : UInt8 → Prop} (h : ∀ j (hj : j < d.size), p d[j]) : ∀ b ∈ d.data.toList, p b := by
  intro b hb
  obtain ⟨j, hj, rfl⟩ := List.getElem_of_mem hb
  have hjs : j < d.size := by rw [Array.length_toList] at hj; exact hj
  have := h j hjs
  rw [← ba_get d j hjs] at this
  exact this

/-- The number that a word is, as the program finds it. -/
def numB (s : BA) : Option Int :=
  match Lib.parseIntB 64 s.data.toList with
  | .ok v => if (⟨(Lib.itoa v).toArray⟩ : BA) = s ∧ -1000000000 ≤ v ∧ v ≤ 1000000000 then some v else none
  | _ => none

theorem dec_small {u : Nat} (h : u < 10) : Lib.decDigits u = [UInt8.ofNat (48 + u)] := by rw [Lib.decDigits, dif_pos h]
theorem dec_big {u : Nat} (h : ¬ u < 10) : Lib.decDigits u = Lib.decDigits (u / 10) ++ [UInt8.ofNat (48 + u % 10)] := by rw [Lib.decDigits, dif_neg h]
theorem u8_nat {n : Nat} (h : n < 256) : (UInt8.ofNat n).toNat = n := by simp; omega
theorem isDig_dec : ∀ u : Nat, ∀ b ∈ Lib.decDigits u, isDig b = true := by
  intro u
  induction u using Nat.strongRecOn with
  | _ u ih =>
    intro b hb
    by_cases h : u < 10
    · rw [dec_small h, List.mem_singleton] at hb
      subst hb
      have := u8_nat (n := 48 + u) (by omega)
      exact isDig_of (by omega) (by omega)
    · rw [dec_big h, List.mem_append, List.mem_singleton] at hb
      rcases hb with hb | rfl
      · exact ih (u / 10) (by omega) b hb
      · have := u8_nat (n := 48 + u % 10) (by omega)
        exact isDig_of (by omega) (by omega)
theorem digVal_dec : ∀ u : Nat, digVal 0 (Lib.decDigits u) = u := by
  intro u
  induction u using Nat.strongRecOn with
  | _ u ih =>
    by_cases h : u < 10
    · rw [dec_small h, digVal_cons, digVal_nil, u8_nat (by omega)]; omega
    · rw [dec_big h, digVal_snoc, ih (u / 10) (by omega), u8_nat (by omega)]; omega
theorem dec_ne (u : Nat) : Lib.decDigits u ≠ [] := by
  by_cases h : u < 10
  · rw [dec_small h]; simp
  · rw [dec_big h]; simp
theorem head_dec : ∀ u : Nat, 0 < u → (Lib.decDigits u).head? ≠ some 48 := by
  intro u
  induction u using Nat.strongRecOn with
  | _ u ih =>
    intro h0
    by_cases h : u < 10
    · rw [dec_small h]
      intro e
      simp only [List.head?_cons, Option.some.injEq] at e
      have := congrArg UInt8.toNat e
      rw [u8_nat (by omega)] at this
      have h2 : (48 : UInt8).toNat = 48 := rfl
      omega
    · rw [dec_big h]
      have := ih (u / 10) (by omega) (by omega)
      cases hq : Lib.decDigits (u / 10) with
      | nil => exact absurd hq (dec_ne _)
      | cons x r => rw [hq] at this; simpa using this
theorem head_dec45 (u : Nat) : (Lib.decDigits u).head? ≠ some 45 := by
  cases hq : Lib.decDigits u with
  | nil => exact absurd hq (dec_ne _)
  | cons x r =>
    have := isDig_dec u x (by rw [hq]; simp)
    intro e
    simp only [List.head?_cons, Option.some.injEq] at e
    subst e
    exact absurd this (by decide)
theorem digVal_ge (l : List UInt8) : ∀ n, n ≤ digVal n l := by
  induction l with
  | nil => intro n; rw [digVal_nil]; exact Nat.le_refl _
  | cons b r ih => intro n; rw [digVal_cons]; have := ih (10 * n + (b.toNat - 48)); omega
theorem digVal_pos {l : List UInt8} (hd : ∀ b ∈ l, isDig b = true) (hn : l ≠ []) (h48 : l.head? ≠ some 48) : 0 < digVal 0 l := by
  cases l with
  | nil => exact absurd rfl hn
  | cons b r =>
    rw [digVal_cons]
    have h1 := digVal_ge r (10 * 0 + (b.toNat - 48))
    have hb := hd b (by simp)
    simp only [isDig, Bool.and_eq_true, decide_eq_true_eq] at hb
    have : b.toNat ≠ 48 := fun e => h48 (by simp only [List.head?_cons, Option.some.injEq]; exact UInt8.toNat_inj.1 e)
    omega
theorem ofNat_dig {b : UInt8} (h : isDig b = true) : UInt8.ofNat (48 + (b.toNat - 48)) = b := by
  simp only [isDig, Bool.and_eq_true, decide_eq_true_eq] at h
  apply UInt8.toNat_inj.1
  rw [u8_nat (by omega)]
  omega
theorem dec_digVal_aux : ∀ (n : Nat) (d : List UInt8), d.length = n → (∀ b ∈ d, isDig b = true) → d ≠ [] → (d.head? ≠ some 48 ∨ d = [48]) → Lib.decDigits (digVal 0 d) = d := by
  intro n
  induction n with
  | zero => intro d hl _ hn; exact absurd (List.eq_nil_of_length_eq_zero hl) hn
  | succ n ih =>
    intro d hl hd hn h48
    have hs : d = d.dropLast ++ [d.getLast hn] := (List.dropLast_concat_getLast hn).symm
    generalize d.getLast hn = b at hs
    generalize d.dropLast = d' at hs
    subst hs
    have hb := hd b (by simp)
    have hb' := hb
    simp only [isDig, Bool.and_eq_true, decide_eq_true_eq] at hb'
    rw [digVal_snoc]
    by_cases hn' : d' = []
    · subst hn'
      rw [digVal_nil, dec_small (by omega)]
      simp only [Nat.mul_zero, Nat.zero_add, List.nil_append]
      rw [ofNat_dig hb]
    · have hh : d'.head? ≠ some 48 := by
        rcases h48 with h | h
        · cases d' with
          | nil => exact absurd rfl hn'
          | cons x r => simpa using h
        · cases d' with
          | nil => exact absurd rfl hn'
          | cons x r => simp at h
      have hp := digVal_pos (fun x hx => hd x (by simp [hx])) hn' hh
      rw [dec_big (by omega), show (10 * digVal 0 d' + (b.toNat - 48)) / 10 = digVal 0 d' by omega, show (10 * digVal 0 d' + (b.toNat - 48)) % 10 = b.toNat - 48 by omega, ofNat_dig hb,
        ih d' (by simp at hl; exact hl) (fun x hx => hd x (by simp [hx])) hn' (.inl hh)]
theorem dec_digVal {d : List UInt8} (hd : ∀ b ∈ d, isDig b = true) (hn : d ≠ []) (h48 : d.head? ≠ some 48 ∨ d = [48]) : Lib.decDigits (digVal 0 d) = d := dec_digVal_aux _ d rfl hd hn h48
theorem parseM_ok (M : Nat) : ∀ (l : List UInt8) (acc : Nat), (∀ b ∈ l, isDig b = true) → digVal acc l ≤ M → digVal acc l < 18446744073709551610 → Lib.parseUintM M acc l = .ok (digVal acc l) := by
  intro l
  induction l with
  | nil => intro acc _ _ _; rw [Lib.parseUintM, digVal_nil]
  | cons b r ih =>
    intro acc hd hM h64
    have hb := hd b (by simp)
    simp only [isDig, Bool.and_eq_true, decide_eq_true_eq] at hb
    rw [digVal_cons] at hM h64 ⊢
    have hge := digVal_ge r (10 * acc + (b.toNat - 48))
    have e : acc * 10 + (b.toNat - 48) = 10 * acc + (b.toNat - 48) := by omega
    rw [Lib.parseUintM, if_pos hb, if_neg (by omega), e, if_neg (by omega)]
    exact ih _ (fun x hx => hd x (by simp [hx])) hM h64
theorem dec_len10 {u : Nat} (h : u ≤ 1000000000) : 1 ≤ (Lib.decDigits u).length ∧ (Lib.decDigits u).length ≤ 10 := by
  rw [Lib.decDigits_length]
  refine ⟨Lib.nDigits_pos u, ?_⟩
  rcases Nat.lt_or_ge 10 (Lib.nDigits u) with h' | h'
  · exfalso
    obtain ⟨k, hk⟩ : ∃ k, Lib.nDigits u = k + 1 := ⟨Lib.nDigits u - 1, by omega⟩
    have h1 : 10 ^ k ≤ u := by
      rcases Nat.lt_or_ge u (10 ^ k) with h2 | h2
      · exfalso
        have aux : ∀ (k u : Nat), u < 10 ^ (k + 1) → Lib.nDigits u ≤ k + 1 := by
          intro k
          induction k with
          | zero => intro u hu; rw [Lib.nDigits_small (by simpa using hu)]; omega
          | succ k ih =>
            intro u hu
            by_cases h10 : u < 10
            · rw [Lib.nDigits_small h10]; omega
            · rw [Lib.nDigits_big h10]
              have := ih (u / 10) (by rw [Nat.pow_succ] at hu; omega)
              omega
        cases k with
        | zero => omega
        | succ k => have := aux k u h2; omega
      · exact h2
    have h2 : (10 : Nat) ^ 10 ≤ 10 ^ k := Nat.pow_le_pow_right (by decide) (by omega)
    omega
  · exact h'
theorem itoa_pos (u : Nat) : Lib.itoa (u : Int) = Lib.decDigits u := by unfold Lib.itoa; rw [if_neg (by omega)]; simp
theorem itoa_minus (u : Nat) (h : 1 ≤ u) : Lib.itoa (-(u : Int)) = 45 :: Lib.decDigits u := by unfold Lib.itoa; rw [if_pos (by omega)]; simp
theorem ba_of_list {s : BA} {l : List UInt8} (h : s.data.toList = l) : (⟨l.toArray⟩ : BA) = s := by subst h; cases s; simp
theorem list_of_ba {s : BA} {l : List UInt8} (h : (⟨l.toArray⟩ : BA) = s) : s.data.toList = l := by subst h; simp

theorem numB_eq (s : BA) : numB s = numR s (-1000000000) 1000000000 := by
  have one : ∀ v, numB s = some v → numR s (-1000000000) 1000000000 = some v := by
    intro v h
    unfold numB at h
    split at h
    case h_2 => cases h
    case h_1 v' _ =>
      split at h
      case isFalse => cases h
      case isTrue hc =>
        injection h with h
        subst h
        obtain ⟨hs, hlo, hhi⟩ := hc
        have hl := list_of_ba hs
        unfold numR
        by_cases hv : v' < 0
        · obtain ⟨u, hu, rfl⟩ : ∃ u : Nat, 1 ≤ u ∧ v' = -(u : Int) := ⟨v'.natAbs, by omega, by omega⟩
          rw [itoa_minus u hu] at hl
          have hb := dec_len10 (u := u) (by omega)
          rw [hl, if_pos (by simp), List.tail_cons, digVal_dec, if_pos ⟨digsOk_yes hb.1 hb.2 (.inl (head_dec u (by omega))) (isDig_dec u), by omega, by omega⟩]
        · obtain ⟨u, rfl⟩ : ∃ u : Nat, v' = (u : Int) := ⟨v'.toNat, by omega⟩
          rw [itoa_pos u] at hl
          have hb := dec_len10 (u := u) (by omega)
          have h48 : (Lib.decDigits u).head? ≠ some 48 ∨ (true = true ∧ Lib.decDigits u = [48]) := by
            by_cases h0 : u = 0
            · subst h0; exact .inr ⟨rfl, by rw [dec_small (by omega)]; rfl⟩
            · exact .inl (head_dec u (by omega))
          rw [hl, if_neg (head_dec45 u), digVal_dec, if_pos ⟨digsOk_yes hb.1 hb.2 h48 (isDig_dec u), by omega, by omega⟩]
  have two : ∀ v, numR s (-1000000000) 1000000000 = some v → numB s = some v := by
    intro v h
    unfold numR at h
    split at h
    case isTrue h45 =>
      split at h
      case isFalse => cases h
      case isTrue hc =>
        injection h with h
        obtain ⟨hok, hlo, hhi⟩ := hc
        cases hq : s.data.toList with
        | nil => rw [hq] at h45; simp at h45
        | cons b r =>
          rw [hq] at h45 hok hlo hhi h
          simp only [List.head?_cons, Option.some.injEq] at h45
          subst h45
          rw [List.tail_cons] at hok hlo hhi h
          simp only [digsOk, Bool.and_eq_true, decide_eq_true_eq, Bool.or_eq_true, List.all_eq_true, Bool.false_and, Bool.false_eq_true, or_false] at hok
          obtain ⟨⟨⟨h1, h2⟩, h3⟩, h4⟩ := hok
          have h3' : r.head? ≠ some 48 := by simpa using h3
          have hn : r ≠ [] := fun e => by rw [e] at h1; simp at h1
          have hp := digVal_pos h4 hn h3'
          have hdec := dec_digVal h4 hn (.inl h3')
          have hparse : Lib.parseIntB 64 (45 :: r) = .ok (-(digVal 0 r : Int)) := by
            rw [Lib.parseIntB_minus, Lib.parseUintB, if_neg hn, parseM_ok _ r 0 h4 (by omega) (by omega)]
            simp only [Lib.signedC]
            rw [if_neg (by omega)]
          unfold numB
          rw [hq, hparse]
          show (if _ then _ else _) = _
          rw [if_pos ⟨ba_of_list (by rw [hq, itoa_minus _ (by omega), hdec]), hlo, hhi⟩, h]
    case isFalse h45 =>
      split at h
      case isFalse => cases h
      case isTrue hc =>
        injection h with h
        obtain ⟨hok, hlo, hhi⟩ := hc
        cases hq : s.data.toList with
        | nil => rw [hq] at hok; simp [digsOk] at hok
        | cons b r =>
          rw [hq] at h45 hok hlo hhi h
          have hok' := hok
          simp only [digsOk, Bool.and_eq_true, decide_eq_true_eq, Bool.or_eq_true, List.all_eq_true, Bool.true_and] at hok'
          obtain ⟨⟨⟨h1, h2⟩, h3⟩, h4⟩ := hok'
          have h3' : (b :: r).head? ≠ some 48 ∨ (b :: r) = [48] := by
            rcases h3 with h3 | h3
            · exact .inl (by simpa using h3)
            · exact .inr (by simpa using h3)
          have hdec := dec_digVal h4 (by simp) h3'
          have hb := h4 b (by simp)
          simp only [isDig, Bool.and_eq_true, decide_eq_true_eq] at hb
          have hparse : Lib.parseIntB 64 (b :: r) = .ok (digVal 0 (b :: r) : Int) := by
            rw [Lib.parseIntB_plain 64 b r (by omega) (by omega), Lib.parseUintB, if_neg (by simp), parseM_ok _ (b :: r) 0 h4 (by omega) (by omega)]
            simp only [Lib.signlessC]
            rw [if_neg (by omega)]
          unfold numB
          rw [hq, hparse]
          show (if _ then _ else _) = _
          rw [if_pos ⟨ba_of_list (by rw [hq, itoa_pos, hdec]), hlo, hhi⟩, h]
  cases hq : numB s with
  | some v => exact (one v hq).symm
  | none =>
    cases hr : numR s (-1000000000) 1000000000 with
    | none => rfl
    | some v => rw [two v hr] at hq; cases hq

end Go.Proofs.YtbddcodljmglfaaGreatDoor

namespace Go.Proofs.YtbddcodljmglfaaGreatDoor

def isNm (s : BA) : Bool := decide (1 ≤ s.size) && decide (s.size ≤ 3) && s.data.toList.all (fun b => decide (97 ≤ b.toNat) && decide (b.toNat ≤ 122))

/-- Which word a text is, by its row. -/
def kindOf (s : BA) : Option Nat :=
  if (ByteArray.toList s == [115, 101, 116]) = true then some 0 else if (ByteArray.toList s == [99, 111, 112, 121]) = true then some 1 else if (ByteArray.toList s == [97, 100, 100]) = true then some 2 else
  if (ByteArray.toList s == [115, 117, 98]) = true then some 3 else if (ByteArray.toList s == [109, 117, 108]) = true then some 4 else if (ByteArray.toList s == [108, 101, 115, 115]) = true then some 5 else
  if (ByteArray.toList s == [111, 117, 116]) = true then some 6 else if (ByteArray.toList s == [103, 111, 116, 111]) = true then some 7 else if (ByteArray.toList s == [105, 102]) = true then some 8 else
  if (ByteArray.toList s == [101, 110, 100]) = true then some 9 else none

/-- What stands behind a word: 1 what it sets, 2 what it takes, 3 a number, 4 a block's. -/
def partsOf : Nat → List Nat
  | 0 => [1, 3]
  | 1 => [1, 2]
  | 2 => [1, 2, 2]
  | 3 => [1, 2, 2]
  | 4 => [1, 2, 2]
  | 5 => [1, 2, 2]
  | 6 => [2]
  | 7 => [4]
  | 8 => [2, 4, 4]
  | 9 => [2]
  | _ => []

def endsK (k : Nat) : Bool := k == 7 || k == 8 || k == 9

/-- The place of the first byte c, or none. -/
def cutAt (c : UInt8) (s : BA) : Option Nat := s.data.toList.findIdx? (· == c)
def cutHead (c : UInt8) (s : BA) : BA := match cutAt c s with | some i => s.extract 0 i | none => s
def cutTail (c : UInt8) (s : BA) : BA := match cutAt c s with | some i => s.extract (i + 1) s.size | none => ByteArray.empty

/-- A version: a name and a number (in programs 0). -/
abbrev Ver := BA × Nat
/-- Which version a word is; tg: 0 in programs, 1 in forms. -/
def readVer (tg : Nat) (s : BA) : Option Ver :=
  if tg = 0 then (if isNm s = true then some (s, 0) else none)
  else match numB (cutTail 46 s) with
    | some v => if isNm (cutHead 46 s) = true ∧ 0 ≤ v ∧ v ≤ 999 then some (cutHead 46 s, v.toNat) else none
    | none => none

theorem ba_ext {s t : BA} (h : ByteArray.toList s = ByteArray.toList t) : s = t := by
  rw [ByteArray.toList_eq, ByteArray.toList_eq] at h
  cases s
  cases t
  simpa using h

/-- Are two versions one? -/
def verEq (a b : Ver) : Bool := (ByteArray.toList a.1 == ByteArray.toList b.1) && decide ((a.2 : Int) = b.2)
theorem verEq_iff {a b : Ver} : verEq a b = true ↔ a = b := by
  simp only [verEq, Bool.and_eq_true, beq_iff_eq, decide_eq_true_eq]
  constructor
  · intro h; exact Prod.ext (ba_ext h.1) (by omega)
  · rintro rfl; exact ⟨rfl, rfl⟩
/-- Is it among these? -/
def verHas (l : List Ver) (v : Ver) : Bool := l.any fun x => verEq v x
theorem verHas_iff {l : List Ver} {v : Ver} : verHas l v = true ↔ v ∈ l := by
  simp only [verHas, List.any_eq_true, verEq_iff]
  exact ⟨fun ⟨x, hx, h⟩ => h ▸ hx, fun h => ⟨v, h, rfl⟩⟩

structure LineG where
  word : Nat
  sets : Ver
  takes : List Ver
  number : Int
  leads : List Nat

def noVer : Ver := (ByteArray.empty, 0)
def blkB (s : BA) : Option Nat := match numB s with | some v => if 0 ≤ v then some v.toNat else none | none => none

def addPart (tg p : Nat) (b : BA) (l : LineG) : Option LineG :=
  if p = 1 then (match readVer tg b with | some v => some { l with sets := v } | none => none)
  else if p = 2 then (match readVer tg b with | some v => some { l with takes := l.takes ++ [v] } | none => none)
  else if p = 3 then (match numB b with | some v => some { l with number := v } | none => none)
  else (match blkB b with | some n => some { l with leads := l.leads ++ [n] } | none => none)

def fillG (tg : Nat) : List Nat → List BA → LineG → Option LineG
  | [], [], l => some l
  | [], _ :: _, _ => none
  | _ :: _, [], _ => none
  | p :: ps, b :: bs, l => match addPart tg p b l with | some l' => fillG tg ps bs l' | none => none

def lineOf (tg : Nat) : List BA → Option LineG
  | [] => none
  | w :: bs => match kindOf w with | some k => fillG tg (partsOf k) bs ⟨k, noVer, [], 0, []⟩ | none => none

/-- The names of an args line. -/
def argsGo (tg : Nat) (acc : List Ver) : List BA → Option (List Ver)
  | [] => some acc
  | b :: r => match readVer tg b with | some v => if v.2 = 0 ∧ verHas acc v = false then argsGo tg (acc ++ [v]) r else none | none => none
def argsOf (tg : Nat) : List BA → Option (List Ver)
  | [] => none
  | w :: bs => if ByteArray.toList w = [97, 114, 103, 115] ∧ bs.length ≤ 4 then argsGo tg [] bs else none

end Go.Proofs.YtbddcodljmglfaaGreatDoor

namespace Go.Proofs.YtbddcodljmglfaaGreatDoor

/-- A text, at each byte c. -/
def cutsB (c : UInt8) : List UInt8 → List (List UInt8)
  | [] => [[]]
  | b :: r => if b = c then [] :: cutsB c r else match cutsB c r with | [] => [[b]] | x :: xs => (b :: x) :: xs
def ofL (l : List UInt8) : BA := ⟨l.toArray⟩
def cuts (c : UInt8) (s : BA) : List BA := (cutsB c s.data.toList).map ofL

theorem cutsB_ne (c : UInt8) (l : List UInt8) : cutsB c l ≠ [] := by
  cases l with
  | nil => simp [cutsB]
  | cons b r =>
    simp only [cutsB]
    split
    · simp
    · split <;> simp
theorem cutsB_none (c : UInt8) : ∀ (l : List UInt8), (∀ b ∈ l, b ≠ c) → cutsB c l = [l]
  | [], _ => rfl
  | b :: r, h => by
    simp only [cutsB, if_neg (h b (by simp)), cutsB_none c r (fun x hx => h x (by simp [hx]))]
theorem cutsB_hit (c : UInt8) : ∀ (l r : List UInt8), (∀ b ∈ l, b ≠ c) → cutsB c (l ++ c :: r) = l :: cutsB c r
  | [], r, _ => by simp [cutsB]
  | b :: l, r, h => by
    simp only [List.cons_append, cutsB, if_neg (h b (by simp)), cutsB_hit c l r (fun x hx => h x (by simp [hx]))]
theorem cutsB_length (c : UInt8) : ∀ l : List UInt8, (cutsB c l).length = l.count c + 1
  | [] => by simp [cutsB]
  | b :: r => by
    have ih := cutsB_length c r
    simp only [cutsB]
    by_cases h : b = c
    · subst h; simp [ih]
    · rw [if_neg h, List.count_cons_of_ne h]
      cases hq : cutsB c r with
      | nil => exact absurd hq (cutsB_ne c r)
      | cons x xs => rw [hq] at ih; simpa using ih

theorem ofL_eq {s : BA} {l : List UInt8} (h : s.data.toList = l) : ofL l = s := by
  subst h
  cases s
  simp [ofL]
theorem ofL_data (l : List UInt8) : (ofL l).data.toList = l := by simp [ofL]
theorem extract_list (s : BA) (a b : Nat) : (s.extract a b).data.toList = (s.data.toList.take b).drop a := by
  rw [Lib.extract_data]; simp [List.extract_eq_take_drop, List.drop_take]

theorem cuts_length (c : UInt8) (s : BA) : (cuts c s).length = s.data.toList.count c + 1 := by simp [cuts, cutsB_length]

/-- What is behind place 'from' of the text, cut. -/
theorem cutsB_step (c : UInt8) (s : BA) (a k : Nat) (hak : a ≤ k) (hk : k < s.size) (hc : s[k] = c) (hno : ∀ j (hj : j < s.size), a ≤ j → j < k → s[j] ≠ c) :
    cutsB c (s.data.toList.drop a) = (s.extract a k).data.toList :: cutsB c (s.data.toList.drop (k + 1)) := by
  have hl : s.data.toList.length = s.size := by rw [Array.length_toList]; rfl
  have e : s.data.toList.drop a = (s.extract a k).data.toList ++ c :: s.data.toList.drop (k + 1) := by
    have h1 : s.data.toList.drop k = c :: s.data.toList.drop (k + 1) := by
      rw [List.drop_eq_getElem_cons (by rw [hl]; exact hk), ba_get s k hk, hc]
    rw [extract_list, ← h1, List.drop_take]
    have h2 := List.take_append_drop (k - a) (s.data.toList.drop a)
    rw [List.drop_drop, show a + (k - a) = k by omega] at h2
    exact h2.symm
  rw [e]
  refine cutsB_hit c _ _ fun b hb => ?_
  rw [extract_list] at hb
  obtain ⟨j, hj, rfl⟩ := List.getElem_of_mem hb
  rw [List.length_drop, List.length_take, hl] at hj
  rw [List.getElem_drop, List.getElem_take, ba_get s (a + j) (by omega)]
  exact hno (a + j) (by omega) (by omega) (by omega)
theorem cutsB_last (c : UInt8) (s : BA) (a : Nat) (ha : a ≤ s.size) (hno : ∀ j (hj : j < s.size), a ≤ j → s[j] ≠ c) :
    cutsB c (s.data.toList.drop a) = [(s.extract a s.size).data.toList] := by
  have hl : s.data.toList.length = s.size := by rw [Array.length_toList]; rfl
  have e : (s.extract a s.size).data.toList = s.data.toList.drop a := by rw [extract_list, ← hl, List.take_length]
  rw [e]
  refine cutsB_none c _ fun b hb => ?_
  obtain ⟨j, hj, rfl⟩ := List.getElem_of_mem hb
  rw [List.length_drop, hl] at hj
  rw [List.getElem_drop, ba_get s (a + j) (by omega)]
  exact hno (a + j) (by omega) (by omega)

theorem indexByte_find (c : UInt8) : ∀ l : List UInt8, Lib.indexByte l c = match l.findIdx? (· == c) with | some i => (i : Int) | none => -1
  | [] => by simp [Lib.indexByte]
  | b :: l => by
    have ih := indexByte_find c l
    unfold Lib.indexByte
    rw [List.findIdx?_cons]
    by_cases h : (b == c) = true
    · simp [h]
    · rw [if_neg h, if_neg h, ih]
      cases hq : l.findIdx? (· == c) with
      | none => simp
      | some i => simp
theorem indexB_cut (c : UInt8) (s : BA) : Lib.indexB s ⟨#[c]⟩ = match cutAt c s with | some i => (i : Int) | none => -1 := by
  show Lib.index s.data.toList [c] = _
  rw [Lib.index_one, indexByte_find]
  rfl
theorem libCut_eq (c : UInt8) (s : BA) : (⟨(Lib.cut s.data.toList [c]).1.toArray⟩ : BA) = cutHead c s ∧ (⟨(Lib.cut s.data.toList [c]).2.1.toArray⟩ : BA) = cutTail c s := by
  have h := indexB_cut c s
  cases hq : cutAt c s with
  | none =>
    rw [hq] at h
    have := Lib.cutB_miss s ⟨#[c]⟩ h
    simp only [cutHead, cutTail, hq]
    exact ⟨this.1, this.2.1⟩
  | some i =>
    rw [hq] at h
    have := Lib.cutB_hit s ⟨#[c]⟩ i h
    simp only [cutHead, cutTail, hq]
    exact ⟨this.1, this.2.1⟩

theorem index_hit (c : UInt8) (a r : List UInt8) (h : ∀ b ∈ a, b ≠ c) : Lib.index (a ++ c :: r) [c] = (a.length : Int) := by
  rw [Lib.index_one]
  induction a with
  | nil => simp [Lib.indexByte]
  | cons b a ih =>
    have hb := h b (by simp)
    have := ih (fun x hx => h x (by simp [hx]))
    rw [List.cons_append, Lib.indexByte, this, if_neg (by simpa using hb), if_neg (by simp)]
    simp
theorem index_miss (c : UInt8) (a : List UInt8) (h : ∀ b ∈ a, b ≠ c) : Lib.index a [c] = -1 := by
  rw [Lib.index_one]
  induction a with
  | nil => simp [Lib.indexByte]
  | cons b a ih =>
    have hb := h b (by simp)
    have := ih (fun x hx => h x (by simp [hx]))
    rw [Lib.indexByte, this, if_neg (by simpa using hb)]
    simp
theorem first_cut (c : UInt8) : ∀ l : List UInt8, (∀ b ∈ l, b ≠ c) ∨ ∃ a r, l = a ++ c :: r ∧ ∀ b ∈ a, b ≠ c
  | [] => .inl (by simp)
  | b :: l => by
    by_cases h : b = c
    · subst h; exact .inr ⟨[], l, rfl, by simp⟩
    · rcases first_cut c l with h1 | ⟨a, r, rfl, h2⟩
      · exact .inl (by intro x hx; rcases List.mem_cons.1 hx with rfl | hx; exact h; exact h1 x hx)
      · exact .inr ⟨b :: a, r, rfl, by intro x hx; rcases List.mem_cons.1 hx with rfl | hx; exact h; exact h2 x hx⟩
theorem count_free {c : UInt8} {l : List UInt8} (h : ∀ b ∈ l, b ≠ c) : l.count c = 0 := List.count_eq_zero.2 fun hm => h c hm rfl
theorem splitK_all (c : UInt8) : ∀ (k : Nat) (l : List UInt8), l.count c ≤ k → Lib.splitK [c] 0 k l = cutsB c l
  | 0, l, h => by
    rcases first_cut c l with h1 | ⟨a, r, rfl, h2⟩
    · rw [cutsB_none c l h1]; rfl
    · simp at h
  | k + 1, l, h => by
    rcases first_cut c l with h1 | ⟨a, r, rfl, h2⟩
    · rw [cutsB_none c l h1, Lib.splitK, index_miss c l h1]; rfl
    · have hc := count_free h2
      rw [List.count_append, hc, List.count_cons_self] at h
      rw [cutsB_hit c a r h2, Lib.splitK, index_hit c a r h2, if_neg (by simp)]
      simp only [Int.toNat_natCast, Nat.add_zero, List.length_cons, List.length_nil, Nat.zero_add]
      rw [List.take_left, show a ++ c :: r = (a ++ [c]) ++ r by simp, show a.length + 1 = (a ++ [c]).length by simp, List.drop_left, splitK_all c k r (by omega)]
theorem splitK_few (c : UInt8) : ∀ (k : Nat) (l : List UInt8), k < l.count c → (Lib.splitK [c] 0 k l).length = k + 1 ∧ (Lib.splitK [c] 0 k l).take k = (cutsB c l).take k
  | 0, l, h => by simp [Lib.splitK]
  | k + 1, l, h => by
    rcases first_cut c l with h1 | ⟨a, r, rfl, h2⟩
    · rw [count_free h1] at h; omega
    · have hc := count_free h2
      rw [List.count_append, hc, List.count_cons_self] at h
      have ih := splitK_few c k r (by omega)
      rw [cutsB_hit c a r h2, Lib.splitK, index_hit c a r h2, if_neg (by simp)]
      simp only [Int.toNat_natCast, Nat.add_zero, List.length_cons, List.length_nil, Nat.zero_add]
      rw [List.take_left, show a ++ c :: r = (a ++ [c]) ++ r by simp, show a.length + 1 = (a ++ [c]).length by simp, List.drop_left]
      simp [ih.1, ih.2]
theorem map_ofL {L : List BA} {M : List (List UInt8)} (h : L.map (·.data.toList) = M) : L = M.map ofL := by
  subst h
  rw [List.map_map]
  conv => lhs; rw [← List.map_id L]
  apply List.map_congr_left
  intro x _
  exact (ofL_eq rfl).symm
theorem splitB_cuts (c : UInt8) (s : BA) : Lib.splitB ⟨#[c]⟩ 0 (Lib.countB s ⟨#[c]⟩) s = cuts c s := by
  refine map_ofL ?_
  rw [Lib.splitB_data]
  show Lib.splitK [c] 0 (Lib.count s.data.toList [c]) _ = _
  rw [Lib.count_one]
  exact splitK_all c _ _ (Nat.le_refl _)
/-- What SplitN gives: n pieces at most. -/
def cutsN (c : UInt8) (n : Nat) (s : BA) : List BA := Lib.splitB ⟨#[c]⟩ 0 (min n (s.size + 1) - 1) s
theorem cutsN_eq (c : UInt8) (n : Nat) (s : BA) (hn : 1 ≤ n) (h : (cuts c s).length ≤ n) : cutsN c n s = cuts c s := by
  rw [cuts_length] at h
  have hl : s.data.toList.count c ≤ s.size := by have := List.count_le_length (a := c) (l := s.data.toList); rw [len_ba] at this; exact this
  refine map_ofL ?_
  rw [cutsN.eq_1, Lib.splitB_data]
  exact splitK_all c _ _ (by omega)
theorem cutsN_few (c : UInt8) (n : Nat) (s : BA) (hn : 1 ≤ n) (h : n < (cuts c s).length) : (cutsN c n s).length = n ∧ (cutsN c n s).take (n - 1) = (cuts c s).take (n - 1) := by
  rw [cuts_length] at h
  have hl : s.data.toList.count c ≤ s.size := by have := List.count_le_length (a := c) (l := s.data.toList); rw [len_ba] at this; exact this
  have hk : min n (s.size + 1) - 1 = n - 1 := by omega
  have h2 := splitK_few c (n - 1) s.data.toList (by omega)
  have h3 : (cutsN c n s).map (·.data.toList) = Lib.splitK [c] 0 (n - 1) s.data.toList := by rw [cutsN, Lib.splitB_data, hk]
  constructor
  · have := congrArg List.length h3
    rw [List.length_map] at this
    rw [this, h2.1]
    omega
  · rw [map_ofL h3, ← List.map_take, h2.2, cuts, List.map_take]
theorem cuts_ne (c : UInt8) (s : BA) : cuts c s ≠ [] := by
  intro h
  exact cutsB_ne c _ (List.map_eq_nil_iff.1 h)
theorem cuts_size (c : UInt8) (s : BA) : ∀ x ∈ cuts c s, x.size ≤ s.size := by
  intro x hx
  have aux : ∀ (l : List UInt8), ∀ y ∈ cutsB c l, y.length ≤ l.length := by
    intro l
    induction l with
    | nil => intro y hy; simp [cutsB] at hy; subst hy; simp
    | cons b r ih =>
      intro y hy
      simp only [cutsB] at hy
      split at hy
      · rcases List.mem_cons.1 hy with rfl | hy
        · simp
        · have := ih y hy; simp; omega
      · cases hq : cutsB c r with
        | nil => exact absurd hq (cutsB_ne c r)
        | cons z zs =>
          rw [hq] at hy ih
          rcases List.mem_cons.1 hy with rfl | hy
          · have := ih z (by simp); simp; omega
          · have := ih y (by simp [hy]); simp; omega
  obtain ⟨y, hy, rfl⟩ := List.mem_map.1 hx
  have := aux _ y hy
  rw [len_ba] at this
  show (ofL y).data.size ≤ _
  simpa [ofL] using this

end Go.Proofs.YtbddcodljmglfaaGreatDoor

namespace Go.Proofs.YtbddcodljmglfaaGreatDoor

/-- A phi: what it sets, and for each block ahead what it takes. -/
structure PhiG where
  sets : Ver
  choices : List (Nat × Ver)
structure BlockG where
  first : Nat
  phis : List PhiG
  lines : List LineG

def choiceOf (s : BA) : Option (Nat × Ver) :=
  match blkB (cutHead 58 s) with
  | some n => (match readVer 1 (cutTail 58 s) with | some v => some (n, v) | none => none)
  | none => none
def choicesOf : List BA → Option (List (Nat × Ver))
  | [] => some []
  | b :: r => match choiceOf b with
    | some c => (match choicesOf r with | some l => some (c :: l) | none => none)
    | none => none
/-- A phi, by its words; of its choices only so many are kept. -/
def phiOf : List BA → Option PhiG
  | p :: v :: cs => if ByteArray.toList p = [112, 104, 105] then (match readVer 1 v with
      | some sv => (match choicesOf cs with | some l => some ⟨sv, l.take 41⟩ | none => none)
      | none => none) else none
  | _ => none

/-- A program, as far as it is read: the blocks that have ended, and the one that is open. -/
structure PG where
  args : List Ver
  closed : List BlockG
  cur : Option BlockG

/-- A line within a block: the block with it, and whether it ends there. -/
def inB (tg : Nat) (b : BlockG) (s : BA) : Option (BlockG × Bool) :=
  match (if tg = 1 ∧ b.lines.length = 0 then phiOf (cuts 32 s) else none) with
  | some ph => some ({ b with phis := b.phis ++ [ph] }, false)
  | none => match lineOf tg (cuts 32 s) with
    | some l => some ({ b with lines := b.lines ++ [l] }, endsK l.word)
    | none => none

def stepL (tg mb i : Nat) (s : BA) (p : PG) : Option PG :=
  if i = 0 then (match argsOf tg (cuts 32 s) with | some a => some { p with args := a } | none => none)
  else match p.cur with
    | some b => (match inB tg b s with
      | some (b', true) => some { p with closed := p.closed ++ [b'], cur := none }
      | some (b', false) => some { p with cur := some b' }
      | none => none)
    | none => if ByteArray.toList s = [98, 108, 111, 99, 107] ∧ p.closed.length < mb then some { p with cur := some ⟨i + 1, [], []⟩ } else none

/-- All lines; the number of the line by which it is seen that they are none. -/
def runL (tg mb : Nat) : Nat → List BA → PG → Except Nat PG
  | i, [], p => if p.cur.isNone = true ∧ p.closed.length ≠ 0 then .ok p else .error i
  | i, s :: r, p => match stepL tg mb i s p with | some p' => runL tg mb (i + 1) r p' | none => .error i

def lostB (n : Nat) (b : BlockG) (j : Nat) : List LineG → Option Nat
  | [] => none
  | l :: r => if l.leads.any (fun k => decide (n ≤ k)) = true then some (b.first + b.phis.length + j) else lostB n b (j + 1) r
/-- The first line that leads to a block that there is not. -/
def lostG (n : Nat) : List BlockG → Option Nat
  | [] => none
  | b :: r => match lostB n b 0 b.lines with | some i => some i | none => lostG n r

/-- A text: the program, or the error and the line. -/
def readG (tg mb ml : Nat) (s : BA) : Except (Nat × Nat) (List Ver × List BlockG) :=
  if ml < (cuts 10 s).length then .error (6, 0)
  else match runL tg mb 0 (cuts 10 s) ⟨[], [], none⟩ with
    | .error i => .error (7, i)
    | .ok p => match lostG p.closed.length p.closed with
      | some i => .error (8, i)
      | none => .ok (p.args, p.closed)
end Go.Proofs.YtbddcodljmglfaaGreatDoor
