/- Texts cut at a byte: of no program's run. -/
import Derived.Test.YtbddcodljmglfaaGreatDoorSpec
import Derived.Lib.SplitLaws
set_option linter.unusedSimpArgs false
set_option linter.unusedVariables false
namespace Go.Proofs.YtbddcodljmglfaaGreatDoor

/-- A text, at each byte c. -/
def cutsB (c : UInt8) : List UInt8 → List (List UInt8)
  | [] => [[]]
  | b :: r => if b = c then [] :: cutsB c r else match cutsB c r with | [] => [[b]] | x :: xs => (b :: x) :: xs
def ofL (l : List UInt8) : BA := ⟨l.toArray⟩
def cuts (c : UInt8) (s : BA) : List BA := (cutsB c s.data.toList).map ofL

theorem cutsB_ne (c : UInt8) (l : List UInt8) : cutsB c l ≠ [] := by
  cases l with
  | nil => simp [cutsB]
  | cons b r =>
    simp only [cutsB]
    split
    · simp
    · split <;> simp
theorem cutsB_none (c : UInt8) : ∀ (l : List UInt8), (∀ b ∈ l, b ≠ c) → cutsB c l = [l]
  | [], _ => rfl
  | b :: r, h => by
    simp only [cutsB, if_neg (h b (by simp)), cutsB_none c r (fun x hx => h x (by simp [hx]))]
theorem cutsB_hit (c : UInt8) : ∀ (l r : List UInt8), (∀ b ∈ l, b ≠ c) → cutsB c (l ++ c :: r) = l :: cutsB c r
  | [], r, _ => by simp [cutsB]
  | b :: l, r, h => by
    simp only [List.cons_append, cutsB, if_neg (h b (by simp)), cutsB_hit c l r (fun x hx => h x (by simp [hx]))]
theorem cutsB_length (c : UInt8) : ∀ l : List UInt8, (cutsB c l).length = l.count c + 1
  | [] => by simp [cutsB]
  | b :: r => by
    have ih := cutsB_length c r
    simp only [cutsB]
    by_cases h : b = c
    · subst h; simp [ih]
    · rw [if_neg h, List.count_cons_of_ne h]
      cases hq : cutsB c r with
      | nil => exact absurd hq (cutsB_ne c r)
      | cons x xs => rw [hq] at ih; simpa using ih

theorem ofL_eq {s : BA} {l : List UInt8} (h : s.data.toList = l) : ofL l = s := by
  subst h
  cases s
  simp [ofL]
theorem ofL_data (l : List UInt8) : (ofL l).data.toList = l := by simp [ofL]
theorem extract_list (s : BA) (a b : Nat) : (s.extract a b).data.toList = (s.data.toList.take b).drop a := by
  rw [Lib.extract_data]; simp [List.extract_eq_take_drop, List.drop_take]

theorem cuts_length (c : UInt8) (s : BA) : (cuts c s).length = s.data.toList.count c + 1 := by simp [cuts, cutsB_length]

/-- What is behind place 'from' of the text, cut. -/
theorem cutsB_step (c : UInt8) (s : BA) (a k : Nat) (hak : a ≤ k) (hk : k < s.size) (hc : s[k] = c) (hno : ∀ j (hj : j < s.size), a ≤ j → j < k → s[j] ≠ c) :
    cutsB c (s.data.toList.drop a) = (s.extract a k).data.toList :: cutsB c (s.data.toList.drop (k + 1)) := by
  have hl : s.data.toList.length = s.size := by rw [Array.length_toList]; rfl
  have e : s.data.toList.drop a = (s.extract a k).data.toList ++ c :: s.data.toList.drop (k + 1) := by
    have h1 : s.data.toList.drop k = c :: s.data.toList.drop (k + 1) := by
      rw [List.drop_eq_getElem_cons (by rw [hl]; exact hk), ba_get s k hk, hc]
    rw [extract_list, ← h1, List.drop_take]
    have h2 := List.take_append_drop (k - a) (s.data.toList.drop a)
    rw [List.drop_drop, show a + (k - a) = k by omega] at h2
    exact h2.symm
  rw [e]
  refine cutsB_hit c _ _ fun b hb => ?_
  rw [extract_list] at hb
  obtain ⟨j, hj, rfl⟩ := List.getElem_of_mem hb
  rw [List.length_drop, List.length_take, hl] at hj
  rw [List.getElem_drop, List.getElem_take, ba_get s (a + j) (by omega)]
  exact hno (a + j) (by omega) (by omega) (by omega)
theorem cutsB_last (c : UInt8) (s : BA) (a : Nat) (ha : a ≤ s.size) (hno : ∀ j (hj : j < s.size), a ≤ j → s[j] ≠ c) :
    cutsB c (s.data.toList.drop a) = [(s.extract a s.size).data.toList] := by
  have hl : s.data.toList.length = s.size := by rw [Array.length_toList]; rfl
  have e : (s.extract a s.size).data.toList = s.data.toList.drop a := by rw [extract_list, ← hl, List.take_length]
  rw [e]
  refine cutsB_none c _ fun b hb => ?_
  obtain ⟨j, hj, rfl⟩ := List.getElem_of_mem hb
  rw [List.length_drop, hl] at hj
  rw [List.getElem_drop, ba_get s (a + j) (by omega)]
  exact hno (a + j) (by omega) (by omega)

theorem indexByte_find (c : UInt8) : ∀ l : List UInt8, Lib.indexByte l c = match l.findIdx? (· == c) with | some i => (i : Int) | none => -1
  | [] => by simp [Lib.indexByte]
  | b :: l => by
    have ih := indexByte_find c l
    unfold Lib.indexByte
    rw [List.findIdx?_cons]
    by_cases h : (b == c) = true
    · simp [h]
    · rw [if_neg h, if_neg h, ih]
      cases hq : l.findIdx? (· == c) with
      | none => simp
      | some i => simp
theorem indexB_cut (c : UInt8) (s : BA) : Lib.indexB s ⟨#[c]⟩ = match cutAt c s with | some i => (i : Int) | none => -1 := by
  show Lib.index s.data.toList [c] = _
  rw [Lib.index_one, indexByte_find]
  rfl
theorem libCut_eq (c : UInt8) (s : BA) : (⟨(Lib.cut s.data.toList [c]).1.toArray⟩ : BA) = cutHead c s ∧ (⟨(Lib.cut s.data.toList [c]).2.1.toArray⟩ : BA) = cutTail c s := by
  have h := indexB_cut c s
  cases hq : cutAt c s with
  | none =>
    rw [hq] at h
    have := Lib.cutB_miss s ⟨#[c]⟩ h
    simp only [cutHead, cutTail, hq]
    exact ⟨this.1, this.2.1⟩
  | some i =>
    rw [hq] at h
    have := Lib.cutB_hit s ⟨#[c]⟩ i h
    simp only [cutHead, cutTail, hq]
    exact ⟨this.1, this.2.1⟩

theorem index_hit (c : UInt8) (a r : List UInt8) (h : ∀ b ∈ a, b ≠ c) : Lib.index (a ++ c :: r) [c] = (a.length : Int) := by
  rw [Lib.index_one]
  induction a with
  | nil => simp [Lib.indexByte]
  | cons b a ih =>
    have hb := h b (by simp)
    have := ih (fun x hx => h x (by simp [hx]))
    rw [List.cons_append, Lib.indexByte, this, if_neg (by simpa using hb), if_neg (by simp)]
    simp
theorem index_miss (c : UInt8) (a : List UInt8) (h : ∀ b ∈ a, b ≠ c) : Lib.index a [c] = -1 := by
  rw [Lib.index_one]
  induction a with
  | nil => simp [Lib.indexByte]
  | cons b a ih =>
    have hb := h b (by simp)
    have := ih (fun x hx => h x (by simp [hx]))
    rw [Lib.indexByte, this, if_neg (by simpa using hb)]
    simp
theorem first_cut (c : UInt8) : ∀ l : List UInt8, (∀ b ∈ l, b ≠ c) ∨ ∃ a r, l = a ++ c :: r ∧ ∀ b ∈ a, b ≠ c
  | [] => .inl (by simp)
  | b :: l => by
    by_cases h : b = c
    · subst h; exact .inr ⟨[], l, rfl, by simp⟩
    · rcases first_cut c l with h1 | ⟨a, r, rfl, h2⟩
      · exact .inl (by intro x hx; rcases List.mem_cons.1 hx with rfl | hx; exact h; exact h1 x hx)
      · exact .inr ⟨b :: a, r, rfl, by intro x hx; rcases List.mem_cons.1 hx with rfl | hx; exact h; exact h2 x hx⟩
theorem count_free {c : UInt8} {l : List UInt8} (h : ∀ b ∈ l, b ≠ c) : l.count c = 0 := List.count_eq_zero.2 fun hm => h c hm rfl
theorem splitK_all (c : UInt8) : ∀ (k : Nat) (l : List UInt8), l.count c ≤ k → Lib.splitK [c] 0 k l = cutsB c l
  | 0, l, h => by
    rcases first_cut c l with h1 | ⟨a, r, rfl, h2⟩
    · rw [cutsB_none c l h1]; rfl
    · simp at h
  | k + 1, l, h => by
    rcases first_cut c l with h1 | ⟨a, r, rfl, h2⟩
    · rw [cutsB_none c l h1, Lib.splitK, index_miss c l h1]; rfl
    · have hc := count_free h2
      rw [List.count_append, hc, List.count_cons_self] at h
      rw [cutsB_hit c a r h2, Lib.splitK, index_hit c a r h2, if_neg (by simp)]
      simp only [Int.toNat_natCast, Nat.add_zero, List.length_cons, List.length_nil, Nat.zero_add]
      rw [List.take_left, show a ++ c :: r = (a ++ [c]) ++ r by simp, show a.length + 1 = (a ++ [c]).length by simp, List.drop_left, splitK_all c k r (by omega)]
theorem splitK_few (c : UInt8) : ∀ (k : Nat) (l : List UInt8), k < l.count c → (Lib.splitK [c] 0 k l).length = k + 1 ∧ (Lib.splitK [c] 0 k l).take k = (cutsB c l).take k
  | 0, l, h => by simp [Lib.splitK]
  | k + 1, l, h => by
    rcases first_cut c l with h1 | ⟨a, r, rfl, h2⟩
    · rw [count_free h1] at h; omega
    · have hc := count_free h2
      rw [List.count_append, hc, List.count_cons_self] at h
      have ih := splitK_few c k r (by omega)
      rw [cutsB_hit c a r h2, Lib.splitK, index_hit c a r h2, if_neg (by simp)]
      simp only [Int.toNat_natCast, Nat.add_zero, List.length_cons, List.length_nil, Nat.zero_add]
      rw [List.take_left, show a ++ c :: r = (a ++ [c]) ++ r by simp, show a.length + 1 = (a ++ [c]).length by simp, List.drop_left]
      simp [ih.1, ih.2]
theorem map_ofL {L : List BA} {M : List (List UInt8)} (h : L.map (·.data.toList) = M) : L = M.map ofL := by
  subst h
  rw [List.map_map]
  conv => lhs; rw [← List.map_id L]
  apply List.map_congr_left
  intro x _
  exact (ofL_eq rfl).symm
theorem splitB_cuts (c : UInt8) (s : BA) : Lib.splitB ⟨#[c]⟩ 0 (Lib.countB s ⟨#[c]⟩) s = cuts c s := by
  refine map_ofL ?_
  rw [Lib.splitB_data]
  show Lib.splitK [c] 0 (Lib.count s.data.toList [c]) _ = _
  rw [Lib.count_one]
  exact splitK_all c _ _ (Nat.le_refl _)
/-- What SplitN gives: n pieces at most. -/
def cutsN (c : UInt8) (n : Nat) (s : BA) : List BA := Lib.splitB ⟨#[c]⟩ 0 (min n (s.size + 1) - 1) s
theorem cutsN_eq (c : UInt8) (n : Nat) (s : BA) (hn : 1 ≤ n) (h : (cuts c s).length ≤ n) : cutsN c n s = cuts c s := by
  rw [cuts_length] at h
  have hl : s.data.toList.count c ≤ s.size := by have := List.count_le_length (a := c) (l := s.data.toList); rw [len_ba] at this; exact this
  refine map_ofL ?_
  rw [cutsN.eq_1, Lib.splitB_data]
  exact splitK_all c _ _ (by omega)
theorem cutsN_few (c : UInt8) (n : Nat) (s : BA) (hn : 1 ≤ n) (h : n < (cuts c s).length) : (cutsN c n s).length = n ∧ (cutsN c n s).take (n - 1) = (cuts c s).take (n - 1) := by
  rw [cuts_length] at h
  have hl : s.data.toList.count c ≤ s.size := by have := List.count_le_length (a := c) (l := s.data.toList); rw [len_ba] at this; exact this
  have hk : min n (s.size + 1) - 1 = n - 1 := by omega
  have h2 := splitK_few c (n - 1) s.data.toList (by omega)
  have h3 : (cutsN c n s).map (·.data.toList) = Lib.splitK [c] 0 (n - 1) s.data.toList := by rw [cutsN, Lib.splitB_data, hk]
  constructor
  · have := congrArg List.length h3
    rw [List.length_map] at this
    rw [this, h2.1]
    omega
  · rw [map_ofL h3, ← List.map_take, h2.2, cuts, List.map_take]
theorem cuts_ne (c : UInt8) (s : BA) : cuts c s ≠ [] := by
  intro h
  exact cutsB_ne c _ (List.map_eq_nil_iff.1 h)
theorem cuts_size (c : UInt8) (s : BA) : ∀ x ∈ cuts c s, x.size ≤ s.size := by
  intro x hx
  have aux : ∀ (l : List UInt8), ∀ y ∈ cutsB c l, y.length ≤ l.length := by
    intro l
    induction l with
    | nil => intro y hy; simp [cutsB] at hy; subst hy; simp
    | cons b r ih =>
      intro y hy
      simp only [cutsB] at hy
      split at hy
      · rcases List.mem_cons.1 hy with rfl | hy
        · simp
        · have := ih y hy; simp; omega
      · cases hq : cutsB c r with
        | nil => exact absurd hq (cutsB_ne c r)
        | cons z zs =>
          rw [hq] at hy ih
          rcases List.mem_cons.1 hy with rfl | hy
          · have := ih z (by simp); simp; omega
          · have := ih y (by simp [hy]); simp; omega
  obtain ⟨y, hy, rfl⟩ := List.mem_map.1 hx
  have := aux _ y hy
  rw [len_ba] at this
  show (ofL y).data.size ≤ _
  simpa [ofL] using this

end Go.Proofs.YtbddcodljmglfaaGreatDoor
