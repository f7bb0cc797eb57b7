/- What is known of the blocks of a form that is read: of no run. -/
import Derived.Test.YtbddcodljmglfaaGreatDoorFormB
import Derived.Test.YtbddcodljmglfaaGreatDoorRunA
import Derived.Test.YtbddcodljmglfaaGreatDoorGraphFn
import Derived.Test.YtbddcodljmglfaaGreatDoorFaultMath
import Derived.Test.YtbddcodljmglfaaGreatDoorTopA
import Derived.Test.YtbddcodljmglfaaGreatDoorFormC
set_option linter.unusedSimpArgs false
set_option linter.unusedVariables false
namespace Go.Proofs.YtbddcodljmglfaaGreatDoor

/-- Where a block ends: the line behind it. -/
def endB (b : BlockG) : Nat := b.first + b.phis.length + b.lines.length
/-- A line that leads nowhere but at a block's end. -/
structure OKF (l : LineG) : Prop where
  ok : LineOK l
  nowhere : endsK l.word = false → l.leads = []
/-- A block of a form that has ended. -/
structure GoodF (b : BlockG) : Prop where
  lines : ∃ pre last, b.lines = pre ++ [last] ∧ endsK last.word = true ∧ ∀ l ∈ pre, endsK l.word = false
  ok : ∀ l ∈ b.lines, OKF l

theorem parts_lead : ∀ k : Fin 10, endsK k.val = false → ∀ p ∈ partsOf k.val, p ≠ 4 := by decide
theorem leadsG_none : ∀ (ps : List Nat) (bs : List BA), (∀ p ∈ ps, p ≠ 4) → leadsG ps bs = []
  | [], bs, _ => by simp [leadsG]
  | p :: ps, [], _ => by simp [leadsG]
  | p :: ps, b :: bs, h => by
    simp only [leadsG]
    rw [if_neg (h p (by simp))]
    exact leadsG_none ps bs (fun q hq => h q (by simp [hq]))
theorem lineOf_okF {s : BA} {l : LineG} (h : lineOf 1 (cuts 32 s) = some l) : OKF l := by
  refine ⟨lineOf_ok h, fun he => ?_⟩
  obtain ⟨x0, bs, hc⟩ := cuts_cons s
  rw [hc] at h
  obtain ⟨h1, -, h3⟩ := line_what1 h
  rw [h3]
  unfold leadsR
  rw [h1]
  exact leadsG_none _ _ (parts_lead ⟨l.word, kindOf_lt h1⟩ he)

/-- What is known of the blocks, i lines read. -/
structure Clo (i : Nat) (p : PG) : Prop where
  good : ∀ b ∈ p.closed, GoodF b
  opn : ∀ b, p.cur = some b → ∀ l ∈ b.lines, endsK l.word = false ∧ OKF l
  pair : ∀ k b c, p.all[k]? = some b → p.all[k + 1]? = some c → endB b + 1 = c.first
  last : ∀ b, p.all.getLast? = some b → endB b = i
  start : i = 0 → p.all = []

theorem snoc_pair {A : List BlockG} {b : BlockG} {P : BlockG → BlockG → Prop} : (∀ k x y, (A ++ [b])[k]? = some x → (A ++ [b])[k + 1]? = some y → P x y) ↔ (∀ k x y, A[k]? = some x → A[k + 1]? = some y → P x y) ∧ ∀ x, A.getLast? = some x → P x b := by
  constructor
  · intro h
    refine ⟨fun k x y hx hy => ?_, fun x hx => ?_⟩
    · have h1 := (List.getElem?_eq_some_iff.1 hy).1
      exact h k x y (by rw [List.getElem?_append_left (by omega)]; exact hx) (by rw [List.getElem?_append_left h1]; exact hy)
    · rw [List.getLast?_eq_getElem?] at hx
      have h1 := (List.getElem?_eq_some_iff.1 hx).1
      exact h (A.length - 1) x b (by rw [List.getElem?_append_left h1]; exact hx) (by rw [List.getElem?_append_right (by omega), show A.length - 1 + 1 - A.length = 0 by omega]; rfl)
  · rintro ⟨h1, h2⟩ k x y hx hy
    have hk : k + 1 < (A ++ [b]).length := (List.getElem?_eq_some_iff.1 hy).1
    simp at hk
    by_cases hq : k + 1 < A.length
    · rw [List.getElem?_append_left (by omega)] at hx
      rw [List.getElem?_append_left hq] at hy
      exact h1 k x y hx hy
    · rw [List.getElem?_append_left (by omega)] at hx
      rw [List.getElem?_append_right (by omega), show k + 1 - A.length = 0 by omega] at hy
      simp at hy
      subst hy
      refine h2 x ?_
      rw [List.getLast?_eq_getElem?, show A.length - 1 = k by omega]
      exact hx

theorem clo_step {i : Nat} {s : BA} {p q : PG} (h : stepL 1 40 i s p = some q) (hp : Clo i p) : Clo (i + 1) q := by
  -- who is closed, who is open
  have hgo : (∀ b ∈ q.closed, GoodF b) ∧ ∀ b, q.cur = some b → ∀ l ∈ b.lines, endsK l.word = false ∧ OKF l := by
    have hc := hp.good
    have ho := hp.opn
    clear hp
    unfold stepL at h
    split at h
    · split at h
      · injection h with h; subst h; exact ⟨hc, ho⟩
      · cases h
    · split at h
      · rename_i b hb
        have hob := ho b hb
        unfold inB at h
        cases hph : (if 1 = 1 ∧ b.lines.length = 0 then phiOf (cuts 32 s) else none) with
        | some ph =>
          rw [hph] at h
          simp only at h
          injection h with h
          subst h
          refine ⟨hc, fun x hx => ?_⟩
          injection hx with hx
          subst hx
          exact hob
        | none =>
          rw [hph] at h
          simp only at h
          cases hl : lineOf 1 (cuts 32 s) with
          | none => rw [hl] at h; simp at h
          | some l =>
            rw [hl] at h
            simp only at h
            have hlo := lineOf_okF hl
            cases he : endsK l.word with
            | true =>
              rw [he] at h
              simp only at h
              injection h with h
              subst h
              refine ⟨fun x hx => ?_, fun x hx => by cases hx⟩
              rcases List.mem_append.1 hx with hx | hx
              · exact hc x hx
              · rw [List.mem_singleton] at hx
                subst hx
                refine ⟨⟨b.lines, l, rfl, he, fun y hy => (hob y hy).1⟩, fun y hy => ?_⟩
                rcases List.mem_append.1 hy with hy | hy
                · exact (hob y hy).2
                · rw [List.mem_singleton] at hy; subst hy; exact hlo
            | false =>
              rw [he] at h
              simp only at h
              injection h with h
              subst h
              refine ⟨hc, fun x hx => ?_⟩
              injection hx with hx
              subst hx
              intro y hy
              rcases List.mem_append.1 hy with hy | hy
              · exact hob y hy
              · rw [List.mem_singleton] at hy; subst hy; exact ⟨he, hlo⟩
      · split at h
        · injection h with h
          subst h
          refine ⟨hc, fun x hx => ?_⟩
          injection hx with hx
          subst hx
          intro l hl
          simp at hl
        · cases h
  have hnx : ∀ {b b' : BlockG}, p.cur = some b → b'.first = b.first → endB b' = endB b + 1 → q.all = p.closed ++ [b'] → (∀ k b c, q.all[k]? = some b → q.all[k + 1]? = some c → endB b + 1 = c.first) ∧ (∀ b, q.all.getLast? = some b → endB b = i + 1) := by
    intro b b' hb h1 h2 h3
    have hpa : p.all = p.closed ++ [b] := by simp [PG.all, hb]
    have hpp := hp.pair
    have hpl := hp.last
    rw [hpa] at hpp hpl
    rw [snoc_pair (P := fun x y => endB x + 1 = y.first)] at hpp
    rw [h3]
    refine ⟨snoc_pair.2 ⟨hpp.1, fun x hx => by rw [h1]; exact hpp.2 x hx⟩, fun x hx => ?_⟩
    simp at hx
    subst hx
    rw [h2, hpl b (by simp)]
  rcases stepF_shape h with ⟨hi, h1, -⟩ | ⟨hi, -, b, ph, hb, hb0, hph, h1⟩ | ⟨hi, -, b, l, hb, hl, h1⟩ | ⟨hi, -, hc, hbl, h1⟩
  · have h0 := hp.start hi
    refine ⟨hgo.1, hgo.2, ?_, ?_, fun h => absurd h (by omega)⟩
    · rw [h1, h0]; intro k b c hk; simp at hk
    · rw [h1, h0]; intro b hb; simp at hb
  · obtain ⟨a1, a2⟩ := hnx (b' := { b with phis := b.phis ++ [ph] }) hb rfl (by simp [endB]; omega) h1
    exact ⟨hgo.1, hgo.2, a1, a2, fun h => absurd h (by omega)⟩
  · obtain ⟨a1, a2⟩ := hnx (b' := { b with lines := b.lines ++ [l] }) hb rfl (by simp [endB]; omega) h1
    exact ⟨hgo.1, hgo.2, a1, a2, fun h => absurd h (by omega)⟩
  · have hpa : p.all = p.closed := by simp [PG.all, hc]
    have hpp := hp.pair
    have hpl := hp.last
    rw [hpa] at hpp hpl
    refine ⟨hgo.1, hgo.2, ?_, ?_, fun h => absurd h (by omega)⟩
    · rw [h1]
      exact snoc_pair.2 ⟨hpp, fun x hx => by rw [hpl x hx]⟩
    · rw [h1]
      intro b hb
      simp at hb
      subst hb
      simp [endB]
theorem clo_run : ∀ (T : List BA) (i : Nat) (p q : PG), runL 1 40 i T p = .ok q → Clo i p → Clo (i + T.length) q ∧ q.cur = none
  | [], i, p, q, h, hp => by
    unfold runL at h
    split at h
    · rename_i hc
      injection h with h
      subst h
      exact ⟨hp, by simpa using hc.1⟩
    · cases h
  | s :: r, i, p, q, h, hp => by
    unfold runL at h
    cases hst : stepL 1 40 i s p with
    | none => rw [hst] at h; cases h
    | some p' =>
      rw [hst] at h
      have := clo_run r (i + 1) p' q h (clo_step hst hp)
      rw [List.length_cons, show i + (r.length + 1) = i + 1 + r.length by omega]
      exact this
/-- Of a form as far as its lines go: its blocks. -/
theorem form_blocks {s : BA} {A : List Ver} {bs : List BlockG} (h : readG 1 40 1000 s = .ok (A, bs)) : (∀ b ∈ bs, GoodF b) ∧ (∀ k b c, bs[k]? = some b → bs[k + 1]? = some c → endB b + 1 = c.first) ∧ (∀ b, bs.getLast? = some b → endB b = (cuts 10 s).length) := by
  unfold readG at h
  split at h
  · cases h
  · split at h
    · cases h
    · rename_i q hq
      split at h
      · cases h
      · injection h with h
        injection h with h1 h2
        subst h1 h2
        obtain ⟨g1, g2⟩ := clo_run _ 0 _ q hq ⟨by simp, (fun b hb => by cases hb), (fun k b c hk => by simp [PG.all] at hk), (fun b hb => by simp [PG.all] at hb), fun _ => rfl⟩
        have hall : q.all = q.closed := by simp [PG.all, g2]
        have h3 := g1.pair
        have h4 := g1.last
        rw [hall] at h3 h4
        rw [Nat.zero_add] at h4
        exact ⟨g1.good, h3, h4⟩

/-! How many blocks have begun. -/
theorem blkIdx_ge : ∀ (T : List BA) (k : Nat), ∀ x ∈ blkIdx k T, k ≤ x
  | [], k, x, hx => by simp [blkIdx] at hx
  | s :: r, k, x, hx => by
    simp only [blkIdx] at hx
    split at hx
    · rcases List.mem_cons.1 hx with rfl | hx
      · exact Nat.le_refl _
      · have := blkIdx_ge r (k + 1) x hx; omega
    · have := blkIdx_ge r (k + 1) x hx; omega
theorem takeWhile_none {l : List Nat} {k : Nat} (h : ∀ x ∈ l, k < x) : l.takeWhile (fun x => decide (x ≤ k)) = [] := by
  cases l with
  | nil => rfl
  | cons a r =>
    have := h a (by simp)
    rw [List.takeWhile_cons, if_neg (by simp; omega)]
/-- How many of the block lines are no later than i. -/
def bCnt (bl : List Nat) (i : Nat) : Nat := (bl.takeWhile (fun x => decide (x ≤ i))).length
theorem bCnt_take : ∀ (T : List BA) (k j : Nat), (blkIdx k T).takeWhile (fun x => decide (x ≤ k + j)) = blkIdx k (T.take (j + 1))
  | [], k, j => by simp [blkIdx]
  | s :: r, k, j => by
    simp only [List.take_succ_cons, blkIdx]
    have hr : (blkIdx (k + 1) r).takeWhile (fun x => decide (x ≤ k + j)) = blkIdx (k + 1) (r.take j) := by
      cases j with
      | zero =>
        simp only [List.take_zero, blkIdx]
        exact takeWhile_none (fun x hx => by have := blkIdx_ge r (k + 1) x hx; omega)
      | succ j =>
        have := bCnt_take r (k + 1) j
        rw [show k + 1 + j = k + (j + 1) by omega] at this
        exact this
    split
    · rw [List.takeWhile_cons, if_pos (by simp), hr]
    · exact hr
theorem bCnt_eq (T : List BA) (i : Nat) : bCnt (blkIdx 0 T) i = (blkIdx 0 (T.take (i + 1))).length := by
  unfold bCnt
  have := bCnt_take T 0 i
  rw [Nat.zero_add] at this
  rw [this]
theorem blkIdx_append : ∀ (A B : List BA) (k : Nat), blkIdx k (A ++ B) = blkIdx k A ++ blkIdx (k + A.length) B
  | [], B, k => by simp [blkIdx]
  | s :: r, B, k => by
    simp only [List.cons_append, blkIdx, blkIdx_append r B (k + 1), List.length_cons]
    rw [show k + 1 + r.length = k + (r.length + 1) by omega]
    split <;> simp
theorem bCnt_le (T : List BA) (i : Nat) : bCnt (blkIdx 0 T) i ≤ (blkIdx 0 T).length := by
  unfold bCnt
  exact (List.takeWhile_sublist _).length_le

/-! The lines one by one. -/
theorem Both.left {α β : Type} {R : α → β → Prop} {l : List α} {r : List β} (h : Both R l r) : ∀ a ∈ l, ∃ b ∈ r, R a b := by
  induction h with
  | nil => intro a ha; simp at ha
  | cons h t ih =>
    intro a ha
    rcases List.mem_cons.1 ha with rfl | ha
    · exact ⟨_, by simp, h⟩
    · obtain ⟨b, h1, h2⟩ := ih a ha
      exact ⟨b, by simp [h1], h2⟩
theorem Both.right {α β : Type} {R : α → β → Prop} {l : List α} {r : List β} (h : Both R l r) : ∀ b ∈ r, ∃ a ∈ l, R a b := by
  induction h with
  | nil => intro a ha; simp at ha
  | cons h t ih =>
    intro a ha
    rcases List.mem_cons.1 ha with rfl | ha
    · exact ⟨_, by simp, h⟩
    · obtain ⟨b, h1, h2⟩ := ih a ha
      exact ⟨b, by simp [h1], h2⟩
theorem body_mem : ∀ (L : List BA) (nb i : Nat) (a : Nat × Nat × BA), a ∈ bodyL nb i L ↔ ∃ j, L[j]? = some a.2.2 ∧ isBlock (hd (cuts 32 a.2.2)) = false ∧ a.2.1 = i + j ∧ a.1 = nb + (blkIdx i (L.take j)).length - 1
  | [], nb, i, a => by simp [bodyL]
  | s :: r, nb, i, a => by
    simp only [bodyL]
    constructor
    · intro h
      split at h
      · rename_i hb
        obtain ⟨j, h1, h2, h3, h4⟩ := (body_mem r (nb + 1) (i + 1) a).1 h
        refine ⟨j + 1, by simpa using h1, h2, by omega, ?_⟩
        simp only [List.take_succ_cons, blkIdx, if_pos hb, List.length_cons]
        omega
      · rename_i hb
        rcases List.mem_cons.1 h with h | h
        · subst h
          exact ⟨0, rfl, by simpa using hb, rfl, by simp [blkIdx]⟩
        · obtain ⟨j, h1, h2, h3, h4⟩ := (body_mem r nb (i + 1) a).1 h
          refine ⟨j + 1, by simpa using h1, h2, by omega, ?_⟩
          simp only [List.take_succ_cons, blkIdx, if_neg hb]
          exact h4
    · rintro ⟨j, h1, h2, h3, h4⟩
      cases j with
      | zero =>
        simp at h1
        obtain ⟨a1, a2, a3⟩ := a
        simp only at h1 h2 h3 h4
        subst h1
        rw [if_neg (by rw [h2]; decide)]
        simp [blkIdx] at h4
        simp [h3, h4]
      | succ j =>
        simp at h1
        simp only [List.take_succ_cons, blkIdx] at h4
        split
        · rename_i hb
          rw [if_pos hb, List.length_cons] at h4
          exact (body_mem r (nb + 1) (i + 1) a).2 ⟨j, h1, h2, by omega, by omega⟩
        · rename_i hb
          rw [if_neg hb] at h4
          exact List.mem_cons_of_mem _ ((body_mem r nb (i + 1) a).2 ⟨j, h1, h2, by omega, h4⟩)

/-- The line that ends block b. -/
def lastD (T : List BA) (b : Nat) : Nat := if b + 1 < (blkIdx 0 T).length then (blkIdx 0 T).getD (b + 1) 0 - 1 else T.length - 1

/-- All that is needed of a text that is a form as far as its lines go. -/
structure FormT (T : List BA) (bs : List BlockG) : Prop where
  len : T.length ≤ 1000
  two : 2 ≤ T.length
  n1 : 1 ≤ bs.length
  n40 : bs.length ≤ 40
  bl : (blkIdx 0 T).length = bs.length
  both : Both SaysIt (bodyL 0 1 (T.drop 1)) (itsFrom 0 bs)
  line : ∀ (i : Nat) (x : BA), 1 ≤ i → T[i]? = some x → ∃ b, b < bs.length ∧ bCnt (blkIdx 0 T) i = b + 1 ∧ (isBlock (hd (cuts 32 x)) = true ∨ ∃ y ∈ itsFrom 0 bs, y.blk = b ∧ y.at_ = i ∧ SaysIt (b, i, x) y)
  item : ∀ y ∈ itsFrom 0 bs, 1 ≤ y.at_ ∧ bCnt (blkIdx 0 T) y.at_ = y.blk + 1 ∧ ∃ x, T[y.at_]? = some x ∧ SaysIt (y.blk, y.at_, x) y
  last : ∀ b, b < bs.length → lastD T b < T.length ∧ bCnt (blkIdx 0 T) (lastD T b) = b + 1 ∧ ∃ x, T[lastD T b]? = some x ∧ ∀ k, k ∈ leadsS x ↔ (b, k) ∈ edgesG 0 [] bs
  edges : ∀ z ∈ edgesG 0 [] bs, z.1 < bs.length ∧ z.2 < bs.length
  idx : ∀ z ∈ blkIdx 0 T, 1 ≤ z ∧ z < T.length

theorem blkIdx_mem : ∀ (T : List BA) (k z : Nat), z ∈ blkIdx k T → ∃ j x, z = k + j ∧ T[j]? = some x ∧ isBlock (hd (cuts 32 x)) = true
  | [], k, z, h => by simp [blkIdx] at h
  | s :: r, k, z, h => by
    simp only [blkIdx] at h
    split at h
    · rename_i hb
      rcases List.mem_cons.1 h with rfl | h
      · exact ⟨0, s, by omega, rfl, hb⟩
      · obtain ⟨j, x, h1, h2, h3⟩ := blkIdx_mem r (k + 1) z h
        exact ⟨j + 1, x, by omega, by simpa using h2, h3⟩
    · obtain ⟨j, x, h1, h2, h3⟩ := blkIdx_mem r (k + 1) z h
      exact ⟨j + 1, x, by omega, by simpa using h2, h3⟩
theorem lineIts_mem (k : Nat) : ∀ (L : List LineG) (n j : Nat) (l : LineG), L[j]? = some l → (⟨k, n + j, .line l⟩ : It) ∈ lineIts k n L
  | [], n, j, l, h => by simp at h
  | x :: L, n, 0, l, h => by simp at h; subst h; simp [lineIts]
  | x :: L, n, j + 1, l, h => by
    have := lineIts_mem k L (n + 1) j l (by simpa using h)
    rw [show n + 1 + j = n + (j + 1) by omega] at this
    simp [lineIts, this]
theorem its_line : ∀ (bs : List BlockG) (k i : Nat) (b : BlockG) (y : It), bs[i]? = some b → y ∈ blkIts (k + i) b → y ∈ itsFrom k bs
  | [], k, i, b, y, h, _ => by simp at h
  | x :: r, k, 0, b, y, h, hy => by
    simp at h
    subst h
    rw [Nat.add_zero] at hy
    simp [itsFrom, hy]
  | x :: r, k, i + 1, b, y, h, hy => by
    have := its_line r (k + 1) i b y (by simpa using h) (by rw [show k + 1 + i = k + (i + 1) by omega]; exact hy)
    simp [itsFrom, this]
theorem docLF_block {T : List BA} {nb : Nat} (hne : T ≠ []) (h : docLF 0 0 ByteArray.empty T = .ok nb) : 2 ≤ T.length ∧ ∀ x, T[1]? = some x → isBlock (hd (cuts 32 x)) = true := by
  cases T with
  | nil => exact absurd rfl hne
  | cons a r =>
    rw [docLF_cons] at h
    split at h
    · rename_i ha
      obtain ⟨A, hA⟩ : ∃ A, argsOf 1 (cuts 32 a) = some A := by
        unfold standsFB at ha
        rw [if_pos rfl] at ha
        exact Option.isSome_iff_exists.1 ha
      have hk := kind_args1 hA
      have he : endsW (hd (cuts 32 a)) = false := by unfold endsW; rw [hk]
      cases r with
      | nil =>
        unfold docLF at h
        rw [he] at h
        cases h
      | cons b r =>
        refine ⟨by simp, fun x hx => ?_⟩
        simp at hx
        subst hx
        rw [docLF_cons] at h
        by_cases hb : standsFB (0 + 1) (if isBlock (hd (cuts 32 a)) = true then 0 + 1 else 0) (hd (cuts 32 a)) (cuts 32 b) = true
        · clear h
          unfold standsFB at hb
          rw [if_neg (by omega)] at hb
          by_cases hq : isBlock (hd (cuts 32 b)) = true
          · exact hq
          · rw [if_neg hq] at hb
            simp at hb
        · rw [if_neg hb] at h
          cases h
    · cases h
theorem form_T {s : BA} {A : List Ver} {bs : List BlockG} (h : readG 1 40 1000 s = .ok (A, bs)) : FormT (cuts 10 s) bs := by
  obtain ⟨f1, f2, f3, x0, fx0, fa⟩ := form_its h
  obtain ⟨c1, c2, c3⟩ := readG_count h
  obtain ⟨g1, g2, g3⟩ := form_blocks h
  have hdoc : ∃ nb, docLF 0 0 ByteArray.empty (cuts 10 s) = .ok nb := by
    unfold readG at h
    split at h
    · cases h
    · split at h
      · cases h
      · rename_i q hq
        exact ⟨_, ((docLF_run _ 0 0 _ _ relF_start (by rw [Nat.zero_add]; exact List.length_pos_iff.2 (cuts_ne 10 s))).2 q hq).1⟩
  obtain ⟨nb, hdoc⟩ := hdoc
  obtain ⟨k1, k2⟩ := docLF_block (cuts_ne 10 s) hdoc
  clear hdoc h
  generalize cuts 10 s = T at *
  have hbl : (blkIdx 0 T).length = bs.length := by
    have := congrArg List.length f1
    simpa using this.symm
  have h0 : ∀ x, T[0]? = some x → isBlock (hd (cuts 32 x)) = false := by
    intro x hx
    rw [fx0] at hx
    injection hx with hx
    subst hx
    unfold isBlock
    rw [args_hd fa]
    rfl
  have hpos : ∀ i, 1 ≤ i → 1 ≤ bCnt (blkIdx 0 T) i := by
    intro i hi
    rw [bCnt_eq]
    obtain ⟨x1, hx1⟩ : ∃ x, T[1]? = some x := ⟨_, List.getElem?_eq_getElem (by omega)⟩
    have : T.take (i + 1) = [x0, x1] ++ (T.take (i + 1)).drop 2 := by
      rw [← List.take_append_drop 2 (T.take (i + 1))]
      congr 1
      · rw [List.take_take, show min 2 (i + 1) = 2 by omega, List.take_add_one, List.take_add_one, fx0, hx1]
        simp
      · simp
    rw [this, blkIdx_append]
    simp [blkIdx, h0 x0 fx0, k2 x1 hx1]
  have hcnt : ∀ (i : Nat) (x : BA), 1 ≤ i → T[i]? = some x → isBlock (hd (cuts 32 x)) = false → (blkIdx 1 ((T.drop 1).take (i - 1))).length = bCnt (blkIdx 0 T) i := by
    intro i x hi hx hb
    rw [bCnt_eq, takeS hx, blkIdx_append]
    simp only [blkIdx, hb]
    rw [if_neg (by decide), List.append_nil, ← blkIdx_drop (L := T.take i) (fun y hy => h0 y (by
      rw [List.getElem?_take_of_lt (by omega)] at hy
      exact hy)), List.drop_take]
  have hbody : ∀ a, a ∈ bodyL 0 1 (T.drop 1) ↔ 1 ≤ a.2.1 ∧ T[a.2.1]? = some a.2.2 ∧ isBlock (hd (cuts 32 a.2.2)) = false ∧ a.1 + 1 = bCnt (blkIdx 0 T) a.2.1 := by
    intro a
    rw [body_mem]
    constructor
    · rintro ⟨j, h1, h2, h3, h4⟩
      rw [List.getElem?_drop, ← h3] at h1
      have hj : j = a.2.1 - 1 := by omega
      have := hpos a.2.1 (by omega)
      refine ⟨by omega, h1, h2, ?_⟩
      rw [hj, hcnt a.2.1 _ (by omega) h1 h2] at h4
      omega
    · rintro ⟨h1, h2, h3, h4⟩
      refine ⟨a.2.1 - 1, by rw [List.getElem?_drop, show 1 + (a.2.1 - 1) = a.2.1 by omega]; exact h2, h3, by omega, ?_⟩
      rw [hcnt a.2.1 _ h1 h2 h3]
      omega
  have hitem : ∀ y ∈ itsFrom 0 bs, 1 ≤ y.at_ ∧ bCnt (blkIdx 0 T) y.at_ = y.blk + 1 ∧ ∃ x, T[y.at_]? = some x ∧ SaysIt (y.blk, y.at_, x) y := by
    intro y hy
    obtain ⟨a, ha, hs⟩ := f2.right y hy
    obtain ⟨h1, h2, h3, h4⟩ := (hbody a).1 ha
    obtain ⟨s1, s2, s3⟩ := hs
    rw [← s2, ← s1]
    exact ⟨h1, h4.symm, a.2.2, h2, s1, s2, s3⟩
  refine ⟨f3, k1, c1, c2, hbl, f2, fun i x hi hx => ?_, hitem, fun b hb => ?_, fun z hz => ?_, fun z hz => ?_⟩
  · have hp := hpos i hi
    have hle := bCnt_le T i
    refine ⟨bCnt (blkIdx 0 T) i - 1, by omega, by omega, ?_⟩
    cases hb : isBlock (hd (cuts 32 x)) with
    | true => exact .inl rfl
    | false =>
      right
      have ha := (hbody (bCnt (blkIdx 0 T) i - 1, i, x)).2 ⟨hi, hx, hb, by simp only; omega⟩
      obtain ⟨y, hy, hs⟩ := f2.left _ ha
      exact ⟨y, hy, hs.1.symm, hs.2.1.symm, hs⟩
  · obtain ⟨B, hB⟩ : ∃ B, bs[b]? = some B := ⟨_, List.getElem?_eq_getElem hb⟩
    have hmB : B ∈ bs := List.mem_of_getElem? hB
    obtain ⟨⟨pre, t, e1, e2, e3⟩, e4⟩ := g1 B hmB
    have hend : endB B = lastD T b + 1 ∧ lastD T b < T.length := by
      unfold lastD
      split
      · rename_i hb1
        obtain ⟨C, hC⟩ : ∃ C, bs[b + 1]? = some C := ⟨_, List.getElem?_eq_getElem (by omega)⟩
        have h1 := g2 b B C hB hC
        have h2 := congrArg (·[b + 1]?) f1
        simp only [List.getElem?_map, hC, Option.map_some] at h2
        obtain ⟨z, hz⟩ : ∃ z, (blkIdx 0 T)[b + 1]? = some z := ⟨_, List.getElem?_eq_getElem hb1⟩
        rw [hz] at h2
        simp at h2
        rw [List.getD_eq_getElem?_getD, hz]
        simp only [Option.getD_some]
        have hz1 : 1 ≤ z ∧ z ≤ T.length := by
          have hm := List.mem_of_getElem? hz
          refine ⟨?_, ?_⟩
          · have : endB B ≥ 1 := by unfold endB; rw [e1]; simp; omega
            omega
          · have aux : ∀ (T : List BA) (k : Nat), ∀ x ∈ blkIdx k T, x ≤ k + T.length := by
              intro T
              induction T with
              | nil => intro k x hx; simp [blkIdx] at hx
              | cons s r ih =>
                intro k x hx
                simp only [blkIdx] at hx
                split at hx
                · rcases List.mem_cons.1 hx with rfl | hx
                  · omega
                  · have := ih (k + 1) x hx; simp; omega
                · have := ih (k + 1) x hx; simp; omega
            have := aux T 0 z hm
            omega
        omega
      · have h1 := g3 B (by rw [List.getLast?_eq_getElem?, show bs.length - 1 = b by omega]; exact hB)
        omega
    have hyt : (⟨b, lastD T b, .line t⟩ : It) ∈ itsFrom 0 bs := by
      refine its_line bs 0 b B _ hB ?_
      unfold blkIts
      refine List.mem_append_right _ ?_
      have := lineIts_mem (0 + b) B.lines (B.first + B.phis.length) pre.length t (by rw [e1]; simp)
      have e5 : B.first + B.phis.length + pre.length = lastD T b := by
        have := hend.1
        unfold endB at this
        rw [e1] at this
        simp at this
        omega
      rw [e5, Nat.zero_add] at this
      rw [Nat.zero_add]
      exact this
    obtain ⟨h1, h2, x, h3, h4, h5, h6, h7⟩ := hitem _ hyt
    refine ⟨hend.2, h2, x, h3, fun k => ?_⟩
    rw [leadsS_line1 h7, mem_edgesG]
    constructor
    · intro hk
      exact .inr ⟨b, B, hB, by simp, t, by rw [e1]; simp, hk⟩
    · rintro (h | ⟨k', B', hB', hkk, l, hl, hk⟩)
      · simp at h
      · simp at hkk
        subst hkk
        rw [hB] at hB'
        injection hB' with hB'
        subst hB'
        rw [e1] at hl
        rcases List.mem_append.1 hl with hl' | hl'
        · rw [(e4 l (by rw [e1]; exact hl)).nowhere (e3 l hl')] at hk
          simp at hk
        · rw [List.mem_singleton] at hl'
          subst hl'
          exact hk
  · rcases (mem_edgesG bs 0 []).1 hz with h | ⟨k, B, hB, hk, l, hl, hk2⟩
    · simp at h
    · have := (List.getElem?_eq_some_iff.1 hB).1
      exact ⟨by omega, c3 B (List.mem_of_getElem? hB) l hl _ hk2⟩
  · obtain ⟨j, x, h1, h2, h3⟩ := blkIdx_mem T 0 z hz
    have := (List.getElem?_eq_some_iff.1 h2).1
    refine ⟨?_, by omega⟩
    rcases Nat.eq_zero_or_pos j with hj | hj
    · subst hj
      rw [h0 x h2] at h3
      cases h3
    · omega

end Go.Proofs.YtbddcodljmglfaaGreatDoor
