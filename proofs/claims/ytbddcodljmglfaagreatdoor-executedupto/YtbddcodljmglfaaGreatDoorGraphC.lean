/- The steps of a walk while they are laid: a row of rows of numbers, one for each node, no two in one block; what a put of one more number leaves. And what follows on it. -/
import Derived.Test.YtbddcodljmglfaaGreatDoorGraphB
import Derived.Test.YtbddcodljmglfaaGreatDoorMemA
import Derived.Deep.DrawnRows
import Derived.WalkMore
import Derived.Deep.LoopGhost
set_option linter.unusedSimpArgs false
set_option linter.unusedVariables false
namespace Go.Proofs.YtbddcodljmglfaaGreatDoor
open Go.RowKit

structure Rowed (w : World) (base b3 gt : Nat) (vs : Value) (n : Nat) (ts : List Value) (T : List (List Nat)) : Prop where
  hb3 : w.heap[b3]? = some (.cells #[vs, .slice (some ⟨gt, 0, none⟩) n n] 205 (0, 0))
  hgt : w.heap[gt]? = some (.cells ts.toArray 64 (0, 0))
  lts : ts.length = n
  lT : T.length = n
  own : ∀ i v, ts[i]? = some v → OwnS w base 3 1 v (T.getD i []).length (nums (T.getD i []))
  apart : ∀ (i j : Nat) (u v : Value) (k : Nat), ts[i]? = some u → ts[j]? = some v → i ≠ j → u.ownBlock = some k → v.ownBlock ≠ some k
  l3 : b3 < base
  lg : gt < base
  lb : base ≤ w.heap.size

section
variable {w w' : World} {base b3 gt n : Nat} {vs : Value} {ts : List Value} {T : List (List Nat)}

theorem Rowed.ne (h : Rowed w base b3 gt vs n ts T) : b3 ≠ gt := by
  rintro rfl
  have h1 := h.hb3
  rw [h.hgt] at h1
  simp at h1

theorem Rowed.below (h : Rowed w base b3 gt vs n ts T) (hb : Below w.heap.size w w') : Rowed w' base b3 gt vs n ts T :=
  ⟨(hb.block _ (blk_lt h.hb3)).trans h.hb3, (hb.block _ (blk_lt h.hgt)).trans h.hgt, h.lts, h.lT, fun i v hi => (h.own i v hi).of_block fun k hk => hb.block _ ((h.own i v hi).lt k hk).2, h.apart, h.l3, h.lg, Nat.le_trans h.lb hb.size⟩

theorem Rowed.c3 (h : Rowed w base b3 gt vs n ts T) : w.cell? ⟨b3, 1, none⟩ = some (.slice (some ⟨gt, 0, none⟩) n n) := by simp [World.cell?, h.hb3]
theorem Rowed.cg (h : Rowed w base b3 gt vs n ts T) {i : Nat} {v : Value} (hi : ts[i]? = some v) : w.cell? ⟨gt, i, none⟩ = some v := by simp [World.cell?, h.hgt, hi]
theorem Rowed.fg (h : Rowed w base b3 gt vs n ts T) (i : Nat) : w.frozen? ⟨gt, i, none⟩ = false := by simp [World.frozen?, h.hgt]

theorem Rowed.turned (h : Rowed w base b3 gt vs n ts T) {r : Nat} (ht : Turned w w' r) (h3 : b3 ≠ r) (hg : gt ≠ r) (hr : r < base) : Rowed w' base b3 gt vs n ts T :=
  ⟨(ht.block _ h3).trans h.hb3, (ht.block _ hg).trans h.hgt, h.lts, h.lT, fun i v hi => (h.own i v hi).of_block fun k hk => ht.block _ (by have := ((h.own i v hi).lt k hk).1; omega), h.apart, h.l3, h.lg, by rw [ht.size]; exact h.lb⟩

/-- What an append to one of the rows leaves of all that lies below the rows. -/
theorem Rowed.kept (h : Rowed w base b3 gt vs n ts T) {i : Nat} {v : Value} (hi : ts[i]? = some v) {w1 : World} (hgrow : w.grownBy w1 v.ownBlock) {k : Nat} (hk : k < base) : w1.heap[k]? = w.heap[k]? :=
  hgrow.block k (Nat.lt_of_lt_of_le hk h.lb) (fun e => by have := ((h.own i v hi).lt k e.symm).1; omega)

theorem Rowed.put (h : Rowed w base b3 gt vs n ts T) {i : Nat} {v : Value} (hi : ts[i]? = some v) {b : Nat} {w1 : World} {g off cap : Nat} (hgrow : w.grownBy w1 v.ownBlock)
    (hown : OwnS w1 base 3 1 (.slice (some ⟨g, off, none⟩) ((T.getD i []).length + 1) cap) ((T.getD i []).length + 1) (nums (T.getD i []) ++ [.int .i64 (b : Int)])) (hloc : v.ownBlock = some g ∨ g = w.heap.size) :
    Rowed (w1.setCell ⟨gt, i, none⟩ (.slice (some ⟨g, off, none⟩) ((T.getD i []).length + 1) cap)) base b3 gt vs n (ts.set i (.slice (some ⟨g, off, none⟩) ((T.getD i []).length + 1) cap)) (T.set i (T.getD i [] ++ [b])) ∧
      (∀ k, k < base → k ≠ gt → (w1.setCell ⟨gt, i, none⟩ (.slice (some ⟨g, off, none⟩) ((T.getD i []).length + 1) cap)).heap[k]? = w.heap[k]?) := by
  have hne := h.ne
  have hl3 := h.l3
  have hlg := h.lg
  have hilt : i < n := by rw [← h.lts]; exact (List.getElem?_eq_some_iff.1 hi).1
  have hkeep : ∀ k, k < base → w1.heap[k]? = w.heap[k]? := fun k hk => h.kept hi hgrow hk
  have hkeep2 : ∀ k, k < base → k ≠ gt → (w1.setCell ⟨gt, i, none⟩ (.slice (some ⟨g, off, none⟩) ((T.getD i []).length + 1) cap)).heap[k]? = w.heap[k]? := fun k hk hg => (Below.heap_setCell _ _ _ _ hg).trans (hkeep k hk)
  have hvi := h.own i v hi
  refine ⟨⟨(hkeep2 b3 hl3 hne).trans h.hb3, ?_, by simp [h.lts], by simp [h.lT], ?_, ?_, hl3, hlg, by have := hgrow.size; have := h.lb; simp; omega⟩, hkeep2⟩
  · have := (hkeep gt hlg).trans h.hgt
    simp [World.setCell, Array.getElem?_modify, this]
  · intro j u hj
    rw [List.getElem?_set] at hj
    by_cases hij : i = j
    · subst hij
      simp [h.lts, hilt] at hj
      subst hj
      have e1 : (T.set i (T.getD i [] ++ [b])).getD i [] = T.getD i [] ++ [b] := by simp [List.getD, h.lT, hilt]
      rw [e1]
      have h2 : OwnS w1 base 3 1 (.slice (some ⟨g, off, none⟩) ((T.getD i []).length + 1) cap) (T.getD i [] ++ [b]).length (nums (T.getD i [] ++ [b])) := by
        simpa [-List.getD_eq_getElem?_getD, nums] using hown
      exact h2.of_block fun k hk => Below.heap_setCell _ _ _ _ (by have := (h2.lt k hk).1; simp; omega)
    · simp [hij] at hj
      have e1 : (T.set i (T.getD i [] ++ [b])).getD j [] = T.getD j [] := by simp [List.getD, List.getElem?_set, hij]
      rw [e1]
      have h2 := h.own j u hj
      refine h2.of_block fun k hk => ?_
      rw [Below.heap_setCell _ _ _ _ (by have := (h2.lt k hk).1; simp; omega)]
      exact hgrow.block k (h2.lt k hk).2 (fun e => h.apart i j v u k hi hj hij e.symm hk)
  · intro a c u u' k ha hc hac hk
    rw [List.getElem?_set] at ha hc
    have hlt : i < ts.length := by rw [h.lts]; exact hilt
    by_cases hia : i = a
    · subst hia
      simp [hlt] at ha
      subst ha
      simp [hac] at hc
      simp [Value.ownBlock] at hk
      subst hk
      rcases hloc with hloc | hloc
      · exact h.apart i c v u' g hi hc hac hloc
      · intro e
        have := ((h.own c u' hc).lt g e).2
        omega
    · simp [hia] at ha
      by_cases hic : i = c
      · subst hic
        simp [hlt] at hc
        subst hc
        intro e
        simp [Value.ownBlock] at e
        subst e
        rcases hloc with hloc | hloc
        · exact h.apart a i u v g ha hi hac hk hloc
        · have := ((h.own a u ha).lt g hk).2
          omega
      · simp [hic] at hc
        exact h.apart a c u u' k ha hc hac hk

end

/-- How many entries an iterator has still to come to. -/
def iterLeft (r m : Nat) (w : World) : Nat :=
  match w.heap[r]?, w.heap[m]? with
  | some (.mapIter _ _ seen _), some (.map es _) => (es.toList.filter (fun e => !seen.contains e.born)).length
  | _, _ => 0

theorem EIter.left {w : World} {r m : Nat} {L R : List (Nat × Nat)} (h : EIter w r m L R) : iterLeft r m w = R.length := by
  obtain ⟨es, c, seen, hb, hk, hv, hc, hn, hL, hi, hR⟩ := h
  have := congrArg List.length hR
  simpa [iterLeft, hb, hi] using this

/-- What has been laid of the edges that have come: f says from where to where an edge leads. -/
structure Laid (f : Nat × Nat → Nat × Nat) (n : Nat) (L R : List (Nat × Nat)) (T : List (List Nat)) : Prop where
  mem : ∀ i b, i < n → (b ∈ T.getD i [] ↔ ∃ p, p ∈ L ∧ p ∉ R ∧ f p = (i, b))
  len : ∀ i, (T.getD i []).length + R.length ≤ L.length
  nodup : R.Nodup
  sub : ∀ p ∈ R, p ∈ L

theorem laid_start (f : Nat × Nat → Nat × Nat) (n : Nat) (L : List (Nat × Nat)) (hL : L.Nodup) : Laid f n L L (List.replicate n []) := by
  have h0 : ∀ i, (List.replicate n ([] : List Nat)).getD i [] = [] := by
    intro i
    simp only [List.getD, List.getElem?_replicate]
    split <;> simp
  refine ⟨fun i b hi => ?_, fun i => ?_, hL, fun p hp => hp⟩
  · rw [h0]
    constructor
    · intro h; simp at h
    · rintro ⟨p, h1, h2, _⟩; exact absurd h1 h2
  · rw [h0]; simp

theorem laid_put {f : Nat × Nat → Nat × Nat} {n : Nat} {L A B : List (Nat × Nat)} {p : Nat × Nat} {T : List (List Nat)} (h : Laid f n L (A ++ p :: B) T) (hT : T.length = n) (hi : (f p).1 < n) :
    Laid f n L (A ++ B) (T.set (f p).1 (T.getD (f p).1 [] ++ [(f p).2])) := by
  have hnd := h.nodup
  have hnd' : (A ++ B).Nodup ∧ p ∉ A ++ B := by
    have := (List.perm_middle (a := p) (l₁ := A) (l₂ := B)).nodup_iff.1 hnd
    rw [List.nodup_cons] at this
    exact ⟨this.2, this.1⟩
  have hget : ∀ i, i < n → (T.set (f p).1 (T.getD (f p).1 [] ++ [(f p).2])).getD i [] = if i = (f p).1 then T.getD i [] ++ [(f p).2] else T.getD i [] := by
    intro i hin
    simp only [List.getD, List.getElem?_set]
    by_cases e : (f p).1 = i
    · subst e; simp [hT, hi]
    · have e' : ¬ i = (f p).1 := fun h => e h.symm
      simp [e, e']
  refine ⟨fun i b hin => ?_, fun i => ?_, hnd'.1, fun q hq => h.sub q (by simp only [List.mem_append, List.mem_cons] at hq ⊢; rcases hq with hq | hq <;> simp [hq])⟩
  · rw [hget i hin]
    have hm := h.mem i b hin
    have hpl := h.sub p (by simp)
    constructor
    · intro hb
      by_cases e : i = (f p).1
      · rw [if_pos e] at hb
        simp only [List.mem_append, List.mem_singleton] at hb
        rcases hb with hb | hb
        · obtain ⟨q, h1, h2, h3⟩ := hm.1 hb
          exact ⟨q, h1, fun h' => h2 (by simp only [List.mem_append, List.mem_cons] at h' ⊢; rcases h' with h' | h' <;> simp [h']), h3⟩
        · exact ⟨p, hpl, hnd'.2, by rw [e, hb]⟩
      · rw [if_neg e] at hb
        obtain ⟨q, h1, h2, h3⟩ := hm.1 hb
        exact ⟨q, h1, fun h' => h2 (by simp only [List.mem_append, List.mem_cons] at h' ⊢; rcases h' with h' | h' <;> simp [h']), h3⟩
    · rintro ⟨q, h1, h2, h3⟩
      by_cases hq : q = p
      · subst hq
        rw [if_pos (by rw [h3]), h3]
        simp
      · have : b ∈ T.getD i [] := hm.2 ⟨q, h1, fun h' => h2 (by simp only [List.mem_append, List.mem_cons] at h' ⊢; rcases h' with h' | h' | h'; exact .inl h'; exact absurd h' hq; exact .inr h'), h3⟩
        split
        · exact List.mem_append.2 (.inl this)
        · exact this
  · have hl := h.len i
    simp only [List.length_append, List.length_cons] at hl ⊢
    by_cases hin : i < n
    · rw [hget i hin]
      split
      · simp only [List.length_append, List.length_singleton]
        omega
      · omega
    · have : (T.set (f p).1 (T.getD (f p).1 [] ++ [(f p).2])).getD i [] = [] := by
        simp only [List.getD]
        rw [List.getElem?_eq_none (by simp [hT]; omega)]
        rfl
      rw [this]
      simp only [List.length_nil]
      omega

theorem nodup_len : ∀ (N : Nat) (l : List Nat), l.Nodup → (∀ a ∈ l, a < N) → l.length ≤ N
  | 0, l, _, h => by
    cases l with
    | nil => simp
    | cons a l => exact absurd (h a (by simp)) (by omega)
  | N + 1, l, hn, h => by
    have h1 := nodup_len N (l.erase N) (hn.erase N) (fun a ha => by
      have h2 := h a (List.mem_of_mem_erase ha)
      have h3 : a ≠ N := fun e => by subst e; exact (List.Nodup.not_mem_erase hn) ha
      omega)
    by_cases hm : N ∈ l
    · rw [List.length_erase_of_mem hm] at h1
      omega
    · rw [List.erase_of_not_mem hm] at h1
      omega

theorem pairs_len (n : Nat) (L : List (Nat × Nat)) (hL : L.Nodup) (h : ∀ p ∈ L, p.1 < n ∧ p.2 < n) : L.length ≤ n * n := by
  have h1 : (L.map fun p => p.1 * n + p.2).Nodup := by
    rw [List.nodup_iff_pairwise_ne, List.pairwise_map]
    rw [List.nodup_iff_pairwise_ne] at hL
    refine (List.Pairwise.and_mem.1 hL).imp ?_
    rintro p q ⟨hp, hq, hne⟩ e
    have h3 := h p hp
    have h4 := h q hq
    apply hne
    have e1 : p.1 = q.1 := by
      have e2 := congrArg (fun k => k / n) e
      simp only [Nat.mul_comm _ n, Nat.mul_add_div (by omega : 0 < n), Nat.div_eq_of_lt h3.2, Nat.div_eq_of_lt h4.2] at e2
      simpa using e2
    have e3 : p.2 = q.2 := by rw [e1] at e; omega
    exact Prod.ext e1 e3
  have h2 := nodup_len (n * n) _ h1 (by
    intro a ha
    obtain ⟨p, hp, rfl⟩ := List.mem_map.1 ha
    have h3 := h p hp
    have : (p.1 + 1) * n ≤ n * n := Nat.mul_le_mul_right n h3.1
    rw [Nat.add_mul] at this
    omega)
  simpa using h2

theorem EIter.rNe {w : World} {r m : Nat} {L R : List (Nat × Nat)} (h : EIter w r m L R) {k : Nat} {c : Array Value} {t : TypeId} {f : Nat × Nat} (hk : w.heap[k]? = some (.cells c t f)) : k ≠ r ∧ k ≠ m := by
  obtain ⟨es, c', seen, hb, _, _, _, _, _, hi, _⟩ := h
  constructor
  · rintro rfl; rw [hi] at hk; simp at hk
  · rintro rfl; rw [hb] at hk; simp at hk

/-- One edge has come: the world in which its row grows, and what the growth leaves. -/
structure Came (w1 : World) (base b3 gt : Nat) (vs : Value) (n : Nat) (ts : List Value) (T : List (List Nat)) (r m : Nat) (L R : List (Nat × Nat)) (i b x y : Nat) (v : Value) (ao : Option Addr) (cap : Nat) : Prop where
  row : Rowed w1 base b3 gt vs n ts T
  iter : EIter w1 r m L R
  at_ : ts[i]? = some v
  form : v = .slice ao (T.getD i []).length cap
  il : i < n
  rl : r < base
  ml : m < base

section
variable {w1 : World} {base b3 gt n r m i b x y : Nat} {vs v : Value} {ts : List Value} {T : List (List Nat)} {L R : List (Nat × Nat)} {ao : Option Addr} {cap : Nat}

theorem Came.cells (h : Came w1 base b3 gt vs n ts T r m L R i b x y v ao cap) (w2 : World) (hw : ∀ k, k < w1.heap.size + 1 → k < base ∨ k = w1.heap.size → w2.heap[k]? = (w1.alloc (.cells #[.int .i64 (x : Int), .int .i64 (y : Int)] 208)).heap[k]?) :
    w2.cell? ⟨b3, 1, none⟩ = some (.slice (some ⟨gt, 0, none⟩) n n) ∧ w2.cell? ⟨w1.heap.size, 0, none⟩ = some (.int .i64 (x : Int)) ∧ w2.cell? ⟨w1.heap.size, 1, none⟩ = some (.int .i64 (y : Int)) ∧ w2.cell? ⟨gt, i, none⟩ = some v ∧ w2.frozen? ⟨gt, i, none⟩ = false := by
  have hb : Below w1.heap.size w1 (w1.alloc (.cells #[.int .i64 (x : Int), .int .i64 (y : Int)] 208)) := (Below.refl _ _).alloc (Nat.le_refl _) _
  have hrow := h.row.below hb
  have l3 := h.row.l3
  have lg := h.row.lg
  have lb := h.row.lb
  have hn : (w1.alloc (.cells #[.int .i64 (x : Int), .int .i64 (y : Int)] 208)).heap[w1.heap.size]? = some (.cells #[.int .i64 (x : Int), .int .i64 (y : Int)] 208 (0, 0)) := heap_new rfl
  have e1 := hw b3 (by omega) (.inl l3)
  have e2 := hw gt (by omega) (.inl lg)
  have e3 := (hw w1.heap.size (by omega) (.inr rfl)).trans hn
  refine ⟨?_, ?_, ?_, ?_, ?_⟩
  · rw [World.cell?_of_block e1]; exact hrow.c3
  · simp [World.cell?, e3]
  · simp [World.cell?, e3]
  · rw [World.cell?_of_block e2]; exact hrow.cg h.at_
  · rw [World.frozen?_of_block e2]; exact hrow.fg i

theorem Came.own (h : Came w1 base b3 gt vs n ts T r m L R i b x y v ao cap) (w2 : World) (hw : ∀ k, k < w1.heap.size → w2.heap[k]? = w1.heap[k]?) : OwnS w2 base 3 1 v (T.getD i []).length (nums (T.getD i [])) :=
  (h.row.own i v h.at_).of_block fun k hk => hw k ((h.row.own i v h.at_).lt k hk).2

theorem Came.grown (h : Came w1 base b3 gt vs n ts T r m L R i b x y v ao cap) {o : Obj} {w2 : World} (hgrow : ((w1.alloc (.cells #[.int .i64 (x : Int), .int .i64 (y : Int)] 208)).alloc o).grownBy w2 v.ownBlock) :
    ∀ k, k < w1.heap.size + 1 → k < base ∨ k = w1.heap.size → w2.heap[k]? = (w1.alloc (.cells #[.int .i64 (x : Int), .int .i64 (y : Int)] 208)).heap[k]? := by
  intro k hk hor
  rw [hgrow.block k (by simp; omega) (fun e => by have := (h.row.own i v h.at_).lt k e.symm; omega)]
  exact Below.heap_alloc _ _ _ (by simp; omega)

theorem Came.keep1 {Ti : List Nat} (h : Came w1 base b3 gt vs n ts T r m L R i b x y (.slice ao (T.getD i []).length cap) ao cap) (hT : T.getD i [] = Ti) (o : Obj) :
    (((w1.alloc (.cells #[.int .i64 (x : Int), .int .i64 (y : Int)] 208)).alloc o).drew.cell? ⟨b3, 1, none⟩ = some (.slice (some ⟨gt, 0, none⟩) n n) ∧ ((w1.alloc (.cells #[.int .i64 (x : Int), .int .i64 (y : Int)] 208)).alloc o).drew.cell? ⟨w1.heap.size, 0, none⟩ = some (.int .i64 (x : Int)) ∧
      ((w1.alloc (.cells #[.int .i64 (x : Int), .int .i64 (y : Int)] 208)).alloc o).drew.cell? ⟨w1.heap.size, 1, none⟩ = some (.int .i64 (y : Int)) ∧ ((w1.alloc (.cells #[.int .i64 (x : Int), .int .i64 (y : Int)] 208)).alloc o).drew.frozen? ⟨gt, i, none⟩ = false) ∧
      ((w1.alloc (.cells #[.int .i64 (x : Int), .int .i64 (y : Int)] 208)).alloc o).drew.cell? ⟨gt, i, none⟩ = some (.slice ao Ti.length cap) := by
  subst hT
  obtain ⟨h1, h2, h3, h4, h5⟩ := h.cells (((w1.alloc (.cells #[.int .i64 (x : Int), .int .i64 (y : Int)] 208)).alloc o).drew) (fun k hk hor => Below.heap_alloc _ _ k (by simp; omega))
  exact ⟨⟨h1, h2, h3, h5⟩, h4⟩

theorem Came.keep2 {Ti : List Nat} (h : Came w1 base b3 gt vs n ts T r m L R i b x y (.slice ao (T.getD i []).length cap) ao cap) (hT : T.getD i [] = Ti) {o : Obj} {w2 : World}
    (hgrow : ((w1.alloc (.cells #[.int .i64 (x : Int), .int .i64 (y : Int)] 208)).alloc o).drew.grownBy w2 (Value.slice ao Ti.length cap).ownBlock) :
    (w2.cell? ⟨b3, 1, none⟩ = some (.slice (some ⟨gt, 0, none⟩) n n) ∧ w2.cell? ⟨w1.heap.size, 0, none⟩ = some (.int .i64 (x : Int)) ∧ w2.cell? ⟨w1.heap.size, 1, none⟩ = some (.int .i64 (y : Int)) ∧ w2.frozen? ⟨gt, i, none⟩ = false) ∧ w2.cell? ⟨gt, i, none⟩ = some (.slice ao Ti.length cap) := by
  subst hT
  obtain ⟨h1, h2, h3, h4, h5⟩ := h.cells w2 (h.grown ⟨hgrow.os, hgrow.tape, hgrow.output, hgrow.size, hgrow.block⟩)
  exact ⟨⟨h1, h2, h3, h5⟩, h4⟩

theorem Came.app {Ti : List Nat} (h : Came w1 base b3 gt vs n ts T r m L R i b x y (.slice ao (T.getD i []).length cap) ao cap) (hT : T.getD i [] = Ti) (hlen : Ti.length ≤ 1600) :
    ∃ g off cp w2, (∀ ty, (appLater #[64, 64] ty #[.slice ao Ti.length cap, .slice (some ⟨w1.heap.size + 1, 0, none⟩) 1 1]).run Tryz.prog ((w1.alloc (.cells #[.int .i64 (x : Int), .int .i64 (y : Int)] 208)).alloc (.cells #[.int .i64 (b : Int)] 3)).drew = .ok (.value (.slice (some ⟨g, off, none⟩) (Ti.length + 1) cp)) w2) ∧
      OwnS w2 base 3 1 (.slice (some ⟨g, off, none⟩) (Ti.length + 1) cp) (Ti.length + 1) (nums Ti ++ [.int .i64 (b : Int)]) ∧ ((w1.alloc (.cells #[.int .i64 (x : Int), .int .i64 (y : Int)] 208)).alloc (.cells #[.int .i64 (b : Int)] 3)).drew.grownBy w2 (Value.slice ao Ti.length cap).ownBlock ∧
      ((Value.slice ao Ti.length cap).ownBlock = some g ∨ g = ((w1.alloc (.cells #[.int .i64 (x : Int), .int .i64 (y : Int)] 208)).alloc (.cells #[.int .i64 (b : Int)] 3)).heap.size) := by
  subst hT
  obtain ⟨i0, hi, hz0, hz1, hz2⟩ := info_parts infoInt
  have lb := h.row.lb
  have hown := h.own (((w1.alloc (.cells #[.int .i64 (x : Int), .int .i64 (y : Int)] 208)).alloc (.cells #[.int .i64 (b : Int)] 3)).drew) (fun k hk => (Below.heap_alloc _ _ k (by simp; omega)).trans (Below.heap_alloc _ _ k hk))
  obtain ⟨g, off, cp, w2, hr, h1, h2, h3, _⟩ := run_append_ownS (P := Tryz.prog) (((w1.alloc (.cells #[.int .i64 (x : Int), .int .i64 (y : Int)] 208)).alloc (.cells #[.int .i64 (b : Int)] 3)).drew) base 64 0 3 i0 (.int .i64 0) 1 8 Tryz.underlying64 hi hz0 hz1 hz2 rfl (by decide) _ _ _ hown ⟨w1.heap.size + 1, 0, none⟩ 1 1 [.int .i64 (b : Int)] rfl
    (cell_new1' (w1.alloc (.cells #[.int .i64 (x : Int), .int .i64 (y : Int)] 208)) _ _ _ (by simp)) (fun u hu => nums_one u b hu) (by decide) (by unfold maxLen; omega) (by omega) (by simp; omega)
  exact ⟨g, off, cp, w2, fun ty => run_appLater (ty := ty) hr, h1, h2, h3⟩

theorem Came.put (h : Came w1 base b3 gt vs n ts T r m L R i b x y v ao cap) {o : Obj} {w2 : World} {g off cp : Nat} (hgrow : ((w1.alloc (.cells #[.int .i64 (x : Int), .int .i64 (y : Int)] 208)).alloc o).grownBy w2 v.ownBlock)
    (hown : OwnS w2 base 3 1 (.slice (some ⟨g, off, none⟩) ((T.getD i []).length + 1) cp) ((T.getD i []).length + 1) (nums (T.getD i []) ++ [.int .i64 (b : Int)])) (hloc : v.ownBlock = some g ∨ g = ((w1.alloc (.cells #[.int .i64 (x : Int), .int .i64 (y : Int)] 208)).alloc o).heap.size) :
    Rowed (w2.setCell ⟨gt, i, none⟩ (.slice (some ⟨g, off, none⟩) ((T.getD i []).length + 1) cp)) base b3 gt vs n (ts.set i (.slice (some ⟨g, off, none⟩) ((T.getD i []).length + 1) cp)) (T.set i (T.getD i [] ++ [b])) ∧
      EIter (w2.setCell ⟨gt, i, none⟩ (.slice (some ⟨g, off, none⟩) ((T.getD i []).length + 1) cp)) r m L R ∧
      (∀ k, k < base → k ≠ gt → (w2.setCell ⟨gt, i, none⟩ (.slice (some ⟨g, off, none⟩) ((T.getD i []).length + 1) cp)).heap[k]? = w1.heap[k]?) ∧ w1.heap.size ≤ (w2.setCell ⟨gt, i, none⟩ (.slice (some ⟨g, off, none⟩) ((T.getD i []).length + 1) cp)).heap.size ∧
      w2.os = w1.os ∧ w2.tape = w1.tape ∧ w2.output = w1.output := by
  have hb : Below w1.heap.size w1 ((w1.alloc (.cells #[.int .i64 (x : Int), .int .i64 (y : Int)] 208)).alloc o) := ((Below.refl _ _).alloc (Nat.le_refl _) _).alloc (by simp) _
  have hrow := h.row.below hb
  have hp := hrow.put (b := b) h.at_ hgrow hown hloc
  have hkeep : ∀ k, k < base → k ≠ gt → (w2.setCell ⟨gt, i, none⟩ (.slice (some ⟨g, off, none⟩) ((T.getD i []).length + 1) cp)).heap[k]? = w1.heap[k]? := fun k hk hg => (hp.2 k hk hg).trans (hb.block k (Nat.lt_of_lt_of_le hk h.row.lb))
  have hne := h.iter.rNe h.row.hgt
  refine ⟨hp.1, h.iter.of_block (hkeep m h.ml hne.2.symm) (hkeep r h.rl hne.1.symm), hkeep, ?_, hgrow.os, hgrow.tape, hgrow.output⟩
  have := hgrow.size
  simp at this ⊢
  omega
end

end Go.Proofs.YtbddcodljmglfaaGreatDoor

namespace Go.Proofs.YtbddcodljmglfaaGreatDoor
open Go.RowKit
attribute [local go_sem ↓] run_execOp_append

theorem infoInts : (Tryz.prog.info? 64).map (fun i => (i.zero, i.size, i.bytes)) = some (some (.slice none 0 0), 1, 24) := by kernel_rfl

theorem makeRows (n : Nat) (hn : n ≤ 1000) (w : World) :
    (Instr.makeSlice 203 (.int .i64 n) (.int .i64 n)).run Tryz.prog w = .ok (.slice (some ⟨w.heap.size, 0, none⟩) n n) (w.alloc (.cells (Array.replicate n (.slice none 0 0)) 64)) := by
  obtain ⟨i0, hi, hz0, hz1, hz2⟩ := info_parts infoInts
  exact run_make1 _ _ i0 _ Tryz.underlying203 hi hz0 hz1 rfl n hn (by omega) w

theorem rowed_begin (w : World) (base b3 gt : Nat) (vs : Value) (n : Nat) (h3 : w.heap[b3]? = some (.cells #[vs, .slice (some ⟨gt, 0, none⟩) n n] 205 (0, 0)))
    (hg : w.heap[gt]? = some (.cells (Array.replicate n (.slice none 0 0)) 64 (0, 0))) (l3 : b3 < base) (lg : gt < base) (lb : base ≤ w.heap.size) :
    Rowed w base b3 gt vs n (List.replicate n (.slice none 0 0)) (List.replicate n []) := by
  have h0 : ∀ i, (List.replicate n ([] : List Nat)).getD i [] = [] := by
    intro i
    simp only [List.getD, List.getElem?_replicate]
    split <;> simp
  refine ⟨h3, ?_, by simp, by simp, fun i v hi => ?_, fun i j u v k hi hj _ hk => ?_, l3, lg, lb⟩
  · rw [hg]; simp
  · have : v = .slice none 0 0 := by
      have := List.mem_of_getElem? hi
      simp at this
      exact this.2
    subst this
    rw [h0]
    exact OwnS.nil _ _ _ _
  · have : u = .slice none 0 0 := by
      have := List.mem_of_getElem? hi
      simp at this
      exact this.2
    subst this
    simp [Value.ownBlock] at hk

theorem ow_begin (w : World) (p m q n : Nat) (L : List (Nat × Nat)) (D : List Bool) (hg : GraphIn w p m q n L D) (w4 : World)
    (hw4 : w4 = ((((w.alloc (.cells #[.slice none 0 0, .slice none 0 0] 205)).alloc (.cells (Array.replicate n (.slice none 0 0)) 64)).alloc (.cells #[.slice (some ⟨w.heap.size + 1 + 1 + 1, 0, none⟩) 1 1, .slice (some ⟨w.heap.size + 1, 0, none⟩) n n] 205)).alloc (.cells #[.int .i64 0] 3))) :
    ∃ o, (Instr.range 98 (.map (some m))).run Tryz.prog w4 = .ok (.pointer (some ⟨w.heap.size + 1 + 1 + 1 + 1, 0, none⟩)) (w4.alloc o) ∧ EIter (w4.alloc o) (w.heap.size + 1 + 1 + 1 + 1) m L L ∧
      Rowed (w4.alloc o) (w.heap.size + 1 + 1 + 1 + 1 + 1) (w.heap.size + 1 + 1) (w.heap.size + 1) (.slice (some ⟨w.heap.size + 1 + 1 + 1, 0, none⟩) 1 1) n (List.replicate n (.slice none 0 0)) (List.replicate n []) ∧
      (w4.alloc o).heap[w.heap.size + 1 + 1 + 1]? = some (.cells #[.int .i64 0] 3 (0, 0)) ∧ (w4.alloc o).heap[w.heap.size]? = some (.cells #[.slice none 0 0, .slice none 0 0] 205 (0, 0)) ∧ Below w.heap.size w (w4.alloc o) ∧ w4.cell? ⟨p, 1, none⟩ = some (.map (some m)) := by
  have hb4 : Below w.heap.size w w4 := by
    rw [hw4]
    exact ((((Below.refl _ _).alloc (Nat.le_refl _) _).alloc (by simp) _).alloc (by simp <;> omega) _).alloc (by simp <;> omega) _
  have hs4 : w4.heap.size = w.heap.size + 1 + 1 + 1 + 1 := by rw [hw4]; simp
  have hg4 := hg.below hb4
  obtain ⟨o, hr, hi⟩ := hg4.edges.range
  rw [hs4] at hr hi
  refine ⟨o, hr, hi, rowed_begin _ _ _ _ _ _ ?_ ?_ (by omega) (by omega) (by simp [hs4]), ?_, ?_, hb4.alloc (by omega) _, hg4.c1⟩
  · rw [Below.heap_alloc _ _ _ (by omega), hw4, Below.heap_alloc _ _ _ (by simp), heap_new (by simp)]
  · rw [Below.heap_alloc _ _ _ (by omega), hw4, Below.heap_alloc _ _ _ (by simp <;> omega), Below.heap_alloc _ _ _ (by simp), heap_new (by simp)]
  · rw [Below.heap_alloc _ _ _ (by omega), hw4, heap_new (by simp)]
  · rw [Below.heap_alloc _ _ _ (by omega), hw4, Below.heap_alloc _ _ _ (by simp <;> omega), Below.heap_alloc _ _ _ (by simp <;> omega), Below.heap_alloc _ _ _ (by simp), heap_new rfl]

/-- The steps, all laid, as a walk. -/
theorem rowed_walk {w : World} {base b3 gt n : Nat} {vs : Value} {ts : List Value} {T : List (List Nat)} (h : Rowed w base b3 gt vs n ts T) {f : Nat × Nat → Nat × Nat} {L : List (Nat × Nat)} (hl : Laid f n L [] T)
    (hf : ∀ x ∈ L, (f x).1 < n ∧ (f x).2 < n) (hL : L.length ≤ 1600) {S : List Nat} (hs : RdS w 1 vs S.length (nums S)) (hS : ∀ a ∈ S, a < n) (hSl : S.length ≤ 1000000) (pos : 1 ≤ n) (le : n ≤ 40) :
    WalkIn w vs (.slice (some ⟨gt, 0, none⟩) n n) ts n S T := by
  refine ⟨hs, ⟨by simpa using h.lts, _, _, rfl, .inr ⟨gt, 0, rfl, fun j u hj => ?_⟩⟩, h.lT, fun i v hi => (h.own i v hi).rd, pos, le, hS, ?_, hSl, ?_⟩
  · rw [Nat.zero_add]; exact h.cg hj
  · intro l hl' a ha
    obtain ⟨i, hi, rfl⟩ := List.getElem_of_mem hl'
    have hin : i < n := by rw [← h.lT]; exact hi
    obtain ⟨p, hp, _, e⟩ := (hl.mem i a hin).1 (by simpa [List.getD, hi] using ha)
    have := (hf p hp).2
    rw [e] at this
    exact this
  · intro l hl'
    obtain ⟨i, hi, rfl⟩ := List.getElem_of_mem hl'
    have := hl.len i
    simp [List.getD, hi] at this
    omega

theorem pairs40 {w : World} {p m q n : Nat} {L : List (Nat × Nat)} {D : List Bool} (hg : GraphIn w p m q n L D) : L.length ≤ 1600 := by
  have h1 := pairs_len n L hg.edges.nodup hg.lt
  have h2 : n * n ≤ 40 * 40 := Nat.mul_le_mul hg.le hg.le
  omega

set_option maxRecDepth 100000 in
set_option maxHeartbeats 4000000 in
theorem onward_any (w : World) (p m q n : Nat) (L : List (Nat × Nat)) (D : List Bool) (hg : GraphIn w p m q n L D) :
    Calls Tryz.prog 137 #[.pointer (some ⟨p, 0, none⟩)] w fun e w' => ∃ vs vt ts T, e = .returned (.agg #[vs, vt]) ∧ Below w.heap.size w w' ∧ WalkIn w' vs vt ts n [0] T ∧ (∀ i b, i < n → (b ∈ T.getD i [] ↔ (i, b) ∈ L)) := by
  have hmk := makeRows n (by have := hg.le; omega)
  have c0 := hg.c0
  have hpn : 0 < n := hg.pos
  have hp := hg.pLt
  have HG : Hid (GraphIn w p m q n L D) := hg
  have c0' : (((w.alloc (.cells #[.slice none 0 0, .slice none 0 0] 205)).alloc (.cells (Array.replicate n (.slice none 0 0)) 64)).alloc (.cells #[.slice none 0 0, .slice (some ⟨w.heap.size + 1, 0, none⟩) n n] 205)).cell? ⟨p, 0, none⟩ = some (.int .i64 n) := by
    rw [World.cell?_of_block (Below.heap_alloc _ _ _ (by simp <;> omega)), World.cell?_of_block (Below.heap_alloc _ _ _ (by simp <;> omega)), World.cell?_of_block (Below.heap_alloc _ _ _ hp)]; exact c0
  obtain ⟨o, hrng, hit0, hrow0, hst0, hres0, hbel0, c1'⟩ := ow_begin w p m q n L D hg _ rfl
  have H0 : Hid (Rowed _ (w.heap.size + 1 + 1 + 1 + 1 + 1) (w.heap.size + 1 + 1) (w.heap.size + 1) (.slice (some ⟨w.heap.size + 1 + 1 + 1, 0, none⟩) 1 1) n (List.replicate n (.slice none 0 0)) (List.replicate n []) ∧ EIter _ (w.heap.size + 1 + 1 + 1 + 1) m L L ∧ Laid id n L L (List.replicate n []) ∧ _ ∧ _ ∧ _) := ⟨hrow0, hit0, laid_start id n L hg.edges.nodup, hst0, hres0, hbel0⟩
  clear hg hit0 hrow0 hst0 hres0 hbel0
  go_enter Tryz.func137, Tryz.ntmps137
  go_wp2_with fail
  go_loopw [4] (fun _ wr => ∃ (R : List (Nat × Nat)) (ts : List Value) (T : List (List Nat)), Rowed wr (w.heap.size + 1 + 1 + 1 + 1 + 1) (w.heap.size + 1 + 1) (w.heap.size + 1) (.slice (some ⟨w.heap.size + 1 + 1 + 1, 0, none⟩) 1 1) n ts T ∧ EIter wr (w.heap.size + 1 + 1 + 1 + 1) m L R ∧ Laid id n L R T ∧
      wr.heap[w.heap.size + 1 + 1 + 1]? = some (.cells #[.int .i64 0] 3 (0, 0)) ∧ wr.heap[w.heap.size]? = some (.cells #[.slice none 0 0, .slice none 0 0] 205 (0, 0)) ∧ Below w.heap.size w wr) (fun _ wr => iterLeft (w.heap.size + 1 + 1 + 1 + 1) m wr)
  case atStart => exact ⟨_, _, _, H0.out⟩
  case round =>
    obtain ⟨R, ts, T, hrow, hit, hlaid, hst, hres, hbel⟩ := hrel
    clear H0 c0 c0' c1' hrng hmk
    by_cases hR : R = []
    · subst hR
      have hover := hit.over
      have d0 : wr.cell? ⟨w.heap.size + 1 + 1, 0, none⟩ = some (.slice (some ⟨w.heap.size + 1 + 1 + 1, 0, none⟩) 1 1) := by simp [World.cell?, hrow.hb3]
      have d1 : wr.cell? ⟨w.heap.size + 1 + 1, 1, none⟩ = some (.slice (some ⟨w.heap.size + 1, 0, none⟩) n n) := by simp [World.cell?, hrow.hb3]
      have e0 : wr.cell? ⟨w.heap.size, 0, none⟩ = some (.slice none 0 0) := by simp [World.cell?, hres]
      have e1 : wr.cell? ⟨w.heap.size, 1, none⟩ = some (.slice none 0 0) := by simp [World.cell?, hres]
      have f0 : wr.frozen? ⟨w.heap.size, 0, none⟩ = false := by simp [World.frozen?, hres]
      have f1 : wr.frozen? ⟨w.heap.size, 1, none⟩ = false := by simp [World.frozen?, hres]
      have hfin : Hid (∀ u0 u1 : Value, WalkIn ((wr.setCell ⟨w.heap.size, 0, none⟩ u0).setCell ⟨w.heap.size, 1, none⟩ u1) (.slice (some ⟨w.heap.size + 1 + 1 + 1, 0, none⟩) 1 1) (.slice (some ⟨w.heap.size + 1, 0, none⟩) n n) ts n [0] T ∧ Below w.heap.size w ((wr.setCell ⟨w.heap.size, 0, none⟩ u0).setCell ⟨w.heap.size, 1, none⟩ u1) ∧ (∀ i b, i < n → (b ∈ T.getD i [] ↔ (i, b) ∈ L))) := by
        intro u0 u1
        have ht : Turned wr ((wr.setCell ⟨w.heap.size, 0, none⟩ u0).setCell ⟨w.heap.size, 1, none⟩ u1) w.heap.size :=
          ⟨rfl, rfl, rfl, by simp [World.setCell], fun k hk => (Below.heap_setCell _ _ _ _ hk).trans (Below.heap_setCell _ _ _ _ hk)⟩
        have hrow' := hrow.turned ht (by omega) (by omega) (by omega)
        have hst' := (ht.block (w.heap.size + 1 + 1 + 1) (by omega)).trans hst
        refine ⟨rowed_walk hrow' hlaid (fun x hx => HG.out.lt x hx) (pairs40 HG.out) ⟨rfl, _, _, rfl, .inr ⟨_, 0, rfl, fun j u hj => ?_⟩⟩ (by have := HG.out.pos; simp; omega) (by simp) HG.out.pos HG.out.le, hbel.trans (ht.below (Nat.le_refl _)), fun i b hi => ?_⟩
        · match j, hj with
          | 0, hj => simp [nums] at hj; subst hj; simp [World.cell?, hst']
          | j + 1, hj => simp [nums] at hj
        · rw [hlaid.mem i b hi]
          simp
      clear hit hlaid hst hres hbel hrow
      go_wp2_with fail
      exact bodyPost_ret (v := .agg #[.slice (some ⟨w.heap.size + 1 + 1 + 1, 0, none⟩) 1 1, .slice (some ⟨w.heap.size + 1, 0, none⟩) n n]) (by simp [results, Tryz.results137, go_sem, e0, e1]) rfl ⟨_, _, _, _, rfl, (hfin.out _ _).2.1, (hfin.out _ _).1, (hfin.out .nilIface .nilIface).2.2⟩
    · obtain ⟨⟨i, b⟩, A, B, w1, vv, rfl, hnext, hturn, hit1, hxL, hrm, hentry⟩ := hit.step hR
      have hib := HG.out.lt _ hxL
      have hne := hit.rNe hrow.hgt
      have hne3 := hit.rNe hrow.hb3
      have hrow1 := hrow.turned hturn hne3.1 hne.1 (by omega)
      obtain ⟨v, hv⟩ : ∃ v, ts[i]? = some v := ⟨_, List.getElem?_eq_getElem (by rw [hrow.lts]; exact hib.1)⟩
      obtain ⟨ao, cap, hform⟩ := (hrow1.own i v hv).len
      have hcame : Came w1 (w.heap.size + 1 + 1 + 1 + 1 + 1) (w.heap.size + 1 + 1) (w.heap.size + 1) (.slice (some ⟨w.heap.size + 1 + 1 + 1, 0, none⟩) 1 1) n ts T (w.heap.size + 1 + 1 + 1 + 1) m L (A ++ B) i b i b v ao cap :=
        ⟨hrow1, hit1, hv, hform, hib.1, by omega, by have := HG.out.mLt; omega⟩
      obtain ⟨s1, s2, s3, s4, s5⟩ := hcame.cells (w1.alloc (.cells #[.int .i64 (i : Int), .int .i64 (b : Int)] 208)) (fun _ _ _ => rfl)
      have hlen := hlaid.len i
      have hL40 : L.length ≤ 1600 := by
        have h1 := pairs_len n L HG.out.edges.nodup HG.out.lt
        have h2 : n * n ≤ 40 * 40 := Nat.mul_le_mul HG.out.le HG.out.le
        omega
      have hlen2 : (T.getD i []).length ≤ 1600 := by omega
      have hb5 := hrow1.lb
      have HC : Hid (Came w1 (w.heap.size + 1 + 1 + 1 + 1 + 1) (w.heap.size + 1 + 1) (w.heap.size + 1) (.slice (some ⟨w.heap.size + 1 + 1 + 1, 0, none⟩) 1 1) n ts T (w.heap.size + 1 + 1 + 1 + 1) m L (A ++ B) i b i b v ao cap) := hcame
      have HLAID := laid_put hlaid hrow.lT hib.1
      have HL2 : Hid (Laid id n L (A ++ B) (T.set i (T.getD i [] ++ [b]))) := HLAID
      have HMU : Hid (iterLeft (w.heap.size + 1 + 1 + 1 + 1) m wr = (A ++ (i, b) :: B).length) := hit.left
      have hi1 : (0 : Int) ≤ (i : Int) := by omega
      have hi2 : (i : Int) < (n : Int) := by omega
      have HX : Hid (wr.heap[w.heap.size + 1 + 1 + 1]? = some (.cells #[.int .i64 0] 3 (0, 0)) ∧ wr.heap[w.heap.size]? = some (.cells #[.slice none 0 0, .slice none 0 0] 205 (0, 0)) ∧ Below w.heap.size w wr ∧ Turned wr w1 (w.heap.size + 1 + 1 + 1 + 1)) := ⟨hst, hres, hbel, hturn⟩
      obtain ⟨i0, hi, hz0, hz1, hz2⟩ := info_parts infoInt
      subst hform
      generalize hlT : T.getD i [] = Ti at hlen2 s4 HL2
      have HT : Hid (T.getD i [] = Ti) := hlT
      obtain ⟨⟨q1, q2, q3, q5⟩, q4⟩ := HC.out.keep1 HT.out (.cells #[.int .i64 (b : Int)] 3)
      obtain ⟨g, off, cp, w2, happ, hown2, hgrow2, hloc2⟩ := HC.out.app HT.out hlen2
      obtain ⟨⟨r1, r2, r3, r5⟩, r4⟩ := HC.out.keep2 HT.out hgrow2
      have hput := HC.out.put (b := b) (o := .cells #[.int .i64 (b : Int)] 3) (w2 := w2) (g := g) (off := off) (cp := cp) (by rw [HT.out]; exact ⟨hgrow2.os, hgrow2.tape, hgrow2.output, hgrow2.size, hgrow2.block⟩) (by rw [HT.out]; exact hown2) (by rw [HT.out]; exact hloc2)
      rw [HT.out] at hput
      have hfin : Hid (∃ (R : List (Nat × Nat)) (ts : List Value) (T : List (List Nat)), Rowed (w2.setCell ⟨w.heap.size + 1, i, none⟩ (.slice (some ⟨g, off, none⟩) (Ti.length + 1) cp)) (w.heap.size + 1 + 1 + 1 + 1 + 1) (w.heap.size + 1 + 1) (w.heap.size + 1) (.slice (some ⟨w.heap.size + 1 + 1 + 1, 0, none⟩) 1 1) n ts T ∧ EIter (w2.setCell ⟨w.heap.size + 1, i, none⟩ (.slice (some ⟨g, off, none⟩) (Ti.length + 1) cp)) (w.heap.size + 1 + 1 + 1 + 1) m L R ∧ Laid id n L R T ∧
          (w2.setCell ⟨w.heap.size + 1, i, none⟩ (.slice (some ⟨g, off, none⟩) (Ti.length + 1) cp)).heap[w.heap.size + 1 + 1 + 1]? = some (.cells #[.int .i64 0] 3 (0, 0)) ∧ (w2.setCell ⟨w.heap.size + 1, i, none⟩ (.slice (some ⟨g, off, none⟩) (Ti.length + 1) cp)).heap[w.heap.size]? = some (.cells #[.slice none 0 0, .slice none 0 0] 205 (0, 0)) ∧ Below w.heap.size w (w2.setCell ⟨w.heap.size + 1, i, none⟩ (.slice (some ⟨g, off, none⟩) (Ti.length + 1) cp))) := by
        obtain ⟨k1, k2, k3, k4, k5, k6, k7⟩ := hput
        refine ⟨_, _, _, k1, k2, HL2.out, ?_, ?_, ?_⟩
        · rw [k3 _ (by omega) (by omega), hturn.block _ (by omega)]; exact hst
        · rw [k3 _ (by omega) (by omega), hturn.block _ (by omega)]; exact hres
        · refine hbel.trans ⟨k5.trans hturn.os, k6.trans hturn.tape, k7.trans hturn.output, by rw [← hturn.size]; exact k4, fun k hk => ?_⟩
          rw [k3 _ (by omega) (by omega), hturn.block _ (by omega)]
      have hmu : Hid (iterLeft (w.heap.size + 1 + 1 + 1 + 1) m (w2.setCell ⟨w.heap.size + 1, i, none⟩ (.slice (some ⟨g, off, none⟩) (Ti.length + 1) cp)) < iterLeft (w.heap.size + 1 + 1 + 1 + 1) m wr) := by
        show _ < _
        rw [HMU.out, hput.2.1.left]
        simp
      clear hput
      clear hlT HLAID hcame hrow1 hrow hit1 hit hlaid hst hres hbel hturn hib hne hne3 hR hlen hL40 hv hrm hxL
      go_wp2_with fail
      go_region
      all_goals go_wp2
      all_goals go_roundw
      case rel => exact hfin.out
      case measure => exact hmu.out

end Go.Proofs.YtbddcodljmglfaaGreatDoor

namespace Go.Proofs.YtbddcodljmglfaaGreatDoor
open Go.RowKit

def rowVal (n : Nat) (g : Nat) : Value := .slice (some ⟨g, 0, none⟩) n n

/-- The first k rows of the table are laid. -/
structure TabIn (w : World) (hh n k : Nat) (gs : List Nat) (H : Nat → Nat → Bool) (Hd : Nat → Nat → Prop) : Prop where
  head : w.heap[hh]? = some (.cells (gs.map (rowVal n) ++ List.replicate (n - k) (Value.slice none 0 0)).toArray 99 (0, 0))
  len : gs.length = k
  row : ∀ i g, gs[i]? = some g → ∃ bs : List Bool, w.heap[g]? = some (.cells (bits bs).toArray 4 (0, 0)) ∧ bs.length = n ∧ ∀ b, b < n → bs.getD b false = H i b
  tells : ∀ i b, i < k → b < n → (H i b = true ↔ Hd i b)

theorem TabIn.of_blocks {w w' : World} {hh n k : Nat} {gs : List Nat} {H : Nat → Nat → Bool} {Hd : Nat → Nat → Prop} (h : TabIn w hh n k gs H Hd) (hb : Below w.heap.size w w') : TabIn w' hh n k gs H Hd :=
  ⟨(hb.block _ (blk_lt h.head)).trans h.head, h.len, fun i g hi => by
    obtain ⟨bs, h1, h2⟩ := h.row i g hi
    exact ⟨bs, (hb.block _ (blk_lt h1)).trans h1, h2⟩, h.tells⟩

theorem TabIn.push {w : World} {hh n k : Nat} {gs : List Nat} {H : Nat → Nat → Bool} {Hd : Nat → Nat → Prop} (h : TabIn w hh n k gs H Hd) (hk : k < n) {g : Nat} {bs : List Bool} (hg : w.heap[g]? = some (.cells (bits bs).toArray 4 (0, 0))) (hl : bs.length = n) (ht : ∀ b, b < n → (bs.getD b false = true ↔ Hd k b)) :
    TabIn (w.setCell ⟨hh, k, none⟩ (rowVal n g)) hh n (k + 1) (gs ++ [g]) (fun i b => if i = k then bs.getD b false else H i b) Hd := by
  have hne : ∀ x c, w.heap[x]? = some (.cells c 4 (0, 0)) → x ≠ hh := by
    rintro x c hx rfl
    rw [h.head] at hx
    simp at hx
  refine ⟨?_, by simp [h.len], fun i g' hi => ?_, fun i b hi hb => ?_⟩
  · have e : n - k = (n - (k + 1)) + 1 := by omega
    have hlk := h.len
    simp only [World.setCell, Array.getElem?_modify, h.head, Option.map_some]
    simp only [if_true]
    rw [e, List.replicate_succ]
    simp [hlk, List.set_append]
  · rw [List.getElem?_append] at hi
    split at hi
    · rename_i hlt
      obtain ⟨bs', h1, h2, h3⟩ := h.row i g' hi
      refine ⟨bs', by rw [Below.heap_setCell _ _ _ _ (hne _ _ h1)]; exact h1, h2, fun b hb => ?_⟩
      rw [if_neg (by have := h.len; omega)]
      exact h3 b hb
    · rename_i hlt
      have hi0 : i - gs.length = 0 := by
        rcases Nat.eq_zero_or_pos (i - gs.length) with h0 | h0
        · exact h0
        · rw [List.getElem?_eq_none (by simp; omega)] at hi; simp at hi
      rw [hi0] at hi
      simp at hi
      subst hi
      have hik : i = k := by have := h.len; omega
      refine ⟨bs, by rw [Below.heap_setCell _ _ _ _ (hne _ _ hg)]; exact hg, hl, fun b hb => ?_⟩
      rw [if_pos hik]
  · by_cases hik : i = k
    · subst hik
      simp only [if_true]
      exact ht b hb
    · simp only [hik, if_false]
      exact h.tells i b (by omega) hb

theorem TabIn.cells {w : World} {hh n : Nat} {gs : List Nat} {H : Nat → Nat → Bool} {Hd : Nat → Nat → Prop} (h : TabIn w hh n n gs H Hd) {a b : Nat} (ha : a < n) (hb : b < n) :
    w.cell? ⟨hh, a, none⟩ = some (.slice (some ⟨gs.getD a 0, 0, none⟩) n n) ∧ w.cell? ⟨gs.getD a 0, b, none⟩ = some (.bool (H a b)) := by
  have hga : gs[a]? = some (gs.getD a 0) := by
    have := h.len
    simp [List.getD, this, ha]
  obtain ⟨bs, h1, h2, h3⟩ := h.row a _ hga
  constructor
  · have hlt : a < gs.length := by rw [h.len]; exact ha
    have e : gs[a] = gs.getD a 0 := by rw [List.getElem?_eq_getElem hlt] at hga; simpa using hga
    simp [-List.getD_eq_getElem?_getD, World.cell?, h.head, hga, rowVal, List.getElem?_append, hlt, e]
  · rw [← h3 b hb]
    exact (cell_bits h1 (by rw [h2]; exact hb)).1

theorem infoBools : (Tryz.prog.info? 99).map (fun i => (i.zero, i.size, i.bytes)) = some (some (.slice none 0 0), 1, 24) := by kernel_rfl
theorem makeTab (n : Nat) (hn : n ≤ 1000) (w : World) :
    (Instr.makeSlice 220 (.int .i64 n) (.int .i64 n)).run Tryz.prog w = .ok (.slice (some ⟨w.heap.size, 0, none⟩) n n) (w.alloc (.cells (Array.replicate n (.slice none 0 0)) 99)) := by
  obtain ⟨i0, hi, hz0, hz1, hz2⟩ := info_parts infoBools
  exact run_make1 _ _ i0 _ Tryz.underlying220 hi hz0 hz1 rfl n hn (by omega) w

set_option maxRecDepth 100000 in
set_option maxHeartbeats 4000000 in
theorem allHeld_any (w : World) (vs vt : Value) (ts : List Value) (n : Nat) (S : List Nat) (T : List (List Nat)) (h : WalkIn w vs vt ts n S T) :
    Calls Tryz.prog 173 #[.agg #[vs, vt]] w fun e w' => ∃ (hh : Nat) (gs : List Nat) (H : Nat → Nat → Bool), e = .returned (.slice (some ⟨hh, 0, none⟩) n n) ∧ TabIn w' hh n n gs H (fun i c => Held (· ∈ S) (fun a c => c ∈ T.getD a []) (i : Int) c) ∧ Below w.heap.size w w' := by
  have hmk := makeTab n (by have := h.le; omega)
  have hle := h.le
  have HH : Hid (WalkIn w vs vt ts n S T) := h
  obtain ⟨hl0, ao, cap, rfl, _⟩ := h.steps
  obtain ⟨hl9, ao9, cap9, rfl, _⟩ := h.starts
  clear h hl0 hl9
  go_enter Tryz.func173, Tryz.ntmps173
  go_wp2_with fail
  have hbox0 : Hid (((w.alloc (.cells #[.slice ao9 S.length cap9, .slice ao n cap] 205)).alloc (.cells (Array.replicate n (.slice none 0 0)) 99)).heap[w.heap.size]? = some (.cells #[.slice ao9 S.length cap9, .slice ao n cap] 205 (0, 0))) := (Below.heap_alloc _ _ _ (by simp)).trans (heap_new rfl)
  have htab0 : Hid (TabIn ((w.alloc (.cells #[.slice ao9 S.length cap9, .slice ao n cap] 205)).alloc (.cells (Array.replicate n (.slice none 0 0)) 99)) (w.heap.size + 1) n 0 [] (fun _ _ => false) (fun i c => Held (· ∈ S) (fun a c => c ∈ T.getD a []) (i : Int) c)) :=
    ⟨by rw [heap_new (by simp)]; simp, rfl, by simp, by simp⟩
  have hbel0 : Hid (Below w.heap.size w ((w.alloc (.cells #[.slice ao9 S.length cap9, .slice ao n cap] 205)).alloc (.cells (Array.replicate n (.slice none 0 0)) 99))) := ((Below.refl _ _).alloc (Nat.le_refl _) _).alloc (by simp) _
  go_loopg [11] n (fun g i wr => ∃ (k : Nat) (gs : List Nat) (H : Nat → Nat → Bool), k + g = n ∧ i = .int .i64 k ∧ Hid (TabIn wr (w.heap.size + 1) n k gs H (fun i c => Held (· ∈ S) (fun a c => c ∈ T.getD a []) (i : Int) c)) ∧ Hid (wr.heap[w.heap.size]? = some (.cells #[.slice ao9 S.length cap9, .slice ao n cap] 205 (0, 0))) ∧ Hid (Below w.heap.size w wr))
  case atStart => exact ⟨0, [], _, by omega, rfl, htab0, hbox0, hbel0⟩
  case round =>
    obtain ⟨k, gs, H, hkn, rfl, htab, hbox, hbel⟩ := hrel
    clear hbox0 htab0 hbel0 hmk
    by_cases hlt : k < n
    · have hc0 : wr.cell? ⟨w.heap.size, 0, none⟩ = some (.slice ao9 S.length cap9) := by simp [World.cell?, hbox.out]
      have hc1 : wr.cell? ⟨w.heap.size, 1, none⟩ = some (.slice ao n cap) := by simp [World.cell?, hbox.out]
      have hhl := blk_lt htab.out.head
      have hcx : ∃ v, wr.cell? ⟨w.heap.size + 1, k, none⟩ = some v := by
        have hlk := htab.out.len
        refine ⟨.slice none 0 0, ?_⟩
        simp [World.cell?, htab.out.head, List.getElem?_append, hlk, List.getElem?_replicate]
        omega
      obtain ⟨v0, hcx⟩ := hcx
      have hfx : wr.frozen? ⟨w.heap.size + 1, k, none⟩ = false := by simp [World.frozen?, htab.out.head]
      have hcall := held_any wr _ _ ts n S T (k : Int) (HH.out.below hbel.out)
      have HC : Hid (Calls Tryz.prog 172 _ wr _) := hcall
      clear hcall
      go_wp2_with (first | (go_at_call 172; refine HC.out.mono ?_; rintro e w1 ⟨g1, b1, rfl, hg1, hh1, hl1, ht1, hbel1⟩; obtain ⟨hcc, hff⟩ := bcell hbel1; have hcy := (hcc _ k hhl).trans hcx; have hfy := (hff _ k hhl).trans hfx; clear hcc hff))
      go_roundg (n - (k + 1))
      case measure => omega
      case rel =>
        have hp := (htab.out.of_blocks hbel1).push hlt hh1 hl1 ht1
        refine ⟨k + 1, _, _, by omega, by go_num, hp, ?_, ?_⟩
        · show _ = _
          rw [Below.heap_setCell _ _ _ _ (by simp), hbel1.block _ (by omega)]; exact hbox.out
        · exact (hbel.out.trans (hbel1.mono hbel.out.size)).setCell (by simp) _
    · obtain rfl : n = k := by omega
      clear hbox hlt
      go_wp2_with fail
      go_ret
      exact ⟨_, gs, H, rfl, htab.out, hbel.out⟩

end Go.Proofs.YtbddcodljmglfaaGreatDoor

namespace Go.Proofs.YtbddcodljmglfaaGreatDoor
open Go.RowKit

/-- b is reached from node 0 along the edges of L on a way that does not go over x. -/
def Fwd (L : List (Nat × Nat)) (x : Int) (b : Nat) : Prop := RAr (fun a => a = 0) (fun a c => (a, c) ∈ L) x b
def HeldF (L : List (Nat × Nat)) (a : Int) (b : Nat) : Prop := Fwd L (-1) b ∧ ¬ Fwd L a b

theorem getD_out {T : List (List Nat)} {n i : Nat} (h : T.length = n) (hi : ¬ i < n) : T.getD i [] = [] := by
  simp only [List.getD]
  rw [List.getElem?_eq_none (by omega)]
  rfl

theorem fwd_iff {w w' : World} {p m q n : Nat} {L : List (Nat × Nat)} {D : List Bool} {vs vt : Value} {ts : List Value} {T : List (List Nat)} (hg : GraphIn w p m q n L D) (hw : WalkIn w' vs vt ts n [0] T) (hT : ∀ i b, i < n → (b ∈ T.getD i [] ↔ (i, b) ∈ L)) (x : Int) (b : Nat) :
    RAr (· ∈ [0]) (fun a c => c ∈ T.getD a []) x b ↔ Fwd L x b := by
  refine RAr.congr (fun a => by simp) (fun a c => ?_)
  by_cases h : a < n
  · exact hT a c h
  · rw [getD_out hw.lenT h]
    constructor
    · intro h'; simp at h'
    · intro h'; exact absurd (hg.lt _ h').1 h

set_option maxHeartbeats 1000000 in
theorem allOver_any (w : World) (p m q n : Nat) (L : List (Nat × Nat)) (D : List Bool) (hg : GraphIn w p m q n L D) : Calls Tryz.prog 153 #[.pointer (some ⟨p, 0, none⟩)] w fun e w' => ∃ (hh : Nat) (gs : List Nat) (H : Nat → Nat → Bool), e = .returned (.slice (some ⟨hh, 0, none⟩) n n) ∧ TabIn w' hh n n gs H (fun i c => HeldF L (i : Int) c) ∧ Below w.heap.size w w' := by
  have HG : Hid (GraphIn w p m q n L D) := hg
  clear hg
  go_enter Tryz.func153, Tryz.ntmps153
  go_wp2_with fail
  refine (onward_any w p m q n L D HG.out).mono ?_
  rintro e w1 ⟨vs, vt, ts, T, rfl, hb1, hw1, hT⟩
  have HW : Hid (WalkIn w1 vs vt ts n [0] T) := hw1
  have HT : Hid (∀ i b, i < n → (b ∈ T.getD i [] ↔ (i, b) ∈ L)) := hT
  clear hw1 hT
  go_wp2_with fail
  refine (allHeld_any w1 vs vt ts n [0] T HW.out).mono ?_
  rintro e w2 ⟨hh, gs, H, rfl, htab, hb2⟩
  have hfin : Hid (TabIn w2 hh n n gs H (fun i c => HeldF L (i : Int) c) ∧ Below w.heap.size w w2) := by
    refine ⟨⟨htab.head, htab.len, htab.row, fun i b hi hb => ?_⟩, hb1.trans (hb2.mono hb1.size)⟩
    rw [htab.tells i b hi hb, Held, HeldF, fwd_iff HG.out HW.out HT.out, fwd_iff HG.out HW.out HT.out]
  clear htab
  go_wp2_with fail
  go_ret
  exact ⟨hh, gs, H, rfl, hfin.out.1, hfin.out.2⟩

/-- The nodes ahead of b, below k. -/
def aheadTo (L : List (Nat × Nat)) (b k : Nat) : List Nat := (List.range k).filter fun a => decide ((a, b) ∈ L)
theorem aheadTo_succ (L : List (Nat × Nat)) (b k : Nat) : aheadTo L b (k + 1) = aheadTo L b k ++ if (k, b) ∈ L then [k] else [] := by
  unfold aheadTo
  rw [List.range_succ, List.filter_append]
  simp only [List.filter_cons, List.filter_nil]
  by_cases h : (k, b) ∈ L <;> simp [h]
theorem aheadTo_le (L : List (Nat × Nat)) (b k : Nat) : (aheadTo L b k).length ≤ k := by
  have := List.length_filter_le (fun a => decide ((a, b) ∈ L)) (List.range k)
  simpa [aheadTo] using this

set_option maxRecDepth 100000 in
set_option maxHeartbeats 2000000 in
theorem ahead_any (w : World) (p m q n : Nat) (L : List (Nat × Nat)) (D : List Bool) (hg : GraphIn w p m q n L D) (b : Nat) : Calls Tryz.prog 108 #[.pointer (some ⟨p, 0, none⟩), .int .i64 (b : Int)] w fun e w' => (∃ v, e = .returned v ∧ OwnS w' w.heap.size 3 1 v (aheadTo L b n).length (nums (aheadTo L b n))) ∧ Below w.heap.size w w' := by
  have HG : Hid (∀ W, Below w.heap.size w W → GraphIn W p m q n L D) := fun W hb => hg.below hb
  have HC : Hid (∀ W a, Below w.heap.size w W → Calls Tryz.prog 143 #[.pointer (some ⟨p, 0, none⟩), .int .i64 (a : Nat), .int .i64 (b : Int)] W fun e w' => (∃ v : Nat, e = .returned (.int .i64 (v : Int)) ∧ (0 < v ↔ (a, b) ∈ L)) ∧ w' = W) := fun W a hb => wcount_any W p m L a b (hg.below hb).c1 (hg.below hb).edges
  have c0 := hg.c0
  have hle := hg.le
  obtain ⟨i0, hi, hz0, hz1, hz2⟩ := info_parts infoInt
  clear hg
  go_enter Tryz.func108, Tryz.ntmps108
  go_wp2_with fail
  go_loopg [5, 11] n (fun g v5 v11 wr => ∃ k : Nat, k + g = n ∧ v11 = .int .i64 k ∧ Hid (OwnS wr w.heap.size 3 1 v5 (aheadTo L b k).length (nums (aheadTo L b k))) ∧ Hid (Below w.heap.size w wr))
  case atStart => exact ⟨0, by omega, rfl, OwnS.nil _ _ _ _, Below.refl _ _⟩
  case round =>
    obtain ⟨k, hkg, rfl, hown, hbel⟩ := hrel
    have hal := aheadTo_le L b k
    obtain ⟨ao, cp, hv⟩ := hown.out.len
    subst hv
    by_cases hlt : k < n
    · have HC1 : Hid _ := HC.out wr k hbel.out
      by_cases hkb : (k, b) ∈ L
      · have HS : Hid (aheadTo L b (k + 1) = aheadTo L b k ++ [k]) := by show _ = _; rw [aheadTo_succ, if_pos hkb]
        have HKB : Hid ((k, b) ∈ L) := hkb
        generalize aheadTo L b k = A at *
        go_wp2_with (first
          | (go_at_call 143; refine Calls.mono HC1.out ?_; rintro e w1 ⟨⟨v, rfl, hv⟩, hw1⟩; rw [hw1]; have hvp : (0 : Int) < (v : Int) := (by have := hv.2 HKB.out; omega); clear hw1 hv)
          | (at_builtin; refine wpList_append_ownS _ rfl _ _ 64 rfl w.heap.size 3 i0 (.int .i64 0) 1 8 Tryz.underlying64 hi hz0 hz1 hz2 rfl (by decide) _ _ _ rfl (hown.out.alloc _) ⟨wr.heap.size, 0, none⟩ 1 1 [.int .i64 (k : Int)] rfl rfl (cell_new1 _ _ _) (fun u hu => nums_one u k hu) (by decide) (by unfold maxLen; omega) (by omega) (by have := hbel.out.size; simp; omega) ?_; intro g' off' cap' w1 hown1 hgrow hloc hlt1; have HO1 : Hid _ := hown1; have HB1 : Hid (Below w.heap.size w w1) := (hbel.out.alloc hbel.out.size _).grown hgrow (by have := hbel.out.size; simp; omega) (fun j hj => ((hown.out.alloc (.cells #[.int .i64 (k : Int)] 3)).lt j hj).1); clear hown1 hgrow hloc))
        go_roundg (n - (k + 1))
        case measure => omega
        case rel => exact ⟨k + 1, by omega, by go_num, by rw [HS.out, nums_app2, List.length_append]; exact HO1, HB1⟩
      · have HS : Hid (aheadTo L b (k + 1) = aheadTo L b k) := by show _ = _; rw [aheadTo_succ, if_neg hkb, List.append_nil]
        have HKB : Hid ((k, b) ∉ L) := hkb
        generalize aheadTo L b k = A at *
        go_wp2_with (first
          | (go_at_call 143; refine Calls.mono HC1.out ?_; rintro e w1 ⟨⟨v, rfl, hv⟩, hw1⟩; rw [hw1]; have hvp : ¬ (0 : Int) < (v : Int) := (by intro h; exact HKB.out (hv.1 (by omega))); clear hw1 hv))
        go_roundg (n - (k + 1))
        case measure => omega
        case rel => exact ⟨k + 1, by omega, by go_num, by rw [HS.out]; exact hown, hbel⟩
    · obtain rfl : n = k := by omega
      go_wp2_with fail
      go_ret
      exact ⟨⟨_, rfl, hown.out⟩, hbel.out⟩

end Go.Proofs.YtbddcodljmglfaaGreatDoor
