/- Plain mathematics: what is reached on ways that do not go over one node, and that a search by a waiting list finds just that. And what follows on it. -/
import Init
import Derived.Test.YtbddcodljmglfaaGreatDoorGraphA
set_option linter.unusedVariables false
set_option linter.unusedSimpArgs false
namespace Go.Proofs.YtbddcodljmglfaaGreatDoor

/-- Reached from S along E: in every set that has S and is shut under E. -/
def Reach (S : Nat → Prop) (E : Nat → Nat → Prop) (b : Nat) : Prop := ∀ P : Nat → Prop, (∀ a, S a → P a) → (∀ a c, P a → E a c → P c) → P b

theorem Reach.start {S : Nat → Prop} {E : Nat → Nat → Prop} {a : Nat} (h : S a) : Reach S E a := fun _ hs _ => hs a h
theorem Reach.step {S : Nat → Prop} {E : Nat → Nat → Prop} {a c : Nat} (h : Reach S E a) (he : E a c) : Reach S E c := fun P hs ht => ht a c (h P hs ht) he
theorem Reach.ind {S : Nat → Prop} {E : Nat → Nat → Prop} {b : Nat} (h : Reach S E b) (P : Nat → Prop) (hs : ∀ a, S a → P a) (ht : ∀ a c, Reach S E a → P a → E a c → P c) : P b :=
  (h (fun b => Reach S E b ∧ P b) (fun a ha => ⟨Reach.start ha, hs a ha⟩) (fun a c ha he => ⟨ha.1.step he, ht a c ha.1 ha.2 he⟩)).2
theorem Reach.mono {S S' : Nat → Prop} {E E' : Nat → Nat → Prop} {b : Nat} (h : Reach S E b) (hs : ∀ a, S a → S' a) (he : ∀ a c, E a c → E' a c) : Reach S' E' b :=
  h _ (fun a ha => Reach.start (hs a ha)) (fun a c ha hc => Reach.step ha (he a c hc))

/-- Reached on ways that do not go over x. -/
def RAr (S : Nat → Prop) (E : Nat → Nat → Prop) (x : Int) (b : Nat) : Prop := Reach (fun a => S a ∧ (a : Int) ≠ x) (fun a c => E a c ∧ (c : Int) ≠ x) b

theorem RAr.ne {S : Nat → Prop} {E : Nat → Nat → Prop} {x : Int} {b : Nat} (h : RAr S E x b) : (b : Int) ≠ x :=
  Reach.ind h (fun b => (b : Int) ≠ x) (fun a ha => ha.2) (fun a c _ _ he => he.2)

theorem RAr.congr {S S' : Nat → Prop} {E E' : Nat → Nat → Prop} {x : Int} {b : Nat} (hs : ∀ a, S a ↔ S' a) (he : ∀ a c, E a c ↔ E' a c) : RAr S E x b ↔ RAr S' E' x b :=
  ⟨fun h => Reach.mono h (fun a ha => ⟨(hs a).1 ha.1, ha.2⟩) (fun a c ha => ⟨(he a c).1 ha.1, ha.2⟩),
   fun h => Reach.mono h (fun a ha => ⟨(hs a).2 ha.1, ha.2⟩) (fun a c ha => ⟨(he a c).2 ha.1, ha.2⟩)⟩

/-- One node is visited: noted as seen, and put behind those that wait. -/
def vis1 (x : Int) (s : List Bool × List Nat) (a : Nat) : List Bool × List Nat :=
  if (a : Int) ≠ x ∧ s.1.getD a false = false then (s.1.set a true, s.2 ++ [a]) else s

def vis (x : Int) (l : List Nat) (s : List Bool × List Nat) : List Bool × List Nat := l.foldl (vis1 x) s

def unseen (s : List Bool) : Nat := s.count false

theorem getD_set {s : List Bool} {a b : Nat} (ha : a < s.length) : (s.set a true).getD b false = (s.getD b false || decide (b = a)) := by
  simp only [List.getD, List.getElem?_set]
  by_cases h : a = b
  · subst h
    simp [ha]
  · have h' : ¬ b = a := fun e => h e.symm
    simp [h, h']

theorem unseen_set {s : List Bool} : ∀ {a : Nat}, a < s.length → s.getD a false = false → unseen (s.set a true) + 1 = unseen s := by
  induction s with
  | nil => intro a h; simp at h
  | cons b s ih =>
    intro a h hb
    cases a with
    | zero =>
      simp at hb
      subst hb
      simp [unseen]
    | succ a =>
      have := ih (a := a) (by simpa using h) (by simpa using hb)
      unfold unseen at this ⊢
      simp only [List.set_cons_succ, List.count_cons]
      omega

theorem vis1_props (x : Int) (n : Nat) (s : List Bool × List Nat) (a : Nat) (hn : s.1.length = n) (ha : a < n) :
    (vis1 x s a).1.length = n ∧ (∀ b, (vis1 x s a).1.getD b false = (s.1.getD b false || (decide (b = a) && decide ((a : Int) ≠ x)))) ∧
    (∃ l, (vis1 x s a).2 = s.2 ++ l ∧ ∀ b, b ∈ l → (b = a ∧ (b : Int) ≠ x)) ∧ unseen (vis1 x s a).1 + (vis1 x s a).2.length = unseen s.1 + s.2.length ∧
    (∀ b, (vis1 x s a).1.getD b false = true → s.1.getD b false = false → b ∈ (vis1 x s a).2) := by
  unfold vis1
  by_cases h : (a : Int) ≠ x ∧ s.1.getD a false = false
  · rw [if_pos h]
    refine ⟨by simpa using hn, fun b => ?_, ⟨[a], rfl, fun b hb => ?_⟩, ?_, fun b hb hb' => ?_⟩
    · rw [getD_set (by omega)]
      simp [h.1]
    · simp at hb
      subst hb
      exact ⟨rfl, h.1⟩
    · have := unseen_set (s := s.1) (a := a) (by omega) h.2
      simp
      omega
    · rw [getD_set (by omega), hb'] at hb
      simp at hb
      simp [hb]
  · rw [if_neg h]
    refine ⟨hn, fun b => ?_, ⟨[], by simp, by simp⟩, rfl, fun b hb hb' => ?_⟩
    · by_cases hb : b = a
      · subst hb
        by_cases h1 : (b : Int) ≠ x
        · have : s.1.getD b false = true := by
            cases h2 : s.1.getD b false
            · exact absurd ⟨h1, h2⟩ h
            · rfl
          rw [this]; rfl
        · simp [h1]
      · simp [hb]
    · rw [hb] at hb'
      simp at hb'

theorem vis_props (x : Int) (n : Nat) : ∀ (l : List Nat) (s : List Bool × List Nat), s.1.length = n → (∀ a ∈ l, a < n) →
    (vis x l s).1.length = n ∧ (∀ b, (vis x l s).1.getD b false = (s.1.getD b false || (decide (b ∈ l) && decide ((b : Int) ≠ x)))) ∧
    (∃ k, (vis x l s).2 = s.2 ++ k ∧ ∀ b, b ∈ k → (b ∈ l ∧ (b : Int) ≠ x)) ∧ unseen (vis x l s).1 + (vis x l s).2.length = unseen s.1 + s.2.length ∧
    (∀ b, (vis x l s).1.getD b false = true → s.1.getD b false = false → b ∈ (vis x l s).2)
  | [], s, hn, _ => ⟨hn, by simp [vis], ⟨[], by simp [vis], by simp⟩, rfl, fun b hb hb' => by simp [vis] at hb; simp at hb'; rw [hb] at hb'; simp at hb'⟩
  | a :: l, s, hn, hl => by
    obtain ⟨h1, h2, ⟨k1, h3, h3'⟩, h4, h5⟩ := vis1_props x n s a hn (hl a (by simp))
    obtain ⟨g1, g2, ⟨k2, g3, g3'⟩, g4, g5⟩ := vis_props x n l (vis1 x s a) h1 (fun b hb => hl b (by simp [hb]))
    have e : vis x (a :: l) s = vis x l (vis1 x s a) := rfl
    rw [e]
    refine ⟨g1, fun b => ?_, ⟨k1 ++ k2, by rw [g3, h3, List.append_assoc], fun b hb => ?_⟩, by omega, fun b hb hb' => ?_⟩
    · rw [g2, h2]
      by_cases e1 : b = a
      · subst e1; cases s.1.getD b false <;> cases decide ((b : Int) ≠ x) <;> simp
      · simp [e1]
    · rcases List.mem_append.1 hb with hb | hb
      · have := h3' b hb
        exact ⟨by simp [this.1], this.2⟩
      · have := g3' b hb
        exact ⟨by simp [this.1], this.2⟩
    · cases hc : (vis1 x s a).1.getD b false
      · exact g5 b hb hc
      · rw [g3]
        exact List.mem_append.2 (.inl (h5 b hc hb'))

/-- What holds all along the search: what is seen is reached; what is seen and waits no longer has passed all on; those that wait are seen. -/
structure Bfs (n : Nat) (S : List Nat) (T : List (List Nat)) (x : Int) (s : List Bool × List Nat) : Prop where
  len : s.1.length = n
  sound : ∀ b, s.1.getD b false = true → RAr (· ∈ S) (fun a c => c ∈ T.getD a []) x b
  begun : ∀ a ∈ S, (a : Int) ≠ x → s.1.getD a false = true
  shut : ∀ a, s.1.getD a false = true → a ∉ s.2 → ∀ c ∈ T.getD a [], (c : Int) ≠ x → s.1.getD c false = true
  waits : ∀ a ∈ s.2, s.1.getD a false = true
  room : unseen s.1 + s.2.length ≤ n

theorem Bfs.lt {n : Nat} {S : List Nat} {T : List (List Nat)} {x : Int} {s : List Bool × List Nat} (h : Bfs n S T x s) : ∀ a ∈ s.2, a < n := by
  intro a ha
  have := h.waits a ha
  rcases Nat.lt_or_ge a s.1.length with h' | h'
  · rw [h.len] at h'; exact h'
  · simp [List.getD, List.getElem?_eq_none h'] at this

theorem bfs_start (n : Nat) (S : List Nat) (T : List (List Nat)) (x : Int) (hS : ∀ a ∈ S, a < n) : Bfs n S T x (vis x S (List.replicate n false, [])) := by
  obtain ⟨g1, g2, ⟨k, g3, g3'⟩, g4, g5⟩ := vis_props x n S (List.replicate n false, []) (by simp) hS
  have h0 : ∀ b, (List.replicate n false).getD b false = false := by
    intro b
    simp only [List.getD, List.getElem?_replicate]
    split <;> simp
  have hs : ∀ b, (vis x S (List.replicate n false, [])).1.getD b false = true ↔ b ∈ S ∧ (b : Int) ≠ x := by
    intro b
    rw [g2, h0]
    simp
  refine ⟨g1, fun b hb => ?_, fun a ha hx => (hs a).2 ⟨ha, hx⟩, fun a ha hn => absurd (g5 a ha (h0 a)) hn, fun a ha => ?_, ?_⟩
  · exact Reach.start ((hs b).1 hb)
  · rw [g3] at ha
    simp at ha
    exact (hs a).2 (g3' a ha)
  · rw [g4]
    simp [unseen]

theorem bfs_step (n : Nat) (S : List Nat) (T : List (List Nat)) (x : Int) (sn : List Bool) (a : Nat) (q : List Nat) (hT : ∀ l ∈ T, ∀ c ∈ l, c < n) (h : Bfs n S T x (sn, a :: q)) :
    Bfs n S T x (vis x (T.getD a []) (sn, q)) := by
  have hl : ∀ c ∈ T.getD a [], c < n := by
    intro c hc
    rcases Nat.lt_or_ge a T.length with h' | h'
    · refine hT (T.getD a []) ?_ c hc
      simp [List.getD, List.getElem?_eq_getElem h']
    · simp [List.getD, List.getElem?_eq_none h'] at hc
  obtain ⟨g1, g2, ⟨k, g3, g3'⟩, g4, g5⟩ := vis_props x n (T.getD a []) (sn, q) h.len hl
  have ha : sn.getD a false = true := h.waits a (by simp)
  have hra := h.sound a ha
  refine ⟨g1, fun b hb => ?_, fun b hb hx => ?_, fun b hb hn c hc hx => ?_, fun b hb => ?_, ?_⟩
  · rw [g2] at hb
    simp only [Bool.or_eq_true, Bool.and_eq_true, decide_eq_true_eq] at hb
    rcases hb with hb | ⟨hb, hx⟩
    · exact h.sound b hb
    · exact Reach.step hra ⟨hb, hx⟩
  · rw [g2, h.begun b hb hx]
    simp
  · rw [g2]
    cases hsb : sn.getD b false
    · exact absurd (g5 b hb hsb) hn
    · by_cases hba : b = a
      · subst hba
        simp [-List.getD_eq_getElem?_getD, hc, hx]
      · have hnq : b ∉ (a :: q) := by
          intro h'
          rcases List.mem_cons.1 h' with h' | h'
          · exact hba h'
          · exact hn (by rw [g3]; exact List.mem_append.2 (.inl h'))
        rw [h.shut b hsb hnq c hc hx]
        simp
  · rw [g3] at hb
    rw [g2]
    rcases List.mem_append.1 hb with hb | hb
    · rw [h.waits b (by simp [hb])]
      simp
    · simp [-List.getD_eq_getElem?_getD, (g3' b hb).1, (g3' b hb).2]
  · have := h.room
    simp only [List.length_cons] at this g4
    omega

theorem bfs_end {n : Nat} {S : List Nat} {T : List (List Nat)} {x : Int} {sn : List Bool} (h : Bfs n S T x (sn, [])) (b : Nat) :
    sn.getD b false = true ↔ RAr (· ∈ S) (fun a c => c ∈ T.getD a []) x b :=
  ⟨h.sound b, fun hr => hr (fun b => sn.getD b false = true) (fun a ha => h.begun a ha.1 ha.2) (fun a c ha he => h.shut a ha (by simp) c he.1 he.2)⟩

end Go.Proofs.YtbddcodljmglfaaGreatDoor

namespace Go.Proofs.YtbddcodljmglfaaGreatDoor
open Go.RowKit

/-- The search's memory: the node that is left out, what is seen, what waits. -/
structure Srch (w : World) (B0 base bx bs gs bw : Nat) (x : Int) (n : Nat) (s : List Bool × List Nat) (vw : Value) : Prop where
  hx : w.heap[bx]? = some (.cells #[.int .i64 x] 3 (0, 0))
  hs : w.heap[bs]? = some (.cells #[.slice (some ⟨gs, 0, none⟩) n n] 99 (0, 0))
  hg : w.heap[gs]? = some (.cells (bits s.1).toArray 4 (0, 0))
  hw : w.heap[bw]? = some (.cells #[vw] 64 (0, 0))
  own : OwnS w base 3 1 vw s.2.length (nums s.2)
  len : s.1.length = n
  le : n ≤ 40
  bB : base ≤ w.heap.size
  o1 : B0 ≤ bx ∧ B0 ≤ bs ∧ B0 ≤ gs ∧ B0 ≤ bw
  o2 : bx < base ∧ bs < base ∧ gs < base ∧ bw < base

section
variable {w w' : World} {B0 base bx bs gs bw : Nat} {x : Int} {n : Nat} {s : List Bool × List Nat} {vw : Value}
theorem Srch.ne (h : Srch w B0 base bx bs gs bw x n s vw) : bx ≠ bs ∧ bx ≠ gs ∧ bx ≠ bw ∧ bs ≠ gs ∧ bs ≠ bw ∧ gs ≠ bw := by
  have h1 := h.hx
  have h2 := h.hs
  have h3 := h.hg
  have h4 := h.hw
  refine ⟨?_, ?_, ?_, ?_, ?_, ?_⟩ <;> (rintro rfl; simp_all)
theorem Srch.cx (h : Srch w B0 base bx bs gs bw x n s vw) : w.cell? ⟨bx, 0, none⟩ = some (.int .i64 x) := by simp [World.cell?, h.hx]
theorem Srch.cs (h : Srch w B0 base bx bs gs bw x n s vw) : w.cell? ⟨bs, 0, none⟩ = some (.slice (some ⟨gs, 0, none⟩) n n) := by simp [World.cell?, h.hs]
theorem Srch.cw (h : Srch w B0 base bx bs gs bw x n s vw) : w.cell? ⟨bw, 0, none⟩ = some vw := by simp [World.cell?, h.hw]
theorem Srch.fw (h : Srch w B0 base bx bs gs bw x n s vw) : w.frozen? ⟨bw, 0, none⟩ = false := by simp [World.frozen?, h.hw]
theorem Srch.cg (h : Srch w B0 base bx bs gs bw x n s vw) {a : Nat} (ha : a < n) : w.cell? ⟨gs, a, none⟩ = some (.bool (s.1.getD a false)) := by
  have := h.len
  simp [World.cell?, h.hg, bits, List.getD, this, ha]
theorem Srch.fg (h : Srch w B0 base bx bs gs bw x n s vw) (a : Nat) : w.frozen? ⟨gs, a, none⟩ = false := by simp [World.frozen?, h.hg]

theorem Srch.after (h : Srch w B0 base bx bs gs bw x n s vw) {w1 : World} {o : Obj} {a : Nat} (hgrow : ((w.setCell ⟨gs, a, none⟩ (.bool true)).alloc o).grownBy w1 vw.ownBlock) : w1.cell? ⟨bw, 0, none⟩ = some vw ∧ w1.frozen? ⟨bw, 0, none⟩ = false := by
  have hne := h.ne
  have ho2 := h.o2
  have hb := h.bB
  have hbw1 : w1.heap[bw]? = w.heap[bw]? := by
    rw [hgrow.block bw (by simp; omega) (fun e => by have := (h.own.lt bw e.symm).1; omega), Below.heap_alloc _ _ _ (by simp; omega), Below.heap_setCell _ _ _ _ (by simp; omega)]
  exact ⟨by rw [World.cell?_of_block hbw1]; exact h.cw, by rw [World.frozen?_of_block hbw1]; exact h.fw⟩

/-- A node is noted and put behind. -/
theorem Srch.push (h : Srch w B0 base bx bs gs bw x n s vw) {a : Nat} (ha : a < n) (hx : (a : Int) ≠ x) (hs : s.1.getD a false = false) {w1 : World} {v' : Value} {o : Obj}
    (hown : OwnS w1 base 3 1 v' (s.2.length + 1) (nums s.2 ++ [.int .i64 (a : Int)])) (hgrow : ((w.setCell ⟨gs, a, none⟩ (.bool true)).alloc o).grownBy w1 vw.ownBlock) :
    Srch (w1.setCell ⟨bw, 0, none⟩ v') B0 base bx bs gs bw x n (vis1 x s a) v' ∧ Below B0 w (w1.setCell ⟨bw, 0, none⟩ v') := by
  have hne := h.ne
  have ho1 := h.o1
  have ho2 := h.o2
  have hv : vis1 x s a = (s.1.set a true, s.2 ++ [a]) := by simp [-List.getD_eq_getElem?_getD, vis1, hx, hs]
  have hkeep : ∀ k, k < base → w1.heap[k]? = (w.setCell ⟨gs, a, none⟩ (.bool true)).heap[k]? := by
    intro k hk
    have hk' : k < w.heap.size := Nat.lt_of_lt_of_le hk h.bB
    rw [hgrow.block k (by simp; omega) (fun e => by have := (h.own.lt k e.symm).1; omega)]
    exact Below.heap_alloc _ _ _ (by simpa using hk')
  have hkeep2 : ∀ k, k < base → k ≠ gs → w1.heap[k]? = w.heap[k]? := fun k hk hg => (hkeep k hk).trans (Below.heap_setCell _ _ _ _ hg)
  have hsz : w.heap.size ≤ w1.heap.size := by have := hgrow.size; simp at this; omega
  refine ⟨⟨?_, ?_, ?_, ?_, ?_, by rw [hv]; simpa using h.len, h.le, by simpa using Nat.le_trans h.bB hsz, ho1, ho2⟩, ?_⟩
  · rw [Below.heap_setCell _ _ _ _ (by simp; omega), hkeep2 bx (by omega) (by omega)]; exact h.hx
  · rw [Below.heap_setCell _ _ _ _ (by simp; omega), hkeep2 bs (by omega) (by omega)]; exact h.hs
  · rw [Below.heap_setCell _ _ _ _ (by simp; omega), hkeep gs (by omega), hv]
    simp [World.setCell, Array.getElem?_modify, h.hg, bits, List.map_set]
  · have hb : w1.heap[bw]? = some (.cells #[vw] 64 (0, 0)) := (hkeep2 bw (by omega) (by omega)).trans h.hw
    simp [World.setCell, Array.getElem?_modify, hb]
  · have : OwnS w1 base 3 1 v' (vis1 x s a).2.length (nums (vis1 x s a).2) := by rw [hv]; simpa [nums] using hown
    exact this.of_block fun k hk => Below.heap_setCell _ _ _ _ (by have := (this.lt k hk).1; simp; omega)
  · refine ⟨hgrow.os, hgrow.tape, hgrow.output, by simpa using hsz, fun k hk => ?_⟩
    rw [Below.heap_setCell _ _ _ _ (by simp; omega), hkeep2 k (by omega) (by omega)]
end

theorem cell_new1' (w : World) (v : Value) (t : TypeId) (b : Nat) (hb : b = w.heap.size) : ∀ j u, [v][j]? = some u → (w.alloc (.cells #[v] t)).cell? ((⟨b, 0, none⟩ : Addr).add j) = some u := by
  subst hb
  exact cell_new1 w v t

theorem nums_get {l : List Nat} {k : Nat} (h : k < l.length) : (nums l)[k]? = some (.int .i64 ((l[k] : Nat) : Int)) := by simp [nums, h]

theorem vis_take_succ (x : Int) (l : List Nat) (s : List Bool × List Nat) {k : Nat} (h : k < l.length) : vis x (l.take (k + 1)) s = vis1 x (vis x (l.take k) s) l[k] := by
  unfold vis
  rw [List.take_add_one, List.foldl_append]
  simp [h]

set_option maxRecDepth 100000 in
set_option maxHeartbeats 4000000 in
theorem visit_any (w : World) (B0 base bx bs gs bw : Nat) (x : Int) (n : Nat) (s : List Bool × List Nat) (vw : Value) (h : Srch w B0 base bx bs gs bw x n s vw) (hroom : unseen s.1 + s.2.length ≤ n)
    (v : Value) (l : List Nat) (hrd : RdS w 1 v l.length (nums l)) (hv : 0 < l.length → ∀ k, v.ownBlock = some k → k < B0) (hl : ∀ a ∈ l, a < n) (hlen : l.length ≤ 1000000) :
    Calls Tryz.prog 169 #[v, .pointer (some ⟨bx, 0, none⟩), .pointer (some ⟨bs, 0, none⟩), .pointer (some ⟨bw, 0, none⟩)] w fun e w' => e = .returned (.tuple #[]) ∧ ∃ vw', Srch w' B0 base bx bs gs bw x n (vis x l s) vw' ∧ Below B0 w w' := by
  obtain ⟨hl1, ao, cap, rfl, hr⟩ := hrd
  obtain ⟨i0, hi, hz0, hz1, hz2⟩ := info_parts infoInt
  obtain ⟨N, hn⟩ : ∃ N, N = l.length := ⟨_, rfl⟩
  rw [← hn] at hr hlen ⊢
  have HN : Hid (N = l.length) := hn
  have HV : Hid (0 < N → ∀ k, (Value.slice ao N cap).ownBlock = some k → k < B0) := by rw [hn]; exact hv
  have HR : Hid (unseen s.1 + s.2.length ≤ n) := hroom
  have HL : Hid (∀ a ∈ l, a < n) := hl
  have HS : Hid (s.1.length = n) := h.len
  have hle := h.le
  clear hn hl1 hv hroom hl
  go_enter Tryz.func169, Tryz.ntmps169
  go_wp2
  go_loopw [9] (fun i wr => ∃ (k : Nat) (vw : Value), k ≤ N ∧ i = .int .i64 k ∧ Srch wr B0 base bx bs gs bw x n (vis x (l.take k) s) vw ∧ Below B0 w wr) (fun i _ => N - (intOf i).toNat)
  case atStart => exact ⟨0, vw, Nat.zero_le _, rfl, h, Below.refl _ _⟩
  case round =>
    obtain ⟨k, vk, hk, rfl, hsr, hbel⟩ := hrel
    clear h
    by_cases hlt : k < N
    · rcases hr with hr | ⟨g, off, rfl, hr⟩
      · omega
      have hlt' : k < l.length := HN.out ▸ hlt
      obtain ⟨a, ha⟩ : ∃ a, a = l[k] := ⟨_, rfl⟩
      have han : a < n := HL.out a (by rw [ha]; exact List.getElem_mem _)
      have hcell : wr.cell? ⟨g, off + k, none⟩ = some (.int .i64 (a : Int)) := by
        have h1 := hr k _ (nums_get hlt')
        rw [hbel.cell (by exact HV.out (by omega) g rfl), h1, ha]
      have HK : Hid (vis x (l.take (k + 1)) s = vis1 x (vis x (l.take k) s) a) := by rw [ha]; exact vis_take_succ x l s hlt'
      have hroom : Hid ((vis x (l.take k) s).2.length ≤ 40) := by
        obtain ⟨_, _, _, g4, _⟩ := vis_props x n (l.take k) s HS.out (fun b hb => HL.out b (List.mem_of_mem_take hb))
        have := HR.out
        show _ ≤ 40
        omega
      clear hr ha hlt'
      have cx := hsr.cx
      have cs := hsr.cs
      have cw := hsr.cw
      have fw := hsr.fw
      have cg := hsr.cg han
      have fg := hsr.fg a
      generalize hst : vis x (l.take k) s = st at hsr HK hroom cg
      clear hst
      by_cases hax : (a : Int) = x
      · have hv1 : Hid (vis x (l.take (k + 1)) s = st) := by show _ = _; rw [HK.out]; simp [vis1, hax]
        clear HK
        have HSR : Hid (Srch wr B0 base bx bs gs bw x n st vk) := hsr
        clear hsr
        go_wp2
        go_roundw
        case rel => exact ⟨k + 1, vk, by omega, by go_num, by rw [hv1.out]; exact HSR.out, hbel⟩
        case measure => simp [intOf]; omega
      · cases hb : st.1.getD a false
        · rw [hb] at cg
          have HB : Hid (st.1.getD a false = false) := hb
          have hne := hsr.ne
          have ho2 := hsr.o2
          have ho1 := hsr.o1
          have hbB := hsr.bB
          have HSR : Hid (Srch wr B0 base bx bs gs bw x n st vk) := hsr
          clear hb hsr
          obtain ⟨hn1, hn2, hn3, hn4, hn5, hn6⟩ := hne
          have cw1 : (wr.setCell ⟨gs, a, none⟩ (.bool true)).cell? ⟨bw, 0, none⟩ = some vk := by
            rw [World.cell?_of_block (Below.heap_setCell _ _ _ _ (by simp; omega))]; exact cw
          have hown1 : OwnS (wr.setCell ⟨gs, a, none⟩ (.bool true)) base 3 1 vk st.2.length (nums st.2) :=
            HSR.out.own.of_block fun j hj => Below.heap_setCell _ _ _ _ (by have := (HSR.out.own.lt j hj).1; simp; omega)
          have HO : Hid (OwnS (wr.setCell ⟨gs, a, none⟩ (.bool true)) base 3 1 vk st.2.length (nums st.2)) := hown1
          clear hown1
          go_wp2_with (first | (at_builtin; refine wpList_append_ownS _ rfl _ _ 64 rfl base 3 i0 (.int .i64 0) 1 8 Tryz.underlying64 hi hz0 hz1 hz2 rfl (by decide) _ _ _ rfl (HO.out.alloc _) ⟨wr.heap.size, 0, none⟩ 1 1 [.int .i64 (a : Int)] rfl rfl (cell_new1' _ _ _ _ (by simp)) (fun u hu => nums_one u a hu) (by decide) (by have := hroom.out; unfold maxLen; omega) (by have := hroom.out; omega) (by simp; omega) ?_; intro g' off' cap' w1 hown1 hgrow hloc hlt1; obtain ⟨cw2, fw2⟩ := HSR.out.after hgrow))
          have hfin := HSR.out.push han hax HB.out hown1 hgrow
          go_wp2
          go_roundw
          case rel => exact ⟨k + 1, _, by omega, by go_num, by rw [HK.out]; exact hfin.1, hbel.trans hfin.2⟩
          case measure => simp [intOf]; omega
        · rw [hb] at cg
          have hv1 : Hid (vis x (l.take (k + 1)) s = st) := by show _ = _; rw [HK.out]; simp only [vis1, hb, Bool.true_eq_false, and_false, if_false]
          clear HK hb
          have HSR : Hid (Srch wr B0 base bx bs gs bw x n st vk) := hsr
          clear hsr
          go_wp2
          go_roundw
          case rel => exact ⟨k + 1, vk, by omega, by go_num, by rw [hv1.out]; exact HSR.out, hbel⟩
          case measure => simp [intOf]; omega
    · have : k = N := by omega
      subst this
      have hfin : Hid (Srch wr B0 base bx bs gs bw x n (vis x l s) vk) := by
        have := hsr
        rw [List.take_of_length_le (by have := HN.out; omega)] at this
        exact this
      clear hsr
      go_wp2
      go_end0
      exact ⟨rfl, vk, hfin.out, hbel⟩

end Go.Proofs.YtbddcodljmglfaaGreatDoor

namespace Go.Proofs.YtbddcodljmglfaaGreatDoor
open Go.RowKit

/-- A manner of walking: the starts S, and where each of the n nodes leads to (T). -/
structure WalkIn (w : World) (vs vt : Value) (ts : List Value) (n : Nat) (S : List Nat) (T : List (List Nat)) : Prop where
  starts : RdS w 1 vs S.length (nums S)
  steps : RdS w 1 vt n ts
  lenT : T.length = n
  each : ∀ i v, ts[i]? = some v → RdS w 1 v (T.getD i []).length (nums (T.getD i []))
  pos : 1 ≤ n
  le : n ≤ 40
  sLt : ∀ a ∈ S, a < n
  tLt : ∀ l ∈ T, ∀ a ∈ l, a < n
  sLe : S.length ≤ 1000000
  tLe : ∀ l ∈ T, l.length ≤ 1000000

theorem WalkIn.below {w w' : World} {vs vt : Value} {ts : List Value} {n : Nat} {S : List Nat} {T : List (List Nat)} (h : WalkIn w vs vt ts n S T) (hb : Below w.heap.size w w') : WalkIn w' vs vt ts n S T :=
  ⟨h.starts.below hb, h.steps.below hb, h.lenT, fun i v hi => (h.each i v hi).below hb, h.pos, h.le, h.sLt, h.tLt, h.sLe, h.tLe⟩

theorem RdS.blk {w : World} {size : Nat} {v : Value} {n : Nat} {xs : List Value} (h : RdS w size v n xs) (hs : 0 < size) (hn : 0 < n) : ∀ k, v.ownBlock = some k → k < w.heap.size := by
  intro k hk
  obtain ⟨hl, ao, cap, rfl, hr⟩ := h
  rcases hr with hr | ⟨g, off, rfl, hr⟩
  · omega
  · simp [Value.ownBlock] at hk
    subst hk
    have hpos : 0 < xs.length := by rw [hl]; exact Nat.mul_pos hn hs
    have := hr 0 xs[0] (by simp [hpos])
    exact World.block_lt_of_cell? w _ this

theorem OwnS.pop {w : World} {base : Nat} {v x : Value} {n : Nat} {xs : List Value} (h : OwnS w base 3 1 v (n + 1) (x :: xs)) :
    ∃ g off cap v', v = .slice (some ⟨g, off, none⟩) (n + 1) cap ∧ w.cell? ⟨g, off, none⟩ = some x ∧ base ≤ g ∧ (∀ w', (Instr.slice 64 (.slice (some ⟨g, off, none⟩) (n + 1) cap) (some (.int .i64 1)) none none).run Tryz.prog w' = .ok v' w') ∧ OwnS w base 3 1 v' n xs := by
  rcases h.2 with ⟨rfl, h2⟩ | ⟨g, off, cap, cur, rfl, h1, hg, hnc, hcm, hcs, hx⟩
  · omega
  · refine ⟨g, off, cap, .slice (if cap = 1 then some ⟨g, off, none⟩ else some ⟨g, off + 1, none⟩) n (cap - 1), rfl, ?_, h1, fun w' => ?_, ?_⟩
    · have := hx 0 x (by simp)
      simp at this
      simp [World.cell?, hg, this]
    · have h1n : (1 : Int) ≤ (n : Int) + 1 := by omega
      simp [h1n, Instr.slice, run_underlying Tryz.underlying64, Instr.sliceBounds, Instr.sliceBound, asIntOf, Result.andThen, sizeInt, Addr.add_lit]
    · refine ⟨by have := h.1; simp at this ⊢; omega, .inr ?_⟩
      by_cases hc : cap = 1
      · subst hc
        have hn : n = 0 := by omega
        subst hn
        have hxs : xs = [] := List.eq_nil_of_length_eq_zero (by have := h.1; simp at this; simp [this])
        subst hxs
        exact ⟨g, off, 0, cur, by simp, h1, hg, by omega, by omega, by omega, by simp⟩
      · refine ⟨g, off + 1, cap - 1, cur, by simp [hc], h1, hg, by omega, by omega, by omega, fun j u hj => ?_⟩
        have := hx (j + 1) u (by simpa using hj)
        rw [← this]
        congr 1
        omega

/-- What the search has still to do. -/
def falses (c : List Value) : Nat := (c.filter fun v => match v with | .bool false => true | _ => false).length
def lenOfCell (c : Array Value) : Nat := match c.toList with | [.slice _ k _] => k | _ => 0
def srchMu (gs bw : Nat) (w : World) : Nat :=
  (match w.heap[gs]? with | some (.cells c _ _) => 2 * falses c.toList | _ => 0) + (match w.heap[bw]? with | some (.cells c _ _) => lenOfCell c | _ => 0)

theorem falses_bits (l : List Bool) : falses (bits l) = unseen l := by
  induction l with
  | nil => rfl
  | cons b l ih =>
    cases b
    · simp [falses, bits, unseen] at ih ⊢
      exact ih
    · simp [falses, bits, unseen] at ih ⊢
      exact ih

theorem srchMu_eq {w : World} {B0 base bx bs gs bw : Nat} {x : Int} {n : Nat} {s : List Bool × List Nat} {vw : Value} (h : Srch w B0 base bx bs gs bw x n s vw) : srchMu gs bw w = 2 * unseen s.1 + s.2.length := by
  obtain ⟨ao, cap, hv⟩ := h.own.len
  simp only [srchMu, h.hg, h.hw, lenOfCell, hv]
  rw [falses_bits]

theorem Srch.popped {w : World} {B0 base bx bs gs bw : Nat} {x : Int} {n : Nat} {sn : List Bool} {a : Nat} {q : List Nat} {vw v' : Value} (h : Srch w B0 base bx bs gs bw x n (sn, a :: q) vw) (hown : OwnS w base 3 1 v' q.length (nums q)) :
    Srch (w.setCell ⟨bw, 0, none⟩ v') B0 base bx bs gs bw x n (sn, q) v' ∧ Below B0 w (w.setCell ⟨bw, 0, none⟩ v') := by
  have hne := h.ne
  have ho1 := h.o1
  have ho2 := h.o2
  refine ⟨⟨?_, ?_, ?_, ?_, ?_, h.len, h.le, by simpa using h.bB, ho1, ho2⟩, (Below.refl _ _).setCell (by simp; omega) _⟩
  · rw [Below.heap_setCell _ _ _ _ (by simp; omega)]; exact h.hx
  · rw [Below.heap_setCell _ _ _ _ (by simp; omega)]; exact h.hs
  · rw [Below.heap_setCell _ _ _ _ (by simp; omega)]; exact h.hg
  · simp [World.setCell, Array.getElem?_modify, h.hw]
  · exact hown.of_block fun k hk => Below.heap_setCell _ _ _ _ (by have := (hown.lt k hk).1; simp; omega)

theorem bits_replicate (n : Nat) : (bits (List.replicate n false)).toArray = Array.replicate n (.bool false) := by
  apply Array.toList_inj.1
  simp [bits]

/-- The world in which the search begins. -/
theorem srch_begin (w : World) (cs : Array Value) (t : TypeId) (x : Int) (n : Nat) (hle : n ≤ 40) :
    Srch (((((w.alloc (.cells cs t)).alloc (.cells #[.int .i64 x] 3)).alloc (.cells (Array.replicate n (.bool false)) 4)).alloc (.cells #[.slice (some ⟨w.heap.size + 1 + 1, 0, none⟩) n n] 99)).alloc (.cells #[.slice none 0 0] 64))
      (w.heap.size + 1) (w.heap.size + 1 + 1 + 1 + 1 + 1) (w.heap.size + 1) (w.heap.size + 1 + 1 + 1) (w.heap.size + 1 + 1) (w.heap.size + 1 + 1 + 1 + 1) x n (List.replicate n false, []) (.slice none 0 0) := by
  refine ⟨?_, ?_, ?_, ?_, OwnS.nil _ _ _ _, by simp, hle, by simp, by omega, by omega⟩
  · rw [Below.heap_alloc _ _ _ (by simp <;> omega), Below.heap_alloc _ _ _ (by simp <;> omega), Below.heap_alloc _ _ _ (by simp <;> omega), heap_new (by simp)]
  · rw [Below.heap_alloc _ _ _ (by simp), heap_new (by simp)]
  · rw [Below.heap_alloc _ _ _ (by simp <;> omega), Below.heap_alloc _ _ _ (by simp), heap_new (by simp), bits_replicate]
  · rw [heap_new (by simp)]

theorem below_begin (w : World) (a b c d e : Obj) : Below w.heap.size w (((((w.alloc a).alloc b).alloc c).alloc d).alloc e) :=
  (((((Below.refl _ _).alloc (Nat.le_refl _) _).alloc (by simp) _).alloc (by simp; omega) _).alloc (by simp; omega) _).alloc (by simp; omega) _

set_option maxRecDepth 100000 in
set_option maxHeartbeats 4000000 in
theorem reached_any (w : World) (vs vt : Value) (ts : List Value) (n : Nat) (S : List Nat) (T : List (List Nat)) (x : Int) (h : WalkIn w vs vt ts n S T) :
    Calls Tryz.prog 138 #[.agg #[vs, vt], .int .i64 x] w fun e w' => ∃ (gs : Nat) (bs : List Bool), e = .returned (.slice (some ⟨gs, 0, none⟩) n n) ∧ w.heap.size ≤ gs ∧ w'.heap[gs]? = some (.cells (bits bs).toArray 4 (0, 0)) ∧ bs.length = n ∧
      (∀ b, bs.getD b false = true ↔ RAr (· ∈ S) (fun a c => c ∈ T.getD a []) x b) ∧ Below w.heap.size w w' := by
  have hmk := makeBools n (by have := h.le; omega)
  have hle := h.le
  obtain ⟨hl1, ao, cap, rfl, hr⟩ := h.steps
  rcases hr with hr | ⟨g2, off2, rfl, hr⟩
  · have := h.pos; omega
  have hbeg := srch_begin w #[vs, .slice (some ⟨g2, off2, none⟩) n cap] 205 x n h.le
  have hbel5 := below_begin w (.cells #[vs, .slice (some ⟨g2, off2, none⟩) n cap] 205) (.cells #[.int .i64 x] 3) (.cells (Array.replicate n (.bool false)) 4) (.cells #[.slice (some ⟨w.heap.size + 1 + 1, 0, none⟩) n n] 99) (.cells #[.slice none 0 0] 64)
  have hcall1 := visit_any _ _ _ _ _ _ _ x n _ _ hbeg (by simp [unseen]) vs S (h.starts.below hbel5) (fun hp k hk => by have := h.starts.blk (by decide) hp k hk; omega) h.sLt h.sLe
  have hstart := bfs_start n S T x h.sLt
  obtain ⟨w5, hw5⟩ : ∃ w5, w5 = (((((w.alloc (.cells #[vs, .slice (some ⟨g2, off2, none⟩) n cap] 205)).alloc (.cells #[.int .i64 x] 3)).alloc (.cells (Array.replicate n (.bool false)) 4)).alloc (.cells #[.slice (some ⟨w.heap.size + 1 + 1, 0, none⟩) n n] 99)).alloc (.cells #[.slice none 0 0] 64)) := ⟨_, rfl⟩
  have hbox : Hid (w5.heap[w.heap.size]? = some (.cells #[vs, .slice (some ⟨g2, off2, none⟩) n cap] 205 (0, 0))) := by
    show _ = _
    rw [hw5, Below.heap_alloc _ _ _ (by simp; omega), Below.heap_alloc _ _ _ (by simp; omega), Below.heap_alloc _ _ _ (by simp; omega), Below.heap_alloc _ _ _ (by simp), heap_new rfl]
  have HW5 : Hid (Below w.heap.size w w5) := by rw [hw5]; exact hbel5
  have HH : Hid (WalkIn w vs (.slice (some ⟨g2, off2, none⟩) n cap) ts n S T) := h
  have HST : Hid (Bfs n S T x (vis x S (List.replicate n false, []))) := hstart
  have HR : Hid (∀ j u, ts[j]? = some u → w.cell? ⟨g2, off2 + j, none⟩ = some u) := hr
  have HL : Hid (ts.length = n) := by show _ = _; simpa using hl1
  clear hbeg hbel5 hstart h hr hl1
  rw [← hw5] at hcall1
  have HC : Hid (Calls Tryz.prog 169 _ w5 _) := hcall1
  clear hcall1
  have HW : Hid (w5 = _) := hw5
  clear hw5
  go_enter Tryz.func138, Tryz.ntmps138
  go_wp2_with (first | (go_at_call 169; rw [← HW.out]; refine HC.out.mono ?_; rintro e w1 ⟨rfl, vw1, hsr1, hbel1⟩))
  have HS1 : Hid (Srch w1 (w.heap.size + 1) (w.heap.size + 1 + 1 + 1 + 1 + 1) (w.heap.size + 1) (w.heap.size + 1 + 1 + 1) (w.heap.size + 1 + 1) (w.heap.size + 1 + 1 + 1 + 1) x n (vis x S (List.replicate n false, [])) vw1) := hsr1
  clear hsr1 HC HW
  go_loopw [8] (fun _ wr => ∃ (s : List Bool × List Nat) (vw : Value), Srch wr (w.heap.size + 1) (w.heap.size + 1 + 1 + 1 + 1 + 1) (w.heap.size + 1) (w.heap.size + 1 + 1 + 1) (w.heap.size + 1 + 1) (w.heap.size + 1 + 1 + 1 + 1) x n s vw ∧ Bfs n S T x s ∧ Below (w.heap.size + 1) w5 wr) (fun _ wr => srchMu (w.heap.size + 1 + 1) (w.heap.size + 1 + 1 + 1 + 1) wr)
  case atStart => exact ⟨_, _, HS1.out, HST.out, hbel1⟩
  case round =>
    obtain ⟨⟨sn, q0⟩, vw, hsr, hbfs, hbel⟩ := hrel
    clear HS1 HST hbel1
    have cs := hsr.cs
    have cw := hsr.cw
    have fw := hsr.fw
    have HB : Hid (Bfs n S T x (sn, q0)) := hbfs
    have HSR : Hid (Srch wr (w.heap.size + 1) (w.heap.size + 1 + 1 + 1 + 1 + 1) (w.heap.size + 1) (w.heap.size + 1 + 1 + 1) (w.heap.size + 1 + 1) (w.heap.size + 1 + 1 + 1 + 1) x n (sn, q0) vw) := hsr
    have hbelw : Hid (Below w.heap.size w wr) := HW5.out.trans (hbel.mono (by omega))
    clear hbfs hsr
    cases q0 with
    | nil =>
      obtain ⟨ao, cp, rfl⟩ := HSR.out.own.len
      simp only [List.length_nil] at cw
      have hfin : Hid (∃ (gs : Nat) (bs : List Bool), Ending.returned (.slice (some ⟨w.heap.size + 1 + 1, 0, none⟩) n n) = Ending.returned (.slice (some ⟨gs, 0, none⟩) n n) ∧ w.heap.size ≤ gs ∧ wr.heap[gs]? = some (.cells (bits bs).toArray 4 (0, 0)) ∧ bs.length = n ∧
          (∀ b, bs.getD b false = true ↔ RAr (· ∈ S) (fun a c => c ∈ T.getD a []) x b) ∧ Below w.heap.size w wr) :=
        ⟨w.heap.size + 1 + 1, sn, rfl, by omega, HSR.out.hg, HB.out.len, bfs_end HB.out, hbelw.out⟩
      clear HSR HB
      go_wp2
      go_ret
      exact hfin.out
    | cons a q =>
      have hroom := HB.out.room
      simp only [List.length_cons] at hroom
      have han : a < n := HB.out.lt a (by simp)
      obtain ⟨g, off, cp, v', rfl, hc0, hbg, hrun, hown'⟩ := HSR.out.own.pop
      obtain ⟨ao', cp', rfl⟩ := hown'.len
      have hrun' := hrun wr
      clear hrun
      have hpop := HSR.out.popped hown'
      have c0 : wr.cell? ⟨w.heap.size, 1, none⟩ = some (.slice (some ⟨g2, off2, none⟩) n cap) := by
        have : wr.heap[w.heap.size]? = _ := (hbel.block _ (by omega)).trans hbox.out
        simp [World.cell?, this]
      have hat : ts[a]? = some (ts.getD a .nilIface) := by simp [List.getD, HL.out, han]
      have c2 : wr.cell? ⟨g2, off2 + a, none⟩ = some (ts.getD a .nilIface) := by
        have h1 := HR.out a _ hat
        rw [hbelw.out.cell (World.block_lt_of_cell? w _ h1)]
        exact h1
      have hg2 : g2 < w.heap.size := by
        have h1 := HR.out a _ hat
        exact World.block_lt_of_cell? w _ h1
      have hrdT := (HH.out.each a _ hat)
      generalize hu : ts.getD a .nilIface = u at c2 hrdT
      clear hu hat
      obtain ⟨aoU, cpU, rfl⟩ : ∃ aoU cpU, u = .slice aoU (T.getD a []).length cpU := by obtain ⟨_, aoU, cpU, hh, _⟩ := hrdT; exact ⟨aoU, cpU, hh⟩
      have hsz : Below w.heap.size w (wr.setCell ⟨w.heap.size + 1 + 1 + 1 + 1, 0, none⟩ (.slice ao' q.length cp')) := hbelw.out.trans (hpop.2.mono (by omega))
      have htl : ∀ b ∈ T.getD a [], b < n := by
        intro b hb
        refine HH.out.tLt _ ?_ b hb
        simp [List.getD, HH.out.lenT, han]
      have htl2 : (T.getD a []).length ≤ 1000000 := by
        refine HH.out.tLe _ ?_
        simp [List.getD, HH.out.lenT, han]
      have hcall2 := visit_any _ _ _ _ _ _ _ x n _ _ hpop.1 (by simp only []; omega) (.slice aoU (T.getD a []).length cpU) (T.getD a []) (hrdT.below hsz) (fun hp k hk => by have := hrdT.blk (by decide) hp k hk; omega) htl htl2
      have hmu := srchMu_eq HSR.out
      have hstep := bfs_step n S T x sn a q HH.out.tLt HB.out
      have hfin : Hid (∀ w2 vw2, Srch w2 (w.heap.size + 1) (w.heap.size + 1 + 1 + 1 + 1 + 1) (w.heap.size + 1) (w.heap.size + 1 + 1 + 1) (w.heap.size + 1 + 1) (w.heap.size + 1 + 1 + 1 + 1) x n (vis x (T.getD a []) (sn, q)) vw2 → srchMu (w.heap.size + 1 + 1) (w.heap.size + 1 + 1 + 1 + 1) w2 < srchMu (w.heap.size + 1 + 1) (w.heap.size + 1 + 1 + 1 + 1) wr) := by
        intro w2 vw2 h2
        rw [srchMu_eq h2, hmu]
        obtain ⟨_, _, ⟨kk, g3, _⟩, g4, _⟩ := vis_props x n (T.getD a []) (sn, q) HB.out.len htl
        have := congrArg List.length g3
        simp only [List.length_append, List.length_cons] at this g4 ⊢
        omega
      have HST : Hid (Bfs n S T x (vis x (T.getD a []) (sn, q))) := hstep
      have HBel : Hid (Below (w.heap.size + 1) w5 (wr.setCell ⟨w.heap.size + 1 + 1 + 1 + 1, 0, none⟩ (.slice ao' q.length cp'))) := hbel.trans hpop.2
      have HC : Hid (Calls Tryz.prog 169 _ (wr.setCell ⟨w.heap.size + 1 + 1 + 1 + 1, 0, none⟩ (.slice ao' q.length cp')) _) := hcall2
      have c0' : (wr.setCell ⟨w.heap.size + 1 + 1 + 1 + 1, 0, none⟩ (.slice ao' q.length cp')).cell? ⟨w.heap.size, 1, none⟩ = some (.slice (some ⟨g2, off2, none⟩) n cap) := by
        rw [World.cell?_of_block (Below.heap_setCell _ _ _ _ (by simp; omega))]; exact c0
      have c2' : (wr.setCell ⟨w.heap.size + 1 + 1 + 1 + 1, 0, none⟩ (.slice ao' q.length cp')).cell? ⟨g2, off2 + a, none⟩ = some (.slice aoU (T.getD a []).length cpU) := by
        rw [World.cell?_of_block (Below.heap_setCell _ _ _ _ (by simp; omega))]; exact c2
      clear hstep hcall2 hmu htl htl2 hsz hrdT hpop hbel hbelw HSR HB hown' HH HR hbox
      go_wp2_with (first | (go_at_call 169; refine HC.out.mono ?_; rintro e w2 ⟨rfl, vw2, hsr2, hbel2⟩))
      go_roundw
      case rel => exact ⟨_, _, hsr2, HST.out, HBel.out.trans hbel2⟩
      case measure => exact hfin.out _ _ hsr2

end Go.Proofs.YtbddcodljmglfaaGreatDoor

namespace Go.Proofs.YtbddcodljmglfaaGreatDoor
open Go.RowKit

def Held (S : Nat → Prop) (E : Nat → Nat → Prop) (a : Int) (b : Nat) : Prop := RAr S E (-1) b ∧ ¬ RAr S E a b

def maskTo (n : Nat) (b1 b2 : List Bool) (k : Nat) : List Bool := (List.range n).map fun i => b1.getD i false && !(decide (i < k) && b2.getD i false)

theorem maskTo_length (n : Nat) (b1 b2 : List Bool) (k : Nat) : (maskTo n b1 b2 k).length = n := by simp [maskTo]
theorem maskTo_getD (n : Nat) (b1 b2 : List Bool) (k i : Nat) (h : i < n) : (maskTo n b1 b2 k).getD i false = (b1.getD i false && !(decide (i < k) && b2.getD i false)) := by
  simp [maskTo, List.getD, h]
theorem list_ext_getD {n : Nat} {l1 l2 : List Bool} (h1 : l1.length = n) (h2 : l2.length = n) (h : ∀ i, i < n → l1.getD i false = l2.getD i false) : l1 = l2 := by
  apply List.ext_getElem (h1.trans h2.symm)
  intro i hi1 hi2
  have := h i (by omega)
  simpa [List.getD, hi1, hi2] using this
theorem getD_setB {s : List Bool} {a b : Nat} {y : Bool} (ha : a < s.length) : (s.set a y).getD b false = if b = a then y else s.getD b false := by
  simp only [List.getD, List.getElem?_set]
  by_cases h : a = b
  · subst h; simp [ha]
  · have h' : ¬ b = a := fun e => h e.symm
    simp [h, h']
theorem maskTo_zero {n : Nat} {b1 b2 : List Bool} (h : b1.length = n) : maskTo n b1 b2 0 = b1 := by
  refine list_ext_getD (maskTo_length _ _ _ _) h fun i hi => ?_
  rw [maskTo_getD _ _ _ _ _ hi]
  simp
theorem maskTo_yes {n : Nat} {b1 b2 : List Bool} {k : Nat} (hk : k < n) (h : b2.getD k false = true) : maskTo n b1 b2 (k + 1) = (maskTo n b1 b2 k).set k false := by
  refine list_ext_getD (maskTo_length _ _ _ _) (by simp [maskTo_length]) fun i hi => ?_
  rw [getD_setB (by rw [maskTo_length]; exact hk), maskTo_getD _ _ _ _ _ hi, maskTo_getD _ _ _ _ _ hi]
  by_cases e : i = k
  · subst e; rw [if_pos rfl, h]; simp
  · have : decide (i < k + 1) = decide (i < k) := by simp; omega
    rw [if_neg e, this]
theorem maskTo_no {n : Nat} {b1 b2 : List Bool} {k : Nat} (hk : k < n) (h : b2.getD k false = false) : maskTo n b1 b2 (k + 1) = maskTo n b1 b2 k := by
  refine list_ext_getD (maskTo_length _ _ _ _) (maskTo_length _ _ _ _) fun i hi => ?_
  rw [maskTo_getD _ _ _ _ _ hi, maskTo_getD _ _ _ _ _ hi]
  by_cases e : i = k
  · subst e; rw [h]; simp
  · have : decide (i < k + 1) = decide (i < k) := by simp; omega
    rw [this]

theorem box_cells {w w1 : World} {vs vt : Value} {t : TypeId} (h : Below (w.alloc (.cells #[vs, vt] t)).heap.size (w.alloc (.cells #[vs, vt] t)) w1) : w1.cell? ⟨w.heap.size, 0, none⟩ = some vs ∧ w1.cell? ⟨w.heap.size, 1, none⟩ = some vt := by
  have hb : (w.alloc (.cells #[vs, vt] t)).heap[w.heap.size]? = some (.cells #[vs, vt] t (0, 0)) := heap_new rfl
  have := (h.block w.heap.size (by simp)).trans hb
  simp [World.cell?, this]

theorem box_below {w w1 : World} {o : Obj} (h : Below (w.alloc o).heap.size (w.alloc o) w1) : Below w.heap.size w w1 :=
  ((Below.refl w.heap.size w).alloc (Nat.le_refl _) o).trans (h.mono (by simp))

theorem cell_bits {w : World} {g : Nat} {l : List Bool} {t : TypeId} (h : w.heap[g]? = some (.cells (bits l).toArray t (0, 0))) {k : Nat} (hk : k < l.length) : w.cell? ⟨g, k, none⟩ = some (.bool (l.getD k false)) ∧ w.frozen? ⟨g, k, none⟩ = false := by
  constructor
  · simp [World.cell?, h, bits, List.getD, hk]
  · simp [World.frozen?, h]

set_option maxRecDepth 100000 in
set_option maxHeartbeats 4000000 in
theorem held_any (w : World) (vs vt : Value) (ts : List Value) (n : Nat) (S : List Nat) (T : List (List Nat)) (x : Int) (h : WalkIn w vs vt ts n S T) :
    Calls Tryz.prog 172 #[.agg #[vs, vt], .int .i64 x] w fun e w' => ∃ (gs : Nat) (bs : List Bool), e = .returned (.slice (some ⟨gs, 0, none⟩) n n) ∧ w.heap.size ≤ gs ∧ w'.heap[gs]? = some (.cells (bits bs).toArray 4 (0, 0)) ∧ bs.length = n ∧
      (∀ b, b < n → (bs.getD b false = true ↔ Held (· ∈ S) (fun a c => c ∈ T.getD a []) x b)) ∧ Below w.heap.size w w' := by
  have hle := h.le
  have hb0 : Below w.heap.size w (w.alloc (.cells #[vs, vt] 205)) := (Below.refl _ _).alloc (Nat.le_refl _) _
  have hcall1 := reached_any _ vs vt ts n S T (-1) (h.below hb0)
  have HH : Hid (WalkIn w vs vt ts n S T) := h
  have HC1 : Hid (Calls Tryz.prog 138 _ (w.alloc (.cells #[vs, vt] 205)) _) := hcall1
  obtain ⟨hl0, ao, cap, rfl, _⟩ := h.steps
  obtain ⟨hl9, ao9, cap9, rfl, _⟩ := h.starts
  clear h hb0 hcall1 hl0 hl9
  go_enter Tryz.func172, Tryz.ntmps172
  go_wp2_with (first | (go_at_call 138; refine (reached_any w1 _ _ ts n S T x (HH.out.below HW1.out)).mono ?_; rintro e w2 ⟨gs2, b2, rfl, hgs2, hg2, hl2, hr2, hbel2⟩) | (go_at_call 138; refine HC1.out.mono ?_; rintro e w1 ⟨gs1, b1, rfl, hgs1, hg1, hl1, hr1, hbel1⟩; obtain ⟨hc0, hc1⟩ := box_cells hbel1; have HW1 : Hid (Below w.heap.size w w1) := box_below hbel1))
  have hgs : gs1 < gs2 := Nat.lt_of_lt_of_le (blk_lt hg1) hgs2
  have hgs1' : w.heap.size < gs1 := by simpa [Nat.succ_le_iff] using hgs1
  have hg1' : w2.heap[gs1]? = some (.cells (bits b1).toArray 4 (0, 0)) := (hbel2.block _ (blk_lt hg1)).trans hg1
  have HW2 : Hid (Below w.heap.size w w2) := HW1.out.trans (hbel2.mono HW1.out.size)
  have HR1 : Hid (∀ b, b1.getD b false = true ↔ RAr (· ∈ S) (fun a c => c ∈ T.getD a []) (-1) b) := hr1
  have HR2 : Hid (∀ b, b2.getD b false = true ↔ RAr (· ∈ S) (fun a c => c ∈ T.getD a []) x b) := hr2
  have HG1 : Hid (w2.heap[gs1]? = some (.cells (bits (maskTo n b1 b2 0)).toArray 4 (0, 0))) := by rw [maskTo_zero hl1]; exact hg1'
  have HG2 : Hid (w2.heap[gs2]? = some (.cells (bits b2).toArray 4 (0, 0))) := hg2
  have HL2 : Hid (b2.length = n) := hl2
  clear hr1 hr2 hg1' hg2 hl1 hl2 hbel1 hbel2 hc0 hc1 HC1 hg1 hgs1 hgs2 HH HW1
  go_loopw [14] (fun i wr => ∃ k : Nat, k ≤ n ∧ i = .int .i64 k ∧ wr.heap[gs1]? = some (.cells (bits (maskTo n b1 b2 k)).toArray 4 (0, 0)) ∧ wr.heap[gs2]? = some (.cells (bits b2).toArray 4 (0, 0)) ∧ Below w.heap.size w wr) (fun i _ => n - (intOf i).toNat)
  case atStart => exact ⟨0, Nat.zero_le _, rfl, HG1.out, HG2.out, HW2.out⟩
  case round =>
    obtain ⟨k, hk, rfl, hg1, hg2, hbel⟩ := hrel
    clear HG1 HG2 HW2
    by_cases hlt : k < n
    · have hc1 := cell_bits hg1 (k := k) (by rw [maskTo_length]; exact hlt)
      have hc2 := (cell_bits hg2 (k := k) (by rw [HL2.out]; exact hlt)).1
      obtain ⟨hc1, hf1⟩ := hc1
      have G1 : Hid (wr.heap[gs1]? = some (.cells (bits (maskTo n b1 b2 k)).toArray 4 (0, 0))) := hg1
      have G2 : Hid (wr.heap[gs2]? = some (.cells (bits b2).toArray 4 (0, 0))) := hg2
      clear hg1 hg2
      cases hb : b2.getD k false
      · have HB : Hid (b2.getD k false = false) := hb
        rw [hb] at hc2
        clear hb
        go_wp2
        go_roundw
        case rel => exact ⟨k + 1, by omega, by go_num, by rw [maskTo_no hlt HB.out]; exact G1.out, G2.out, hbel⟩
        case measure => simp [intOf]; omega
      · have HB : Hid (b2.getD k false = true) := hb
        rw [hb] at hc2
        clear hb
        generalize (maskTo n b1 b2 k).getD k false = c at hc1
        go_wp2
        go_roundw
        case rel =>
          refine ⟨k + 1, by omega, by go_num, ?_, ?_, hbel.setCell (by simp; omega) _⟩
          · rw [maskTo_yes hlt HB.out]
            simp [World.setCell, Array.getElem?_modify, G1.out, bits, List.map_set]
          · rw [Below.heap_setCell _ _ _ _ (by simp; omega)]; exact G2.out
        case measure => simp [intOf]; omega
    · have : k = n := by omega
      subst this
      have hfin : Hid (∃ (gs : Nat) (bs : List Bool), Ending.returned (.slice (some ⟨gs1, 0, none⟩) k k) = Ending.returned (.slice (some ⟨gs, 0, none⟩) k k) ∧ w.heap.size ≤ gs ∧ wr.heap[gs]? = some (.cells (bits bs).toArray 4 (0, 0)) ∧ bs.length = k ∧
          (∀ b, b < k → (bs.getD b false = true ↔ Held (· ∈ S) (fun a c => c ∈ T.getD a []) x b)) ∧ Below w.heap.size w wr) := by
        refine ⟨gs1, maskTo k b1 b2 k, rfl, by omega, hg1, maskTo_length _ _ _ _, fun b hb => ?_, hbel⟩
        rw [maskTo_getD _ _ _ _ _ hb, Held, ← HR1.out b, ← HR2.out b]
        simp [-List.getD_eq_getElem?_getD, hb]
      clear hg1 hg2
      go_wp2
      go_ret
      exact hfin.out

end Go.Proofs.YtbddcodljmglfaaGreatDoor
