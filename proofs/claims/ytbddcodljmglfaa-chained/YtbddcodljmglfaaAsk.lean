/- What a graph answers: Over, Last, Under, Next, by what is reached on which ways. -/
import Derived.Test.YtbddcodljmglfaaNearest
set_option linter.unusedSimpArgs false
set_option linter.unusedVariables false
namespace Go.Proofs.Ytbddcodljmglfaa
open Go.RowKit

/-- b is reached from node 0 along the edges of L on a way that does not go over x. -/
def Fwd (L : List (Nat × Nat)) (x : Int) (b : Nat) : Prop := RA (fun a => a = 0) (fun a c => (a, c) ∈ L) x b
/-- From b an end is reached along the edges of L on a way that does not go over x. -/
def Bwd (L : List (Nat × Nat)) (D : List Bool) (x : Int) (b : Nat) : Prop := RA (fun a => D.getD a false = true) (fun a c => (c, a) ∈ L) x b
def HeldF (L : List (Nat × Nat)) (a : Int) (b : Nat) : Prop := Fwd L (-1) b ∧ ¬ Fwd L a b
def HeldB (L : List (Nat × Nat)) (D : List Bool) (a : Int) (b : Nat) : Prop := Bwd L D (-1) b ∧ ¬ Bwd L D a b

theorem getD_out {T : List (List Nat)} {n i : Nat} (h : T.length = n) (hi : ¬ i < n) : T.getD i [] = [] := by
  simp only [List.getD]
  rw [List.getElem?_eq_none (by omega)]
  rfl

theorem fwd_iff {w w' : World} {p m q n : Nat} {L : List (Nat × Nat)} {D : List Bool} {vs vt : Value} {ts : List Value} {T : List (List Nat)} (hg : GraphIn w p m q n L D) (hw : WalkIn w' vs vt ts n [0] T) (hT : ∀ i b, i < n → (b ∈ T.getD i [] ↔ (i, b) ∈ L)) (x : Int) (b : Nat) :
    RA (· ∈ [0]) (fun a c => c ∈ T.getD a []) x b ↔ Fwd L x b := by
  refine RA.congr (fun a => by simp) (fun a c => ?_)
  by_cases h : a < n
  · exact hT a c h
  · rw [getD_out hw.lenT h]
    constructor
    · intro h'; simp at h'
    · intro h'; exact absurd (hg.lt _ h').1 h

theorem bwd_iff {w w' : World} {p m q n : Nat} {L : List (Nat × Nat)} {D : List Bool} {vs vt : Value} {ts : List Value} {T : List (List Nat)} (hg : GraphIn w p m q n L D) (hw : WalkIn w' vs vt ts n (idxTo D n) T) (hT : ∀ i b, i < n → (b ∈ T.getD i [] ↔ (b, i) ∈ L)) (x : Int) (b : Nat) :
    RA (· ∈ idxTo D n) (fun a c => c ∈ T.getD a []) x b ↔ Bwd L D x b := by
  refine RA.congr (fun a => ?_) (fun a c => ?_)
  · simp only [idxTo, List.mem_filter, List.mem_range]
    constructor
    · exact fun h => h.2
    · intro h
      refine ⟨?_, h⟩
      rcases Nat.lt_or_ge a n with h' | h'
      · exact h'
      · simp [List.getD, List.getElem?_eq_none (show D.length ≤ a by rw [hg.len]; exact h')] at h
  · by_cases h : a < n
    · exact hT a c h
    · rw [getD_out hw.lenT h]
      constructor
      · intro h'; simp at h'
      · intro h'; exact absurd (hg.lt _ h').2 h

theorem nearestOf_congr {H H' : Nat → Nat → Bool} {n b : Nat} (hb : b < n) (h : ∀ a c, a < n → c < n → H a c = H' a c) : nearestOf H n b = nearestOf H' n b := by
  unfold nearestOf
  have : (List.range n).find? (cand H n b) = (List.range n).find? (cand H' n b) := by
    have hc : ∀ a ∈ List.range n, cand H n b a = cand H' n b a := by
      intro a ha
      have ha' : a < n := by simpa using ha
      unfold cand
      rw [h a b ha' hb]
      congr 1
      have e : ∀ c ∈ List.range n, (decide (c = b) || !H c b || H c a) = (decide (c = b) || !H' c b || H' c a) := by
        intro c hc
        have hc' : c < n := by simpa using hc
        rw [h c b hc' hb, h c a hc' ha']
      rw [Bool.eq_iff_iff]
      simp only [List.all_eq_true]
      exact ⟨fun h1 x hx => by rw [← e x hx]; exact h1 x hx, fun h1 x hx => by rw [e x hx]; exact h1 x hx⟩
    have gen : ∀ (l : List Nat), (∀ a ∈ l, cand H n b a = cand H' n b a) → l.find? (cand H n b) = l.find? (cand H' n b) := by
      intro l
      induction l with
      | nil => intro _; rfl
      | cons x l ih =>
        intro hl
        rw [List.find?_cons, List.find?_cons, hl x (by simp), ih (fun a ha => hl a (by simp [ha]))]
    exact gen _ hc
  rw [this]


set_option maxHeartbeats 1000000 in
theorem wOver_any (w : World) (p m q n : Nat) (L : List (Nat × Nat)) (D : List Bool) (hg : GraphIn w p m q n L D) (a b : Nat) (ha : a < n) (hb : b < n) : Calls Try.prog 57 #[.pointer (some ⟨p, 0, none⟩), .int .i64 a, .int .i64 b] w fun e w' => ∃ r : Bool, e = .returned (.bool r) ∧ (r = true ↔ HeldF L a b) ∧ Below w.heap.size w w' := by
  have HG : Hid (GraphIn w p m q n L D) := hg
  clear hg
  go_enter Try.func57, Try.ntmps57
  go_wp2_with fail
  refine (onward_any w p m q n L D HG.out).mono ?_
  rintro e w1 ⟨vs, vt, ts, T, rfl, hb1, hw1, hT⟩
  have HW : Hid (WalkIn w1 vs vt ts n [0] T) := hw1
  have HT : Hid (∀ i b, i < n → (b ∈ T.getD i [] ↔ (i, b) ∈ L)) := hT
  clear hw1 hT
  go_wp2_with fail
  refine (held_any w1 vs vt ts n [0] T (a : Int) HW.out).mono ?_
  rintro e w2 ⟨gs, bs, rfl, hg1, hg2, hl, hh, hb2⟩
  have HH : Hid (∀ b, b < n → (bs.getD b false = true ↔ Held (· ∈ [0]) (fun a c => c ∈ T.getD a []) a b)) := hh
  have hc := (cell_bits hg2 (k := b) (by omega)).1
  have hfin : Hid (∃ r : Bool, Ending.returned (.bool (bs.getD b false)) = .returned (.bool r) ∧ (r = true ↔ HeldF L a b) ∧ Below w.heap.size w w2) := by
    refine ⟨_, rfl, ?_, hb1.trans (hb2.mono hb1.size)⟩
    rw [HH.out b hb, Held, HeldF, fwd_iff HG.out HW.out HT.out, fwd_iff HG.out HW.out HT.out]
  generalize bs.getD b false = r at hc hfin
  clear hh hl hg2
  go_wp2_with fail
  go_ret
  exact hfin.out

set_option maxHeartbeats 1000000 in
theorem wUnder_any (w : World) (p m q n : Nat) (L : List (Nat × Nat)) (D : List Bool) (hg : GraphIn w p m q n L D) (a b : Nat) (ha : a < n) (hb : b < n) : Calls Try.prog 58 #[.pointer (some ⟨p, 0, none⟩), .int .i64 a, .int .i64 b] w fun e w' => ∃ r : Bool, e = .returned (.bool r) ∧ (r = true ↔ HeldB L D a b) ∧ Below w.heap.size w w' := by
  have HG : Hid (GraphIn w p m q n L D) := hg
  clear hg
  go_enter Try.func58, Try.ntmps58
  go_wp2_with fail
  refine (backward_any w p m q n L D HG.out).mono ?_
  rintro e w1 ⟨vs, vt, ts, T, rfl, hb1, hw1, hT⟩
  have HW : Hid (WalkIn w1 vs vt ts n (idxTo D n) T) := hw1
  have HT : Hid (∀ i b, i < n → (b ∈ T.getD i [] ↔ (b, i) ∈ L)) := hT
  clear hw1 hT
  go_wp2_with fail
  refine (held_any w1 vs vt ts n (idxTo D n) T (a : Int) HW.out).mono ?_
  rintro e w2 ⟨gs, bs, rfl, hg1, hg2, hl, hh, hb2⟩
  have HH : Hid (∀ b, b < n → (bs.getD b false = true ↔ Held (· ∈ idxTo D n) (fun a c => c ∈ T.getD a []) a b)) := hh
  have hc := (cell_bits hg2 (k := b) (by omega)).1
  have hfin : Hid (∃ r : Bool, Ending.returned (.bool (bs.getD b false)) = .returned (.bool r) ∧ (r = true ↔ HeldB L D a b) ∧ Below w.heap.size w w2) := by
    refine ⟨_, rfl, ?_, hb1.trans (hb2.mono hb1.size)⟩
    rw [HH.out b hb, Held, HeldB, bwd_iff HG.out HW.out HT.out, bwd_iff HG.out HW.out HT.out]
  generalize bs.getD b false = r at hc hfin
  clear hh hl hg2
  go_wp2_with fail
  go_ret
  exact hfin.out

set_option maxHeartbeats 1000000 in
theorem wReached_any (w : World) (p m q n : Nat) (L : List (Nat × Nat)) (D : List Bool) (hg : GraphIn w p m q n L D) (b : Nat) (hb : b < n) : Calls Try.prog 31 #[.pointer (some ⟨p, 0, none⟩), .int .i64 b] w fun e w' => ∃ r : Bool, e = .returned (.bool r) ∧ (r = true ↔ Fwd L (-1) b) ∧ Below w.heap.size w w' := by
  have HG : Hid (GraphIn w p m q n L D) := hg
  clear hg
  go_enter Try.func31, Try.ntmps31
  go_wp2_with fail
  refine (onward_any w p m q n L D HG.out).mono ?_
  rintro e w1 ⟨vs, vt, ts, T, rfl, hb1, hw1, hT⟩
  have HW : Hid (WalkIn w1 vs vt ts n [0] T) := hw1
  have HT : Hid (∀ i b, i < n → (b ∈ T.getD i [] ↔ (i, b) ∈ L)) := hT
  clear hw1 hT
  go_wp2_with fail
  refine (reached_any w1 vs vt ts n [0] T (-1) HW.out).mono ?_
  rintro e w2 ⟨gs, bs, rfl, hg1, hg2, hl, hh, hb2⟩
  have HH : Hid (∀ b, bs.getD b false = true ↔ RA (· ∈ [0]) (fun a c => c ∈ T.getD a []) (-1) b) := hh
  have hc := (cell_bits hg2 (k := b) (by omega)).1
  have hfin : Hid (∃ r : Bool, Ending.returned (.bool (bs.getD b false)) = .returned (.bool r) ∧ (r = true ↔ Fwd L (-1) b) ∧ Below w.heap.size w w2) := by
    refine ⟨_, rfl, ?_, hb1.trans (hb2.mono hb1.size)⟩
    rw [HH.out b, fwd_iff HG.out HW.out HT.out]
  generalize bs.getD b false = r at hc hfin
  clear hh hl hg2
  go_wp2_with fail
  go_ret
  exact hfin.out

set_option maxHeartbeats 1000000 in
theorem wEnding_any (w : World) (p m q n : Nat) (L : List (Nat × Nat)) (D : List Bool) (hg : GraphIn w p m q n L D) (b : Nat) (hb : b < n) : Calls Try.prog 38 #[.pointer (some ⟨p, 0, none⟩), .int .i64 b] w fun e w' => ∃ r : Bool, e = .returned (.bool r) ∧ (r = true ↔ Bwd L D (-1) b) ∧ Below w.heap.size w w' := by
  have HG : Hid (GraphIn w p m q n L D) := hg
  clear hg
  go_enter Try.func38, Try.ntmps38
  go_wp2_with fail
  refine (backward_any w p m q n L D HG.out).mono ?_
  rintro e w1 ⟨vs, vt, ts, T, rfl, hb1, hw1, hT⟩
  have HW : Hid (WalkIn w1 vs vt ts n (idxTo D n) T) := hw1
  have HT : Hid (∀ i b, i < n → (b ∈ T.getD i [] ↔ (b, i) ∈ L)) := hT
  clear hw1 hT
  go_wp2_with fail
  refine (reached_any w1 vs vt ts n (idxTo D n) T (-1) HW.out).mono ?_
  rintro e w2 ⟨gs, bs, rfl, hg1, hg2, hl, hh, hb2⟩
  have HH : Hid (∀ b, bs.getD b false = true ↔ RA (· ∈ idxTo D n) (fun a c => c ∈ T.getD a []) (-1) b) := hh
  have hc := (cell_bits hg2 (k := b) (by omega)).1
  have hfin : Hid (∃ r : Bool, Ending.returned (.bool (bs.getD b false)) = .returned (.bool r) ∧ (r = true ↔ Bwd L D (-1) b) ∧ Below w.heap.size w w2) := by
    refine ⟨_, rfl, ?_, hb1.trans (hb2.mono hb1.size)⟩
    rw [HH.out b, bwd_iff HG.out HW.out HT.out]
  generalize bs.getD b false = r at hc hfin
  clear hh hl hg2
  go_wp2_with fail
  go_ret
  exact hfin.out

set_option maxHeartbeats 1000000 in
theorem wLast_any (w : World) (p m q n : Nat) (L : List (Nat × Nat)) (D : List Bool) (hg : GraphIn w p m q n L D) (b : Nat) (hb : b < n) : Calls Try.prog 32 #[.pointer (some ⟨p, 0, none⟩), .int .i64 b] w fun e w' => ∃ H : Nat → Nat → Bool, (∀ a c, a < n → c < n → (H a c = true ↔ HeldF L a c)) ∧ e = .returned (.int .i64 (nearestOf H n b)) ∧ Below w.heap.size w w' := by
  have HG : Hid (GraphIn w p m q n L D) := hg
  clear hg
  go_enter Try.func32, Try.ntmps32
  go_wp2_with fail
  refine (onward_any w p m q n L D HG.out).mono ?_
  rintro e w1 ⟨vs, vt, ts, T, rfl, hb1, hw1, hT⟩
  have HW : Hid (WalkIn w1 vs vt ts n [0] T) := hw1
  have HT : Hid (∀ i b, i < n → (b ∈ T.getD i [] ↔ (i, b) ∈ L)) := hT
  clear hw1 hT
  go_wp2_with fail
  refine (nearest_any w1 vs vt ts n [0] T b HW.out hb).mono ?_
  rintro e w2 ⟨H, hh, rfl, hb2⟩
  have hfin : Hid (∃ H' : Nat → Nat → Bool, (∀ a c, a < n → c < n → (H' a c = true ↔ HeldF L a c)) ∧ Ending.returned (.int .i64 (nearestOf H n b)) = .returned (.int .i64 (nearestOf H' n b)) ∧ Below w.heap.size w w2) := by
    refine ⟨H, fun a c ha hc => ?_, rfl, hb1.trans (hb2.mono hb1.size)⟩
    rw [hh a c ha hc, Held, HeldF, fwd_iff HG.out HW.out HT.out, fwd_iff HG.out HW.out HT.out]
  clear hh
  go_wp2_with fail
  go_ret
  exact hfin.out

set_option maxHeartbeats 1000000 in
theorem wNext_any (w : World) (p m q n : Nat) (L : List (Nat × Nat)) (D : List Bool) (hg : GraphIn w p m q n L D) (b : Nat) (hb : b < n) : Calls Try.prog 39 #[.pointer (some ⟨p, 0, none⟩), .int .i64 b] w fun e w' => ∃ H : Nat → Nat → Bool, (∀ a c, a < n → c < n → (H a c = true ↔ HeldB L D a c)) ∧ e = .returned (.int .i64 (nearestOf H n b)) ∧ Below w.heap.size w w' := by
  have HG : Hid (GraphIn w p m q n L D) := hg
  clear hg
  go_enter Try.func39, Try.ntmps39
  go_wp2_with fail
  refine (backward_any w p m q n L D HG.out).mono ?_
  rintro e w1 ⟨vs, vt, ts, T, rfl, hb1, hw1, hT⟩
  have HW : Hid (WalkIn w1 vs vt ts n (idxTo D n) T) := hw1
  have HT : Hid (∀ i b, i < n → (b ∈ T.getD i [] ↔ (b, i) ∈ L)) := hT
  clear hw1 hT
  go_wp2_with fail
  refine (nearest_any w1 vs vt ts n (idxTo D n) T b HW.out hb).mono ?_
  rintro e w2 ⟨H, hh, rfl, hb2⟩
  have hfin : Hid (∃ H' : Nat → Nat → Bool, (∀ a c, a < n → c < n → (H' a c = true ↔ HeldB L D a c)) ∧ Ending.returned (.int .i64 (nearestOf H n b)) = .returned (.int .i64 (nearestOf H' n b)) ∧ Below w.heap.size w w2) := by
    refine ⟨H, fun a c ha hc => ?_, rfl, hb1.trans (hb2.mono hb1.size)⟩
    rw [hh a c ha hc, Held, HeldB, bwd_iff HG.out HW.out HT.out, bwd_iff HG.out HW.out HT.out]
  clear hh
  go_wp2_with fail
  go_ret
  exact hfin.out

/-- The calls of package ridge that ask of two nodes. -/
theorem gOver_no (w : World) (p m q n : Nat) (L : List (Nat × Nat)) (D : List Bool) (hg : GraphIn w p m q n L D) (a b : Int) (h : isNode n a = false ∨ isNode n b = false) :
    Calls Try.prog 28 #[.pointer (some ⟨p, 0, none⟩), .int .i64 a, .int .i64 b] w fun e w' => e = .returned (.tuple #[.bool false, .int .i64 2]) ∧ Below w.heap.size w w' := by
  have hcall := has_two_no w p m q n L D hg a b h
  clear h hg
  go_enter Try.func28, Try.ntmps28
  go_wp2_with (go_at_call 30; refine hcall.mono ?_; rintro e w' ⟨rfl, rfl⟩)
  go_ret2
  exact ⟨rfl, (Below.refl _ _).alloc (Nat.le_refl _) _⟩

theorem gUnder_no (w : World) (p m q n : Nat) (L : List (Nat × Nat)) (D : List Bool) (hg : GraphIn w p m q n L D) (a b : Int) (h : isNode n a = false ∨ isNode n b = false) :
    Calls Try.prog 29 #[.pointer (some ⟨p, 0, none⟩), .int .i64 a, .int .i64 b] w fun e w' => e = .returned (.tuple #[.bool false, .int .i64 2]) ∧ Below w.heap.size w w' := by
  have hcall := has_two_no w p m q n L D hg a b h
  clear h hg
  go_enter Try.func29, Try.ntmps29
  go_wp2_with (go_at_call 30; refine hcall.mono ?_; rintro e w' ⟨rfl, rfl⟩)
  go_ret2
  exact ⟨rfl, (Below.refl _ _).alloc (Nat.le_refl _) _⟩

set_option maxHeartbeats 1000000 in
theorem gOver_any (w : World) (p m q n : Nat) (L : List (Nat × Nat)) (D : List Bool) (hg : GraphIn w p m q n L D) (a b : Nat) (ha : a < n) (hb : b < n) :
    Calls Try.prog 28 #[.pointer (some ⟨p, 0, none⟩), .int .i64 a, .int .i64 b] w fun e w' => ∃ r : Bool, e = .returned (.tuple #[.bool r, .int .i64 0]) ∧ (r = true ↔ HeldF L a b) ∧ Below w.heap.size w w' := by
  have hcall := has_two w p m q n L D hg a b ha hb
  have hcall2 := wOver_any _ p m q n L D (hg.alloc (.cells #[.int .i64 a, .int .i64 b] 3)) a b ha hb
  have HC : Hid (Calls Try.prog 57 _ _ _) := hcall2
  clear hcall2 hg
  go_enter Try.func28, Try.ntmps28
  go_wp2_with (first | (go_at_call 30; refine hcall.mono ?_; rintro e w' ⟨rfl, rfl⟩) | (go_at_call 57; refine HC.out.mono ?_; rintro e w' ⟨r, rfl, hr, hbel⟩))
  go_ret2
  exact ⟨r, rfl, hr, box_below hbel⟩

set_option maxHeartbeats 1000000 in
theorem gUnder_any (w : World) (p m q n : Nat) (L : List (Nat × Nat)) (D : List Bool) (hg : GraphIn w p m q n L D) (a b : Nat) (ha : a < n) (hb : b < n) :
    Calls Try.prog 29 #[.pointer (some ⟨p, 0, none⟩), .int .i64 a, .int .i64 b] w fun e w' => ∃ r : Bool, e = .returned (.tuple #[.bool r, .int .i64 0]) ∧ (r = true ↔ HeldB L D a b) ∧ Below w.heap.size w w' := by
  have hcall := has_two w p m q n L D hg a b ha hb
  have hcall2 := wUnder_any _ p m q n L D (hg.alloc (.cells #[.int .i64 a, .int .i64 b] 3)) a b ha hb
  have HC : Hid (Calls Try.prog 58 _ _ _) := hcall2
  clear hcall2 hg
  go_enter Try.func29, Try.ntmps29
  go_wp2_with (first | (go_at_call 30; refine hcall.mono ?_; rintro e w' ⟨rfl, rfl⟩) | (go_at_call 58; refine HC.out.mono ?_; rintro e w' ⟨r, rfl, hr, hbel⟩))
  go_ret2
  exact ⟨r, rfl, hr, box_below hbel⟩

/-- The calls of package ridge that ask of one node. -/
theorem gLast_no (w : World) (p m q n : Nat) (L : List (Nat × Nat)) (D : List Bool) (hg : GraphIn w p m q n L D) (b : Int) (h : isNode n b = false) :
    Calls Try.prog 14 #[.pointer (some ⟨p, 0, none⟩), .int .i64 b] w fun e w' => e = .returned (.tuple #[.int .i64 0, .int .i64 2]) ∧ Below w.heap.size w w' := by
  have hcall := has_one_no w p m q n L D hg b h
  clear h hg
  go_enter Try.func14, Try.ntmps14
  go_wp2_with (go_at_call 30; refine hcall.mono ?_; rintro e w' ⟨rfl, rfl⟩)
  go_ret2
  exact ⟨rfl, (Below.refl _ _).alloc (Nat.le_refl _) _⟩

theorem gNext_no (w : World) (p m q n : Nat) (L : List (Nat × Nat)) (D : List Bool) (hg : GraphIn w p m q n L D) (b : Int) (h : isNode n b = false) :
    Calls Try.prog 20 #[.pointer (some ⟨p, 0, none⟩), .int .i64 b] w fun e w' => e = .returned (.tuple #[.int .i64 0, .int .i64 2]) ∧ Below w.heap.size w w' := by
  have hcall := has_one_no w p m q n L D hg b h
  clear h hg
  go_enter Try.func20, Try.ntmps20
  go_wp2_with (go_at_call 30; refine hcall.mono ?_; rintro e w' ⟨rfl, rfl⟩)
  go_ret2
  exact ⟨rfl, (Below.refl _ _).alloc (Nat.le_refl _) _⟩

/-- What Last and Next answer of a node that there is: ErrAway, or the nearest one. -/
def LastAns (n : Nat) (R : Prop) (Hd : Nat → Nat → Prop) (b : Nat) (v : Int) (e : Int) : Prop :=
  (¬ R ∧ v = 0 ∧ e = 5) ∨ (R ∧ e = 0 ∧ ∃ H : Nat → Nat → Bool, (∀ a c, a < n → c < n → (H a c = true ↔ Hd a c)) ∧ v = nearestOf H n b)

set_option maxHeartbeats 1000000 in
theorem gLast_any (w : World) (p m q n : Nat) (L : List (Nat × Nat)) (D : List Bool) (hg : GraphIn w p m q n L D) (b : Nat) (hb : b < n) :
    Calls Try.prog 14 #[.pointer (some ⟨p, 0, none⟩), .int .i64 b] w fun e w' => ∃ v x : Int, e = .returned (.tuple #[.int .i64 v, .int .i64 x]) ∧ LastAns n (Fwd L (-1) b) (fun a c => HeldF L a c) b v x ∧ Below w.heap.size w w' := by
  have hcall := has_one w p m q n L D hg b hb
  have HG : Hid (GraphIn (w.alloc (.cells #[.int .i64 b] 3)) p m q n L D) := hg.alloc _
  clear hg
  go_enter Try.func14, Try.ntmps14
  go_wp2_with fail
  refine hcall.mono ?_
  rintro e w' ⟨rfl, rfl⟩
  clear hcall
  go_wp2_with fail
  refine (wReached_any _ p m q n L D HG.out b hb).mono ?_
  rintro e w1 ⟨r, rfl, hr0, hb1⟩
  have hr : Hid (r = true ↔ Fwd L (-1) b) := hr0
  clear hr0
  cases r
  · go_wp2_with fail
    go_ret2
    exact ⟨0, 5, rfl, .inl ⟨fun h => by have := hr.out.2 h; simp at this, rfl, rfl⟩, box_below hb1⟩
  · go_wp2_with fail
    refine (wLast_any _ p m q n L D (HG.out.below hb1) b hb).mono ?_
    rintro e w2 ⟨H, hH, rfl, hb2⟩
    have hfin : Hid (∃ v x : Int, Ending.returned (.tuple #[.int .i64 (nearestOf H n b), .int .i64 0]) = .returned (.tuple #[.int .i64 v, .int .i64 x]) ∧ LastAns n (Fwd L (-1) b) (fun a c => HeldF L a c) b v x ∧ Below w.heap.size w w2) :=
      ⟨_, _, rfl, .inr ⟨by have h9 := hr.out; simp at h9; exact h9, rfl, H, hH, rfl⟩, box_below (hb1.trans (hb2.mono hb1.size))⟩
    clear hH hr
    go_wp2_with fail
    go_ret2
    exact hfin.out

set_option maxHeartbeats 1000000 in
theorem gNext_any (w : World) (p m q n : Nat) (L : List (Nat × Nat)) (D : List Bool) (hg : GraphIn w p m q n L D) (b : Nat) (hb : b < n) :
    Calls Try.prog 20 #[.pointer (some ⟨p, 0, none⟩), .int .i64 b] w fun e w' => ∃ v x : Int, e = .returned (.tuple #[.int .i64 v, .int .i64 x]) ∧ LastAns n (Bwd L D (-1) b) (fun a c => HeldB L D a c) b v x ∧ Below w.heap.size w w' := by
  have hcall := has_one w p m q n L D hg b hb
  have HG : Hid (GraphIn (w.alloc (.cells #[.int .i64 b] 3)) p m q n L D) := hg.alloc _
  clear hg
  go_enter Try.func20, Try.ntmps20
  go_wp2_with fail
  refine hcall.mono ?_
  rintro e w' ⟨rfl, rfl⟩
  clear hcall
  go_wp2_with fail
  refine (wEnding_any _ p m q n L D HG.out b hb).mono ?_
  rintro e w1 ⟨r, rfl, hr0, hb1⟩
  have hr : Hid (r = true ↔ Bwd L D (-1) b) := hr0
  clear hr0
  cases r
  · go_wp2_with fail
    go_ret2
    exact ⟨0, 5, rfl, .inl ⟨fun h => by have := hr.out.2 h; simp at this, rfl, rfl⟩, box_below hb1⟩
  · go_wp2_with fail
    refine (wNext_any _ p m q n L D (HG.out.below hb1) b hb).mono ?_
    rintro e w2 ⟨H, hH, rfl, hb2⟩
    have hfin : Hid (∃ v x : Int, Ending.returned (.tuple #[.int .i64 (nearestOf H n b), .int .i64 0]) = .returned (.tuple #[.int .i64 v, .int .i64 x]) ∧ LastAns n (Bwd L D (-1) b) (fun a c => HeldB L D a c) b v x ∧ Below w.heap.size w w2) :=
      ⟨_, _, rfl, .inr ⟨by have h9 := hr.out; simp at h9; exact h9, rfl, H, hH, rfl⟩, box_below (hb1.trans (hb2.mono hb1.size))⟩
    clear hH hr
    go_wp2_with fail
    go_ret2
    exact hfin.out

end Go.Proofs.Ytbddcodljmglfaa
