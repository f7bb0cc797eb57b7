/- Edge: of package ways, and of package ridge. -/
import Derived.Test.YtbddcodljmglfaaEdgeFn
set_option linter.unusedSimpArgs false
set_option linter.unusedVariables false
namespace Go.Proofs.Ytbddcodljmglfaa
open Go.RowKit

/-- The list of those on the edge of a, by rising numbers. -/
def EdgeList (w : World) (base : Nat) (L : List (Nat × Nat)) (n a : Nat) (v : Value) : Prop :=
  ∃ qq : Nat → Bool, OwnS w base 3 1 v (upTo qq n).length (nums (upTo qq n)) ∧ (∀ y, y < n → (qq y = true ↔ OnEdge L a y))

set_option maxHeartbeats 1000000 in
theorem wEdge_any (w : World) (p m q n : Nat) (L : List (Nat × Nat)) (D : List Bool) (hg : GraphIn w p m q n L D) (a : Nat) (ha : a < n) : Calls Try.prog 64 #[.pointer (some ⟨p, 0, none⟩), .int .i64 a] w fun e w' => ∃ v : Value, e = .returned v ∧ EdgeList w' w.heap.size L n a v ∧ Below w.heap.size w w' := by
  have HG : Hid (GraphIn w p m q n L D) := hg
  clear hg
  go_enter Try.func64, Try.ntmps64
  go_wp2_with fail
  refine (onward_any w p m q n L D HG.out).mono ?_
  rintro e w1 ⟨vs, vt, ts, T, rfl, hb1, hw1, hT⟩
  have HW : Hid (WalkIn w1 vs vt ts n [0] T) := hw1
  have HT : Hid (∀ i b, i < n → (b ∈ T.getD i [] ↔ (i, b) ∈ L)) := hT
  clear hw1 hT
  go_wp2_with fail
  refine (edge_any w1 p m q n L D (HG.out.below hb1) vs vt ts T HW.out HT.out a ha).mono ?_
  rintro e w2 ⟨v, qq, rfl, hown, hq, hb2⟩
  have hfin : Hid (∃ v' : Value, Ending.returned v = .returned v' ∧ EdgeList w2 w.heap.size L n a v' ∧ Below w.heap.size w w2) :=
    ⟨v, rfl, ⟨qq, hown.mono hb1.size, hq⟩, hb1.trans (hb2.mono hb1.size)⟩
  clear hown hq
  go_wp2_with fail
  go_ret
  exact hfin.out

theorem gEdge_no (w : World) (p m q n : Nat) (L : List (Nat × Nat)) (D : List Bool) (hg : GraphIn w p m q n L D) (b : Int) (h : isNode n b = false) :
    Calls Try.prog 34 #[.pointer (some ⟨p, 0, none⟩), .int .i64 b] w fun e w' => e = .returned (.tuple #[.slice none 0 0, .int .i64 2]) ∧ Below w.heap.size w w' := by
  have hcall := has_one_no w p m q n L D hg b h
  clear h hg
  go_enter Try.func34, Try.ntmps34
  go_wp2_with (go_at_call 30; refine hcall.mono ?_; rintro e w' ⟨rfl, rfl⟩)
  go_ret2
  exact ⟨rfl, (Below.refl _ _).alloc (Nat.le_refl _) _⟩

set_option maxHeartbeats 1000000 in
theorem gEdge_any (w : World) (p m q n : Nat) (L : List (Nat × Nat)) (D : List Bool) (hg : GraphIn w p m q n L D) (b : Nat) (hb : b < n) :
    Calls Try.prog 34 #[.pointer (some ⟨p, 0, none⟩), .int .i64 b] w fun e w' => ∃ (v : Value) (x : Int), e = .returned (.tuple #[v, .int .i64 x]) ∧ ((¬ Fwd L (-1) b ∧ v = .slice none 0 0 ∧ x = 5) ∨ (Fwd L (-1) b ∧ x = 0 ∧ EdgeList w' w.heap.size L n b v)) ∧ Below w.heap.size w w' := by
  have hcall := has_one w p m q n L D hg b hb
  have HG : Hid (GraphIn (w.alloc (.cells #[.int .i64 b] 3)) p m q n L D) := hg.alloc _
  clear hg
  go_enter Try.func34, Try.ntmps34
  go_wp2_with fail
  refine hcall.mono ?_
  rintro e w' ⟨rfl, rfl⟩
  clear hcall
  go_wp2_with fail
  refine (wReached_any _ p m q n L D HG.out b hb).mono ?_
  rintro e w1 ⟨r, rfl, hr0, hb1⟩
  have hr : Hid (r = true ↔ Fwd L (-1) b) := hr0
  clear hr0
  cases r
  · go_wp2_with fail
    go_ret2
    exact ⟨_, 5, rfl, .inl ⟨fun h => by have := hr.out.2 h; simp at this, rfl, rfl⟩, box_below hb1⟩
  · go_wp2_with fail
    refine (wEdge_any _ p m q n L D (HG.out.below hb1) b hb).mono ?_
    rintro e w2 ⟨v, rfl, ⟨qq, hown, hq⟩, hb2⟩
    have hs1 : w.heap.size ≤ w1.heap.size := (box_below hb1).size
    have hfin : Hid (∃ (v' : Value) (x : Int), Ending.returned (.tuple #[v, .int .i64 0]) = .returned (.tuple #[v', .int .i64 x]) ∧ ((¬ Fwd L (-1) b ∧ v' = .slice none 0 0 ∧ x = 5) ∨ (Fwd L (-1) b ∧ x = 0 ∧ EdgeList w2 w.heap.size L n b v')) ∧ Below w.heap.size w w2) :=
      ⟨_, _, rfl, .inr ⟨by have h9 := hr.out; simp at h9; exact h9, rfl, qq, hown.mono hs1, hq⟩, box_below (hb1.trans (hb2.mono hb1.size))⟩
    clear hown hq hr
    go_wp2_with fail
    go_ret2
    exact hfin.out

end Go.Proofs.Ytbddcodljmglfaa
