/- The world of a script in memory: the graphs, beside each the document's, and the lists that are held. -/
import Derived.Test.YtbddcodljmglfaaRefMake
import Derived.Test.YtbddcodljmglfaaMeetAsk
import Derived.Test.YtbddcodljmglfaaWalkFns
import Derived.Deep.RegionHeld3
import Derived.BigQuiet
set_option linter.unusedSimpArgs false
set_option linter.unusedVariables false
namespace Go.Proofs.Ytbddcodljmglfaa
open Go.RowKit

/-- What a block is there for. -/
inductive Role where
  | head | gs | rs | hs | held | other
  | mem (i j : Nat)
  deriving DecidableEq

/-- A graph, and the document's beside it: where they lie, and what they are. -/
structure GSt where
  p : Nat
  m : Nat
  q : Nat
  g : Nat
  n : Nat
  L : List (Nat × Nat)
  D : List Bool

def gptr (x : GSt) : Value := .pointer (some ⟨x.p, 0, none⟩)
def rptr (x : GSt) : Value := .pointer (some ⟨x.g, 0, none⟩)

/-- A list that is held: its value, its length, its mark. -/
structure HSt where
  v : Value
  len : Nat
  mark : Int

def hcells (H : List HSt) : List Value := H.flatMap fun e => [e.v, .int .i64 e.mark]
theorem hcells_append (a b : List HSt) : hcells (a ++ b) = hcells a ++ hcells b := by simp [hcells]
theorem hcells_get : ∀ (l : List HSt) (k : Nat) (h : k < l.length), (hcells l)[k * 2]? = some l[k].v ∧ (hcells l)[k * 2 + 1]? = some (.int .i64 l[k].mark)
  | [], k, h => by simp at h
  | x :: l, 0, h => by simp [hcells]
  | x :: l, k + 1, h => by
    have e : hcells (x :: l) = x.v :: .int .i64 x.mark :: hcells l := by simp [hcells]
    have ih := hcells_get l k (by simpa using h)
    rw [e]
    have e1 : (k + 1) * 2 = k * 2 + 1 + 1 := by omega
    rw [e1]
    simpa using ih

def marks (n : Nat) (m : Int) : List Value := List.replicate n (.int .i64 m)

structure PlIn (w0 wx : World) (κ : Nat → Role) (bw : Nat) (vg vr vh : Value) (G : List GSt) (N : Nat) (H : List HSt) : Prop where
  head : wx.heap[bw]? = some (.cells #[vg, vr, .int .i64 N, vh] 52 (0, 0))
  gs : OwnS wx w0.heap.size 31 1 vg G.length (G.map gptr)
  rs : OwnS wx w0.heap.size 62 1 vr G.length (G.map rptr)
  hs : OwnS wx w0.heap.size 86 2 vh H.length (hcells H)
  gr : ∀ (i : Nat) (x : GSt), G[i]? = some x → GraphIn wx x.p x.m x.q x.n x.L x.D ∧ RefIn wx x.g x.n x.L x.D
  kgr : ∀ (i : Nat) (x : GSt), G[i]? = some x → (κ x.p = .mem i 0 ∧ w0.heap.size ≤ x.p) ∧ (κ x.m = .mem i 1 ∧ w0.heap.size ≤ x.m) ∧ (κ x.q = .mem i 2 ∧ w0.heap.size ≤ x.q) ∧ (κ x.g = .mem i 3 ∧ w0.heap.size ≤ x.g)
  lists : ∀ e ∈ H, RdS wx 1 e.v e.len (marks e.len e.mark) ∧ e.len ≤ 10000000 ∧ ∀ k, e.v.ownBlock = some k → κ k = .held ∧ k < wx.heap.size
  khead : κ bw = .head ∧ w0.heap.size ≤ bw
  kgs : ∀ k, vg.ownBlock = some k → κ k = .gs
  krs : ∀ k, vr.ownBlock = some k → κ k = .rs
  khs : ∀ k, vh.ownBlock = some k → κ k = .hs
  fresh : ∀ k, wx.heap.size ≤ k → κ k = .other
  bel : Below w0.heap.size w0 wx

theorem RdS.of_block {w w' : World} {size : Nat} {v : Value} {n : Nat} {xs : List Value} (h : RdS w size v n xs) (hb : ∀ k, v.ownBlock = some k → w'.heap[k]? = w.heap[k]?) : RdS w' size v n xs := by
  obtain ⟨hl, ao, cap, rfl, h⟩ := h
  refine ⟨hl, ao, cap, rfl, ?_⟩
  rcases h with h | ⟨g, off, rfl, h⟩
  · exact .inl h
  · refine .inr ⟨g, off, rfl, fun j u hj => ?_⟩
    rw [World.cell?_of_block (hb g rfl)]
    exact h j u hj

section
variable {w0 wx wy : World} {κ : Nat → Role} {bw : Nat} {vg vr vh : Value} {G : List GSt} {N : Nat} {H : List HSt}

theorem PlIn.bwLt (h : PlIn w0 wx κ bw vg vr vh G N H) : bw < wx.heap.size := blk_lt h.head
theorem PlIn.c0 (h : PlIn w0 wx κ bw vg vr vh G N H) : wx.cell? ⟨bw, 0, none⟩ = some vg := by simp [World.cell?, h.head]
theorem PlIn.c1 (h : PlIn w0 wx κ bw vg vr vh G N H) : wx.cell? ⟨bw, 1, none⟩ = some vr := by simp [World.cell?, h.head]
theorem PlIn.c2 (h : PlIn w0 wx κ bw vg vr vh G N H) : wx.cell? ⟨bw, 2, none⟩ = some (.int .i64 N) := by simp [World.cell?, h.head]
theorem PlIn.c3 (h : PlIn w0 wx κ bw vg vr vh G N H) : wx.cell? ⟨bw, 3, none⟩ = some vh := by simp [World.cell?, h.head]
theorem PlIn.f (h : PlIn w0 wx κ bw vg vr vh G N H) (o : Nat) : wx.frozen? ⟨bw, o, none⟩ = false := by simp [World.frozen?, h.head]

/-- What turned has no role of ours. -/
theorem PlIn.keep (h : PlIn w0 wx κ bw vg vr vh G N H) {may : Nat → Prop} (hg : Grew wx wy may) (hno : ∀ k, may k → κ k = .other ∧ w0.heap.size ≤ k) : PlIn w0 wy κ bw vg vr vh G N H := by
  have hk : ∀ k, k < wx.heap.size → κ k ≠ .other → wy.heap[k]? = wx.heap[k]? := fun k hl hne => hg.block k (fun hm => hne (hno k hm).1) hl
  refine ⟨(hk _ h.bwLt (by rw [h.khead.1]; simp)).trans h.head, h.gs.of_block fun k hk' => hk k (h.gs.lt k hk').2 (by rw [h.kgs k hk']; simp), h.rs.of_block fun k hk' => hk k (h.rs.lt k hk').2 (by rw [h.krs k hk']; simp), h.hs.of_block fun k hk' => hk k (h.hs.lt k hk').2 (by rw [h.khs k hk']; simp), fun i x hx => ?_, h.kgr, fun e he => ?_, h.khead, h.kgs, h.krs, h.khs, fun k hl => h.fresh k (Nat.le_trans hg.size hl), h.bel.trans (hg.below h.bel.size (fun k hm => (hno k hm).2))⟩
  · obtain ⟨g1, g2⟩ := h.gr i x hx
    obtain ⟨k1, k2, k3, k4⟩ := h.kgr i x hx
    exact ⟨g1.of_block (hk _ g1.pLt (by rw [k1.1]; simp)) (hk _ g1.mLt (by rw [k2.1]; simp)) (hk _ g1.qLt (by rw [k3.1]; simp)), g2.of_block (hk _ g2.gLt (by rw [k4.1]; simp))⟩
  · obtain ⟨r1, r2, r3⟩ := h.lists e he
    exact ⟨r1.of_block fun k hk' => hk k (r3 k hk').2 (by rw [(r3 k hk').1]; simp), r2, fun k hk' => ⟨(r3 k hk').1, Nat.lt_of_lt_of_le (r3 k hk').2 hg.size⟩⟩

theorem PlIn.below (h : PlIn w0 wx κ bw vg vr vh G N H) (hb : Below wx.heap.size wx wy) : PlIn w0 wy κ bw vg vr vh G N H :=
  h.keep (Grew.of_below (may := fun _ => False) hb) (fun _ hm => hm.elim)

theorem PlIn.graph (h : PlIn w0 wx κ bw vg vr vh G N H) {i : Nat} {x : GSt} (hi : G[i]? = some x) {L' : List (Nat × Nat)} {D' : List Bool} (hg : Grew wx wy (fun k => k = x.m ∨ k = x.q ∨ k = x.g)) (h1 : GraphIn wy x.p x.m x.q x.n L' D') (h2 : RefIn wy x.g x.n L' D') :
    PlIn w0 wy κ bw vg vr vh (G.set i { x with L := L', D := D' }) N H := by
  obtain ⟨k1, k2, k3, k4⟩ := h.kgr i x hi
  have hil : i < G.length := (List.getElem?_eq_some_iff.1 hi).1
  have hk : ∀ k, k < wx.heap.size → (∀ j, κ k ≠ .mem i j) → wy.heap[k]? = wx.heap[k]? := by
    intro k hl hne
    refine hg.block k (fun hm => ?_) hl
    rcases hm with rfl | rfl | rfl
    · exact hne _ k2.1
    · exact hne _ k3.1
    · exact hne _ k4.1
  have emap : ∀ f : GSt → Value, f { x with L := L', D := D' } = f x → (G.set i { x with L := L', D := D' }).map f = G.map f := by
    intro f hf
    apply List.ext_getElem?
    intro j
    rw [List.getElem?_map, List.getElem?_map, List.getElem?_set]
    by_cases e : i = j
    · subst e
      rw [if_pos rfl, if_pos hil, hi]
      simp [hf]
    · rw [if_neg e]
  have e1 := emap gptr rfl
  have e2 := emap rptr rfl
  have el : (G.set i { x with L := L', D := D' }).length = G.length := by simp
  refine ⟨(hk _ h.bwLt (by rw [h.khead.1]; simp)).trans h.head, ?_, ?_, h.hs.of_block fun k hk' => hk k (h.hs.lt k hk').2 (by rw [h.khs k hk']; simp), fun j y hy => ?_, fun j y hy => ?_, fun e he => ?_, h.khead, h.kgs, h.krs, h.khs, fun k hl => h.fresh k (Nat.le_trans hg.size hl), h.bel.trans (hg.below h.bel.size (fun k hm => ?_))⟩
  · rw [e1, el]
    exact h.gs.of_block fun k hk' => hk k (h.gs.lt k hk').2 (by rw [h.kgs k hk']; simp)
  · rw [e2, el]
    exact h.rs.of_block fun k hk' => hk k (h.rs.lt k hk').2 (by rw [h.krs k hk']; simp)
  · rw [List.getElem?_set] at hy
    by_cases e : i = j
    · rw [if_pos e, if_pos (by omega)] at hy
      simp at hy
      subst hy
      exact ⟨h1, h2⟩
    · rw [if_neg e] at hy
      obtain ⟨g1, g2⟩ := h.gr j y hy
      obtain ⟨q1, q2, q3, q4⟩ := h.kgr j y hy
      exact ⟨g1.of_block (hk _ g1.pLt (by rw [q1.1]; simp; omega)) (hk _ g1.mLt (by rw [q2.1]; simp; omega)) (hk _ g1.qLt (by rw [q3.1]; simp; omega)), g2.of_block (hk _ g2.gLt (by rw [q4.1]; simp; omega))⟩
  · rw [List.getElem?_set] at hy
    by_cases e : i = j
    · rw [if_pos e, if_pos (by omega)] at hy
      simp at hy
      subst hy
      subst e
      exact h.kgr i x hi
    · rw [if_neg e] at hy
      exact h.kgr j y hy
  · obtain ⟨r1, r2, r3⟩ := h.lists e he
    exact ⟨r1.of_block fun k hk' => hk k (r3 k hk').2 (by rw [(r3 k hk').1]; simp), r2, fun k hk' => ⟨(r3 k hk').1, Nat.lt_of_lt_of_le (r3 k hk').2 hg.size⟩⟩
  · rcases hm with rfl | rfl | rfl
    · exact k2.2
    · exact k3.2
    · exact k4.2
end

end Go.Proofs.Ytbddcodljmglfaa
