/- What edged holds in memory: the work, what is wanted, where the ways meet, an edge's list, each apart from the others. -/
import Derived.Test.YtbddcodljmglfaaEdgedMath
set_option linter.unusedSimpArgs false
set_option linter.unusedVariables false
namespace Go.Proofs.Ytbddcodljmglfaa
open Go.RowKit

def Apart (v u : Value) : Prop := ∀ g, v.ownBlock = some g → u.ownBlock ≠ some g
theorem Apart.symm {v u : Value} (h : Apart v u) : Apart u v := fun g h1 h2 => h g h2 h1
theorem Apart.nil (v : Value) : Apart v (.slice none 0 0) := by
  intro g h1 h2
  simp [Value.ownBlock] at h2
theorem Apart.nil' (v : Value) : Apart (.slice none 0 0) v := (Apart.nil v).symm

section
variable {wx w3 : World} {base base' size n : Nat} {e : TypeId} {u v : Value} {xs : List Value} {o : Obj}
theorem OwnS.grownApart (h : OwnS wx base e size u n xs) (ha : Apart u v) (hgrow : (wx.alloc o).grownBy w3 v.ownBlock) : OwnS w3 base e size u n xs :=
  h.of_block fun k hk => (hgrow.block k (by have := (h.lt k hk).2; simp; omega) (fun e => ha k hk e.symm)).trans (Below.heap_alloc _ _ _ (h.lt k hk).2)

theorem Apart.grown {g' off' N cap' : Nat} (h : OwnS wx base e size u n xs) (ha : Apart u v) (hloc : v.ownBlock = some g' ∨ g' = (wx.alloc o).heap.size) : Apart u (.slice (some ⟨g', off', none⟩) N cap') := by
  intro g h1 h2
  have e : g' = g := by simpa [Value.ownBlock] using h2
  rcases hloc with h4 | h4
  · exact ha g h1 (by rw [h4, e])
  · have := (h.lt g h1).2
    simp at h4
    omega

/-- What is new lies apart from what was there. -/
theorem Apart.fresh {size' n' : Nat} {e' : TypeId} {xs' : List Value} (h : OwnS wx base e size u n xs) (h' : OwnS w3 base' e' size' v n' xs') (hb : wx.heap.size ≤ base') : Apart v u := by
  intro g h1 h2
  have a := (h'.lt g h1).1
  have b := (h.lt g h2).2
  omega
end

structure EgIn (w wx : World) (vk vt vm vl : Value) (W M I E : List Nat) : Prop where
  work : OwnS wx w.heap.size 3 1 vk W.length (nums W)
  want : OwnS wx w.heap.size 3 1 vt M.length (nums M)
  meet : OwnS wx w.heap.size 3 1 vm I.length (nums I)
  edge : OwnS wx w.heap.size 3 1 vl E.length (nums E)
  kt : Apart vk vt
  pmk : Apart vm vk
  mt : Apart vm vt
  lk : Apart vl vk
  lt : Apart vl vt
  bel : Below w.heap.size w wx

section
variable {w wx wy : World} {vk vt vm vl : Value} {W M I E : List Nat}
theorem EgIn.below (h : EgIn w wx vk vt vm vl W M I E) (hb : Below wx.heap.size wx wy) : EgIn w wy vk vt vm vl W M I E :=
  ⟨h.work.of_block fun k hk => hb.block _ (h.work.lt k hk).2, h.want.of_block fun k hk => hb.block _ (h.want.lt k hk).2, h.meet.of_block fun k hk => hb.block _ (h.meet.lt k hk).2, h.edge.of_block fun k hk => hb.block _ (h.edge.lt k hk).2, h.kt, h.pmk, h.mt, h.lk, h.lt, h.bel.trans (hb.mono h.bel.size)⟩

theorem EgIn.noEdge (h : EgIn w wx vk vt vm vl W M I E) : EgIn w wx vk vt vm (.slice none 0 0) W M I [] :=
  ⟨h.work, h.want, h.meet, OwnS.nil _ _ _ _, h.kt, h.pmk, h.mt, Apart.nil' _, Apart.nil' _, h.bel⟩

theorem EgIn.withEdge {v : Value} {E' : List Nat} (h : EgIn w wx vk vt vm vl W M I E) (hb : Below wx.heap.size wx wy) (hv : OwnS wy wx.heap.size 3 1 v E'.length (nums E')) : EgIn w wy vk vt vm v W M I E' := by
  have h' := h.below hb
  exact ⟨h'.work, h'.want, h'.meet, hv.mono h.bel.size, h.kt, h.pmk, h.mt, Apart.fresh h.work hv (Nat.le_refl _), Apart.fresh h.want hv (Nat.le_refl _), h'.bel⟩

theorem EgIn.pushT {w3 : World} {o : Obj} {g' off' cap' y : Nat} (h : EgIn w wx vk vt vm vl W M I E) (hown : OwnS w3 w.heap.size 3 1 (.slice (some ⟨g', off', none⟩) (M.length + 1) cap') (M.length + 1) (nums M ++ [.int .i64 (y : Int)])) (hgrow : (wx.alloc o).grownBy w3 vt.ownBlock) (hloc : vt.ownBlock = some g' ∨ g' = (wx.alloc o).heap.size) :
    EgIn w w3 vk (.slice (some ⟨g', off', none⟩) (M.length + 1) cap') vm vl W (M ++ [y]) I E := by
  refine ⟨h.work.grownApart h.kt hgrow, by simpa [nums] using hown, h.meet.grownApart h.mt hgrow, h.edge.grownApart h.lt hgrow, Apart.grown h.work h.kt hloc, h.pmk, Apart.grown h.meet h.mt hloc, h.lk, Apart.grown h.edge h.lt hloc, ?_⟩
  exact (h.bel.alloc h.bel.size o).grown hgrow (by have := h.bel.size; simp; omega) (fun j hj => (h.want.lt j hj).1)

theorem EgIn.pushK {w3 : World} {o : Obj} {g' off' cap' y : Nat} (h : EgIn w wx vk vt vm vl W M I E) (hown : OwnS w3 w.heap.size 3 1 (.slice (some ⟨g', off', none⟩) (W.length + 1) cap') (W.length + 1) (nums W ++ [.int .i64 (y : Int)])) (hgrow : (wx.alloc o).grownBy w3 vk.ownBlock) (hloc : vk.ownBlock = some g' ∨ g' = (wx.alloc o).heap.size) :
    EgIn w w3 (.slice (some ⟨g', off', none⟩) (W.length + 1) cap') vt vm vl (W ++ [y]) M I E := by
  refine ⟨by simpa [nums] using hown, h.want.grownApart h.kt.symm hgrow, h.meet.grownApart h.pmk hgrow, h.edge.grownApart h.lk hgrow, (Apart.grown h.want h.kt.symm hloc).symm, Apart.grown h.meet h.pmk hloc, h.mt, Apart.grown h.edge h.lk hloc, h.lt, ?_⟩
  exact (h.bel.alloc h.bel.size o).grown hgrow (by have := h.bel.size; simp; omega) (fun j hj => (h.work.lt j hj).1)
end

theorem heldF_zero {L : List (Nat × Nat)} {a : Nat} : HeldF L 0 a ↔ Fwd L (-1) a :=
  ⟨fun h => h.1, fun h => ⟨h, fun h' => Reach.ind h' (fun _ => False) (fun x hx => hx.2 (by rw [hx.1]; rfl)) (fun _ _ _ h _ => h)⟩⟩

theorem upTo_mem {L : List (Nat × Nat)} {n a : Nat} {qq : Nat → Bool} (hL : ∀ x ∈ L, x.1 < n ∧ x.2 < n) (h : ∀ y, y < n → (qq y = true ↔ OnEdge L a y)) (y : Nat) : y ∈ upTo qq n ↔ OnEdge L a y := by
  simp only [upTo, List.mem_filter, List.mem_range]
  exact ⟨fun h' => (h y h'.1).1 h'.2, fun h' => ⟨onEdge_lt hL h', (h y (onEdge_lt hL h')).2 h'⟩⟩

theorem idxTo_mem {L : List (Nat × Nat)} {n : Nat} {F M : List Nat} {sn : List Bool} (h : Edg n L F M) (hd : ∀ y, y ∈ M ↔ Met L F y) (hs : ∀ y, sn.getD y false = true ↔ Met L F y) (y : Nat) : y ∈ idxTo sn n ↔ y ∈ M := by
  simp only [idxTo, List.mem_filter, List.mem_range]
  rw [hs y, ← hd y]
  exact ⟨fun h => h.2, fun h' => ⟨h.lt y h', h'⟩⟩

end Go.Proofs.Ytbddcodljmglfaa
