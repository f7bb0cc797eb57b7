/- More on rows of several marks: stores, growth, what stays. -/
import Derived.Test.YtbddcodljmglfaaGreatDoorVers
set_option linter.unusedSimpArgs false
set_option linter.unusedVariables false
namespace Go.Proofs.YtbddcodljmglfaaGreatDoor
open Go.RowKit

theorem own_other {w : World} {base : Nat} {e t : TypeId} {size : Nat} {v : Value} {n : Nat} {xs : List Value} (h : OwnS w base e size v n xs) {k : Nat} {c : Array Value} {fr : Nat × Nat} (hk : w.heap[k]? = some (.cells c t fr)) (hne : e ≠ t) : ∀ g, v.ownBlock = some g → g ≠ k := by
  intro g hg e'
  subst e'
  rcases h.2 with ⟨rfl, _⟩ | ⟨g', off, cap, cur, rfl, h1, hg', _⟩
  · simp [Value.ownBlock] at hg
  · simp [Value.ownBlock] at hg
    subst hg
    rw [hk] at hg'
    simp at hg'
    exact hne hg'.2.1.symm

/-- A store into a block of another mark. -/
theorem Keeps.setCell {t : TypeId} {w w' : World} (h : Keeps t w w') {b i : Nat} {c : Array Value} {t' : TypeId} {fr : Nat × Nat} (hb : w'.heap[b]? = some (.cells c t' fr)) (hne : t ≠ t') (u : Value) : Keeps t w (w'.setCell ⟨b, i, none⟩ u) := by
  intro g cur f hg
  have h1 := h g cur f hg
  rw [Below.heap_setCell _ _ _ _ (by
    show g ≠ b
    rintro rfl
    rw [h1] at hb
    simp at hb
    exact hne hb.2.1)]
  exact h1
theorem set_block {w : World} {b i : Nat} {c : Array Value} {t : TypeId} {fr : Nat × Nat} (h : w.heap[b]? = some (.cells c t fr)) (u : Value) : (w.setCell ⟨b, i, none⟩ u).heap[b]? = some (.cells (c.setIfInBounds i u) t fr) := by
  simp [World.setCell, Array.getElem?_modify, h]

structure Box6 (w : World) (b : Nat) (c0 c1 c2 c3 c4 c5 : Value) : Prop where
  c : w.cell? ⟨b, 0, none⟩ = some c0 ∧ w.cell? ⟨b, 1, none⟩ = some c1 ∧ w.cell? ⟨b, 2, none⟩ = some c2 ∧ w.cell? ⟨b, 3, none⟩ = some c3 ∧ w.cell? ⟨b, 4, none⟩ = some c4 ∧ w.cell? ⟨b, 5, none⟩ = some c5
  f : ∀ i, w.frozen? ⟨b, i, none⟩ = false
theorem box6 {w : World} {b : Nat} {c0 c1 c2 c3 c4 c5 : Value} {t : TypeId} (h : w.heap[b]? = some (.cells #[c0, c1, c2, c3, c4, c5] t (0, 0))) : Box6 w b c0 c1 c2 c3 c4 c5 :=
  ⟨by simp [World.cell?, h], fun i => by simp [World.frozen?, h]⟩

theorem cell_newL (w : World) (vs : List Value) (t : TypeId) (b : Nat) (hb : b = w.heap.size) : ∀ j u, vs[j]? = some u → (w.alloc (.cells vs.toArray t)).cell? ((⟨b, 0, none⟩ : Addr).add j) = some u := by
  subst hb
  intro j u hj
  rw [Addr.add_lit, Nat.zero_add]
  unfold World.cell?
  simp only [heap_alloc_new]
  simpa using hj
theorem one1 {a : Value} (ha : a.oneCell' = true) : ∀ u ∈ [a], u.oneCell' = true := by simpa using ha
theorem one2 {a b : Value} (ha : a.oneCell' = true) (hb : b.oneCell' = true) : ∀ u ∈ [a, b], u.oneCell' = true := by
  intro u hu
  simp at hu
  rcases hu with rfl | rfl <;> assumption

theorem not_own {w : World} {base : Nat} {e t : TypeId} {size : Nat} {v : Value} {n : Nat} {xs : List Value} (h : OwnS w base e size v n xs) {k : Nat} {c : Array Value} {fr : Nat × Nat} (hk : w.heap[k]? = some (.cells c t fr)) (hne : e ≠ t) : some k ≠ v.ownBlock := by
  intro e'
  exact own_other h hk hne k e'.symm rfl

section
variable {w w' : World} {base : Nat} {e t : TypeId} {size : Nat} {v : Value} {n : Nat} {xs : List Value}
/-- What append does to a slice leaves a block of another mark. -/
theorem grown_box (h : OwnS w base e size v n xs) {o : Obj} (hg : (w.alloc o).grownBy w' v.ownBlock) {k : Nat} {c : Array Value} {fr : Nat × Nat} (hk : w.heap[k]? = some (.cells c t fr)) (hne : e ≠ t) : w'.heap[k]? = some (.cells c t fr) := by
  rw [hg.block k (by simp; exact Nat.lt_succ_of_lt (blk_lt hk)) (not_own h hk hne), Below.heap_alloc w o k (blk_lt hk)]
  exact hk
theorem grown_keeps (h : OwnS w base e size v n xs) {o : Obj} (hg : (w.alloc o).grownBy w' v.ownBlock) (hne : e ≠ t) : Keeps t w w' := fun g cur fr hk => grown_box h hg hk hne
theorem grown_own {base2 : Nat} {size2 : Nat} {v2 : Value} {n2 : Nat} {xs2 : List Value} (h : OwnS w base e size v n xs) {o : Obj} (hg : (w.alloc o).grownBy w' v.ownBlock) (h2 : OwnS w base2 t size2 v2 n2 xs2) (hne : e ≠ t) : OwnS w' base2 t size2 v2 n2 xs2 := by
  refine ⟨h2.1, ?_⟩
  rcases h2.2 with h3 | ⟨g, off, cap, cur, rfl, h4, h5, r⟩
  · exact .inl h3
  · exact .inr ⟨g, off, cap, cur, rfl, h4, grown_box h hg h5 hne, r⟩
theorem grown_below (h : OwnS w base e size v n xs) {o : Obj} (hg : (w.alloc o).grownBy w' v.ownBlock) (hb : base ≤ w.heap.size) : Below base w w' := by
  refine ⟨hg.os, hg.tape, hg.output, ?_, fun k hk => ?_⟩
  · have := hg.size; simp at this; omega
  · rw [hg.block k (by simp; omega) ?_, Below.heap_alloc w o k (by omega)]
    intro e'
    have := (h.lt k e'.symm).1
    omega
theorem OwnS.set_other (h : OwnS w base e size v n xs) {b i : Nat} {c : Array Value} {fr : Nat × Nat} (hb : w.heap[b]? = some (.cells c t fr)) (hne : e ≠ t) (u : Value) : OwnS (w.setCell ⟨b, i, none⟩ u) base e size v n xs :=
  h.of_block fun k hk => Below.heap_setCell _ _ _ _ (own_other h hb hne k hk)
end

/-- append, not laid open: so that an equation on its run can be met by the walk. -/
def appLater (ats : Array TypeId) (ty : TypeId) (args : Array Value) : Sem Next := do pure (.value (← Builtin.append_ ats ty args))
theorem run_execOp_append (P : Program) (ρ : Operand → Value) (dst : Option Tmp) (xs : Array Operand) (ats : Array TypeId) (ty : TypeId) (pos : String) (after : Array Edge) (guard : Option (Nat × Bool)) (w : World) :
    (execOp ρ { dst, op := .call { callee := .builtin .append, args := xs, argTypes := ats }, type := ty, pos, after, guard }).run P w = (appLater ats ty (xs.map ρ)).run P w := rfl
theorem run_appLater {P : Program} {ats : Array TypeId} {ty : TypeId} {args : Array Value} {w w' : World} {v : Value} (h : (Builtin.append_ ats ty args).run P w = .ok v w') : (appLater ats ty args).run P w = .ok (.value v) w' := by
  unfold appLater
  rw [Sem.run_bind, h]
  rfl
/-- One element that lies in a new block of its own, appended in a region that draws. -/
theorem app_later (W : World) (base : Nat) (t e : TypeId) (z : Value) (size bytes : Nat) (ht : Tryz.prog.underlying t = some (.slice e)) (hinf : (Tryz.prog.info? e).map (fun i => (i.zero, i.size, i.bytes)) = some (some z, size, bytes)) (hzs : z.cells.size = size) (hsz : 0 < size)
    (v : Value) (n : Nat) (xs : List Value) (hown : OwnS W base e size v n xs) (news : List Value) (hl : news.length = size) (h1 : ∀ u ∈ news, u.oneCell' = true) (h63 : n + 1 ≤ maxLen) (hbytes : (n + 1) * bytes ≤ 140737488355328) (hbase : base ≤ W.heap.size) :
    ∃ g off cap w3, (∀ ty, (appLater #[t, t] ty #[v, .slice (some ⟨W.heap.size, 0, none⟩) 1 1]).run Tryz.prog ((W.alloc (.cells news.toArray e)).drew) = .ok (.value (.slice (some ⟨g, off, none⟩) (n + 1) cap)) w3) ∧
      OwnS w3 base e size (.slice (some ⟨g, off, none⟩) (n + 1) cap) (n + 1) (xs ++ news) ∧ (W.alloc (.cells news.toArray e)).grownBy w3 v.ownBlock ∧ (v.ownBlock = some g ∨ g = W.heap.size + 1) ∧ g < w3.heap.size := by
  cases hq : Tryz.prog.info? e with
  | none => simp [hq] at hinf
  | some i =>
    simp [hq] at hinf
    obtain ⟨hz0, hz1, hz2⟩ := hinf
    obtain ⟨g, off, cap, w3, hr, h2, h3, h4, h5⟩ := run_append_ownS (P := Tryz.prog) ((W.alloc (.cells news.toArray e)).drew) base t 0 e i z size bytes ht hq hz0 hz1 hz2 hzs hsz v n xs ((hown.alloc _).of_block (fun _ _ => rfl)) ⟨W.heap.size, 0, none⟩ 1 1 news (by simpa using hl) (cell_newL W news e _ rfl) h1 (by decide) h63 hbytes (by simp; omega)
    exact ⟨g, off, cap, w3, fun ty => run_appLater (ty := ty) hr, h2, ⟨h3.1, h3.2, h3.3, h3.4, h3.5⟩, by simpa using h4, h5⟩

/-- A variable of two cells, in a box of its own, behind a call that came in between. -/
theorem var2_after {w w1 : World} {t : TypeId} {x y : Value} (hb : Below (w.alloc (.cells #[x, y] t)).heap.size (w.alloc (.cells #[x, y] t)) w1) :
    w1.cell? ⟨w.heap.size, 0, none⟩ = some x ∧ w1.cell? ⟨w.heap.size, 1, none⟩ = some y ∧ w1.frozen? ⟨w.heap.size, 0, none⟩ = false ∧ w1.frozen? ⟨w.heap.size, 1, none⟩ = false ∧
    (∀ u, (w1.setCell ⟨w.heap.size, 0, none⟩ u).cell? ⟨w.heap.size, 0, none⟩ = some u) ∧ (∀ v u, ((w1.setCell ⟨w.heap.size, 0, none⟩ v).setCell ⟨w.heap.size, 1, none⟩ u).cell? ⟨w.heap.size, 1, none⟩ = some u) ∧
    (∀ v u, Below w.heap.size w ((w1.setCell ⟨w.heap.size, 0, none⟩ v).setCell ⟨w.heap.size, 1, none⟩ u)) ∧ w.heap.size + 1 ≤ w1.heap.size := by
  have hbox := hb.block w.heap.size (by simp)
  rw [heap_alloc_new] at hbox
  have p0 : w1.cell? ⟨w.heap.size, 0, none⟩ = some x := by simp [World.cell?, hbox]
  have p1 : w1.cell? ⟨w.heap.size, 1, none⟩ = some y := by simp [World.cell?, hbox]
  refine ⟨p0, p1, by simp [World.frozen?, hbox], by simp [World.frozen?, hbox], fun u => World.cell?_setCell_same _ _ _ p0, fun v u => World.cell?_setCell_same _ _ _ (u := y) ?_, fun v u => ?_, ?_⟩
  · rw [World.cell?_setCell_other _ _ _ _ (by simp)]; exact p1
  · exact ((((Below.refl _ _).alloc (Nat.le_refl _) _).trans (hb.mono (by simp))).setCell (Nat.le_refl _) _).setCell (Nat.le_refl _) _
  · have := hb.size; simpa using this

end Go.Proofs.YtbddcodljmglfaaGreatDoor
