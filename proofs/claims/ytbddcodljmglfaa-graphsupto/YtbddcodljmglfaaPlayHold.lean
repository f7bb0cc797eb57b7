/- What is held, while a list is filled and grown. -/
import Derived.Test.YtbddcodljmglfaaOwn2
set_option linter.unusedSimpArgs false
set_option linter.unusedVariables false
namespace Go.Proofs.Ytbddcodljmglfaa
open Go.RowKit

theorem OwnS.setAt {w : World} {base : Nat} {e : TypeId} {g off n cap : Nat} {xs : List Value} (h : OwnS w base e 1 (.slice (some ⟨g, off, none⟩) n cap) n xs) (k : Nat) (u : Value) : OwnS (w.setCell ⟨g, off + k, none⟩ u) base e 1 (.slice (some ⟨g, off, none⟩) n cap) n (xs.set k u) := by
  refine ⟨by simpa using h.1, ?_⟩
  rcases h.2 with ⟨h1, _⟩ | ⟨g', off', cap', cur, h1, hb, hg, hnc, hcm, hcs, hc⟩
  · simp at h1
  · simp at h1
    obtain ⟨⟨rfl, rfl⟩, rfl⟩ := h1
    refine .inr ⟨g, off, cap, cur.setIfInBounds (off + k) u, rfl, hb, by simp [World.setCell, Array.getElem?_modify, hg], hnc, hcm, by simpa using hcs, fun j u' hj => ?_⟩
    rw [List.getElem?_set] at hj
    by_cases e : k = j
    · subst e
      rw [if_pos rfl] at hj
      split at hj
      · simp at hj
        subst hj
        have hlt : off + k < cur.size := by
          have := h.1
          omega
        simp [hlt]
      · simp at hj
    · rw [if_neg e] at hj
      rw [Array.getElem?_setIfInBounds_ne (by omega)]
      exact hc j u' hj

theorem OwnS.cellAt {w : World} {base : Nat} {e : TypeId} {g off n cap : Nat} {xs : List Value} (h : OwnS w base e 1 (.slice (some ⟨g, off, none⟩) n cap) n xs) {k : Nat} (hk : k < n) : (∃ u, w.cell? ⟨g, off + k, none⟩ = some u ∧ xs[k]? = some u) ∧ w.frozen? ⟨g, off + k, none⟩ = false := by
  rcases h.2 with ⟨h1, _⟩ | ⟨g', off', cap', cur, h1, hb, hg, hnc, hcm, hcs, hc⟩
  · simp at h1
  · simp at h1
    obtain ⟨⟨rfl, rfl⟩, rfl⟩ := h1
    have hl : k < xs.length := by rw [h.1]; omega
    have := hc k xs[k] (by simp [hl])
    exact ⟨⟨xs[k], by simp [World.cell?, hg, this], by simp [hl]⟩, by simp [World.frozen?, hg]⟩

theorem OwnS.some_of_pos {w : World} {base : Nat} {e : TypeId} {size : Nat} {v : Value} {n : Nat} {xs : List Value} (h : OwnS w base e size v n xs) (hn : 0 < n) : ∃ g off cap, v = .slice (some ⟨g, off, none⟩) n cap := by
  rcases h.2 with ⟨_, h1⟩ | ⟨g, off, cap, cur, h1, _⟩
  · omega
  · exact ⟨g, off, cap, h1⟩

def fillTo (xs : List Value) (k : Nat) (m : Int) : List Value := marks k m ++ xs.drop k
theorem fillTo_succ {xs : List Value} {k : Nat} {m : Int} (h : k < xs.length) : (fillTo xs k m).set k (.int .i64 m) = fillTo xs (k + 1) m := by
  apply List.ext_getElem?
  intro j
  simp only [fillTo, marks, List.getElem?_set, List.getElem?_append, List.length_append, List.length_replicate, List.length_drop, List.getElem?_replicate, List.getElem?_drop]
  by_cases e : k = j
  · subst e
    rw [if_pos rfl, if_pos (by omega), if_pos (by omega), if_pos (by omega)]
  · rw [if_neg e]
    by_cases h1 : j < k
    · rw [if_pos h1, if_pos h1, if_pos (by omega), if_pos (by omega)]
    · rw [if_neg h1, if_neg (by omega)]
      congr 1
      omega
theorem fillTo_all {xs : List Value} {n : Nat} {m : Int} (h : xs.length = n) : fillTo xs n m = marks n m := by
  unfold fillTo
  rw [List.drop_of_length_le (by omega), List.append_nil]

section
variable {w0 wx w3 : World} {κ : Nat → Role} {bw : Nat} {vg vr vh : Value} {G : List GSt} {N : Nat} {H : List HSt}

theorem PlIn.setN (h : PlIn w0 wx κ bw vg vr vh G N H) (N' : Nat) : PlIn w0 (wx.setCell ⟨bw, 2, none⟩ (.int .i64 N')) κ bw vg vr vh G N' H := by
  have hbw := h.khead
  have hk : ∀ k, κ k ≠ .head → (wx.setCell ⟨bw, 2, none⟩ (.int .i64 (N' : Int))).heap[k]? = wx.heap[k]? := fun k hne => Below.heap_setCell _ _ _ _ (fun e => hne (by rw [e]; exact hbw.1))
  refine ⟨by simp [World.setCell, Array.getElem?_modify, h.head], h.gs.of_block fun k hk' => hk k (by rw [h.kgs k hk']; simp), h.rs.of_block fun k hk' => hk k (by rw [h.krs k hk']; simp), h.hs.of_block fun k hk' => hk k (by rw [h.khs k hk']; simp), fun i x hx => ?_, h.kgr, fun e he => ?_, hbw, h.kgs, h.krs, h.khs, fun k hl => h.fresh k (by simpa [World.setCell] using hl), h.bel.setCell (by simp; exact hbw.2) _⟩
  · obtain ⟨g1, g2⟩ := h.gr i x hx
    obtain ⟨k1, k2, k3, k4⟩ := h.kgr i x hx
    exact ⟨g1.of_block (hk _ (by rw [k1.1]; simp)) (hk _ (by rw [k2.1]; simp)) (hk _ (by rw [k3.1]; simp)), g2.of_block (hk _ (by rw [k4.1]; simp))⟩
  · obtain ⟨r1, r2, r3⟩ := h.lists e he
    exact ⟨r1.of_block fun k hk' => hk k (by rw [(r3 k hk').1]; simp), r2, fun k hk' => ⟨(r3 k hk').1, by have := (r3 k hk').2; simpa [World.setCell] using this⟩⟩

theorem PlIn.relabel (h : PlIn w0 wx κ bw vg vr vh G N H) {κ' : Nat → Role} (h1 : ∀ k, κ k ≠ .other → κ' k = κ k) (h2 : ∀ k, wx.heap.size ≤ k → κ' k = .other) : PlIn w0 wx κ' bw vg vr vh G N H := by
  refine ⟨h.head, h.gs, h.rs, h.hs, h.gr, fun i x hx => ?_, fun e he => ?_, ⟨?_, h.khead.2⟩, fun k hk => ?_, fun k hk => ?_, fun k hk => ?_, h2, h.bel⟩
  · obtain ⟨k1, k2, k3, k4⟩ := h.kgr i x hx
    exact ⟨⟨by rw [h1 _ (by rw [k1.1]; simp)]; exact k1.1, k1.2⟩, ⟨by rw [h1 _ (by rw [k2.1]; simp)]; exact k2.1, k2.2⟩, ⟨by rw [h1 _ (by rw [k3.1]; simp)]; exact k3.1, k3.2⟩, ⟨by rw [h1 _ (by rw [k4.1]; simp)]; exact k4.1, k4.2⟩⟩
  · obtain ⟨r1, r2, r3⟩ := h.lists e he
    exact ⟨r1, r2, fun k hk => ⟨by rw [h1 k (by rw [(r3 k hk).1]; simp)]; exact (r3 k hk).1, (r3 k hk).2⟩⟩
  · rw [h1 _ (by rw [h.khead.1]; simp)]; exact h.khead.1
  · rw [h1 _ (by rw [h.kgs k hk]; simp)]; exact h.kgs k hk
  · rw [h1 _ (by rw [h.krs k hk]; simp)]; exact h.krs k hk
  · rw [h1 _ (by rw [h.khs k hk]; simp)]; exact h.khs k hk

/-- Those held that lie where the list lies are its beginnings. -/
def Pre (H : List HSt) (sg : Value) (n : Nat) (m : Int) : Prop := ∀ e ∈ H, ∀ k, e.v.ownBlock = some k → sg.ownBlock = some k → ∃ off cap cap', e.v = .slice (some ⟨k, off, none⟩) e.len cap ∧ sg = .slice (some ⟨k, off, none⟩) n cap' ∧ e.len ≤ n ∧ e.mark = m

theorem PlIn.pushG (h : PlIn w0 wx κ bw vg vr vh G N H) {o : Obj} {g' off' cap' n : Nat} {sg : Value} {m : Int} (hsg : OwnS wx w0.heap.size 3 1 sg n (marks n m)) (hkg : ∀ k, sg.ownBlock = some k → κ k = .held) (hpre : Pre H sg n m)
    (hown : OwnS w3 w0.heap.size 3 1 (.slice (some ⟨g', off', none⟩) (n + 1) cap') (n + 1) (marks n m ++ [.int .i64 m])) (hgrow : (wx.alloc o).grownBy w3 sg.ownBlock) (hloc : (∃ cap0, sg = .slice (some ⟨g', off', none⟩) n cap0) ∨ (g' = (wx.alloc o).heap.size ∧ ∀ k, k < (wx.alloc o).heap.size → w3.heap[k]? = (wx.alloc o).heap[k]?)) (hlt : g' < w3.heap.size) :
    PlIn w0 w3 (fun k => if k = g' then .held else κ k) bw vg vr vh G N H ∧ Pre H (.slice (some ⟨g', off', none⟩) (n + 1) cap') (n + 1) m := by
  have hsz : wx.heap.size ≤ w3.heap.size := by have := hgrow.size; simp at this; omega
  have hg' : ∀ k, k < wx.heap.size → κ k ≠ .held → k ≠ g' := by
    intro k hk hne e
    subst e
    rcases hloc with ⟨c, hc⟩ | ⟨hc, _⟩
    · exact hne (hkg k (by rw [hc]; rfl))
    · simp at hc; omega
  have hk3 : ∀ k, k < wx.heap.size → κ k ≠ .held → w3.heap[k]? = wx.heap[k]? := by
    intro k hk hne
    rw [hgrow.block k (by simp; omega) (fun e => hne (hkg k e.symm))]
    exact Below.heap_alloc _ _ _ hk
  have κ1 : ∀ k r, k < wx.heap.size → κ k = r → r ≠ .held → (if k = g' then Role.held else κ k) = r := fun k r hl e hne => by rw [if_neg (hg' k hl (by rw [e]; exact hne))]; exact e
  have hm' : marks n m ++ [.int .i64 m] = marks (n + 1) m := by simp [marks, List.replicate_succ']
  refine ⟨⟨(hk3 _ h.bwLt (by rw [h.khead.1]; simp)).trans h.head, h.gs.of_block fun k hk' => hk3 k (h.gs.lt k hk').2 (by rw [h.kgs k hk']; simp), h.rs.of_block fun k hk' => hk3 k (h.rs.lt k hk').2 (by rw [h.krs k hk']; simp), h.hs.of_block fun k hk' => hk3 k (h.hs.lt k hk').2 (by rw [h.khs k hk']; simp), fun i x hx => ?_, fun i x hx => ?_, fun e he => ?_, ⟨κ1 _ _ h.bwLt h.khead.1 (by simp), h.khead.2⟩, fun k hk' => κ1 k _ (h.gs.lt k hk').2 (h.kgs k hk') (by simp), fun k hk' => κ1 k _ (h.rs.lt k hk').2 (h.krs k hk') (by simp), fun k hk' => κ1 k _ (h.hs.lt k hk').2 (h.khs k hk') (by simp), fun k hl => ?_, ?_⟩, ?_⟩
  · obtain ⟨g1, g2⟩ := h.gr i x hx
    obtain ⟨k1, k2, k3, k4⟩ := h.kgr i x hx
    exact ⟨g1.of_block (hk3 _ g1.pLt (by rw [k1.1]; simp)) (hk3 _ g1.mLt (by rw [k2.1]; simp)) (hk3 _ g1.qLt (by rw [k3.1]; simp)), g2.of_block (hk3 _ g2.gLt (by rw [k4.1]; simp))⟩
  · obtain ⟨g1, g2⟩ := h.gr i x hx
    obtain ⟨k1, k2, k3, k4⟩ := h.kgr i x hx
    exact ⟨⟨κ1 _ _ g1.pLt k1.1 (by simp), k1.2⟩, ⟨κ1 _ _ g1.mLt k2.1 (by simp), k2.2⟩, ⟨κ1 _ _ g1.qLt k3.1 (by simp), k3.2⟩, ⟨κ1 _ _ g2.gLt k4.1 (by simp), k4.2⟩⟩
  · obtain ⟨r1, r2, r3⟩ := h.lists e he
    refine ⟨?_, r2, fun k hk' => ⟨?_, Nat.lt_of_lt_of_le (r3 k hk').2 hsz⟩⟩
    · by_cases hin : ∃ k, e.v.ownBlock = some k ∧ sg.ownBlock = some k
      · obtain ⟨k, hk1, hk2⟩ := hin
        obtain ⟨off, cap, cap2, he1, he2, he3, he4⟩ := hpre e he k hk1 hk2
        rcases hloc with ⟨c, hc⟩ | ⟨hc, hc2⟩
        · rw [he2] at hc
          simp only [Value.slice.injEq, Option.some.injEq, Addr.mk.injEq] at hc
          obtain ⟨⟨rfl, rfl, _⟩, _⟩ := hc
          refine ⟨by simp [marks], some ⟨k, off, none⟩, cap, he1, .inr ⟨k, off, rfl, fun j u hj => ?_⟩⟩
          have hjl : j < e.len := by have := (List.getElem?_eq_some_iff.1 hj).1; simpa [marks] using this
          rw [marks_get hjl] at hj
          simp at hj
          obtain ⟨⟨u2, hu2, hu3⟩, -⟩ := hown.cellAt (k := j) (by omega)
          rw [hm', marks_get (by omega)] at hu3
          simp at hu3
          rw [hu2, ← hu3, ← hj, he4]
        · exact r1.of_block fun k' hk' => (hc2 k' (by have := (r3 k' hk').2; simp; omega)).trans (Below.heap_alloc _ _ _ (r3 k' hk').2)
      · refine r1.of_block fun k hk' => ?_
        rw [hgrow.block k (by have := (r3 k hk').2; simp; omega) (fun e2 => hin ⟨k, hk', e2.symm⟩)]
        exact Below.heap_alloc _ _ _ (r3 k hk').2
    · show (if k = g' then Role.held else κ k) = .held
      split
      · rfl
      · exact (r3 k hk').1
  · show (if k = g' then Role.held else κ k) = .other
    rw [if_neg (by omega)]
    exact h.fresh k (by omega)
  · exact (h.bel.alloc h.bel.size o).grown hgrow (by have := h.bel.size; simp; omega) (fun j hj => (hsg.lt j hj).1)
  · intro e he k hk1 hk2
    have e1 : g' = k := by simpa [Value.ownBlock] using hk2
    subst e1
    rcases hloc with ⟨c, hc⟩ | ⟨hc, _⟩
    · obtain ⟨off, cap, cap2, he1, he2, he3, he4⟩ := hpre e he g' hk1 (by rw [hc]; rfl)
      rw [hc] at he2
      simp only [Value.slice.injEq, Option.some.injEq, Addr.mk.injEq] at he2
      obtain ⟨⟨_, rfl, _⟩, _⟩ := he2
      exact ⟨off', cap, cap', he1, rfl, by omega, he4⟩
    · have := ((h.lists e he).2.2 g' hk1).2
      simp at hc
      omega
end

end Go.Proofs.Ytbddcodljmglfaa
