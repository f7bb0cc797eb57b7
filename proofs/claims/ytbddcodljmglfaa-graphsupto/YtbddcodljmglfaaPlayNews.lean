/- news: one graph more, and the document's beside it. -/
import Derived.Test.YtbddcodljmglfaaPlayInts
set_option linter.unusedSimpArgs false
set_option linter.unusedVariables false
namespace Go.Proofs.Ytbddcodljmglfaa
open Go.RowKit

theorem infoGP : (Try.prog.info? 31).map (fun i => (i.zero, i.size, i.bytes)) = some (some (.pointer none), 1, 8) := by kernel_rfl
theorem infoRP : (Try.prog.info? 62).map (fun i => (i.zero, i.size, i.bytes)) = some (some (.pointer none), 1, 8) := by kernel_rfl

section
variable {w0 wx wy w3 : World} {κ : Nat → Role} {bw : Nat} {vg vr vh vg' vr' : Value} {G : List GSt} {N : Nat} {H : List HSt}

def newRole (κ : Nat → Role) (vg' vr' : Value) (x : GSt) (i : Nat) (k : Nat) : Role :=
  if vg'.ownBlock = some k then .gs else if vr'.ownBlock = some k then .rs else if k = x.p then .mem i 0 else if k = x.m then .mem i 1 else if k = x.q then .mem i 2 else if k = x.g then .mem i 3 else κ k

theorem PlIn.newG (h : PlIn w0 wx κ bw vg vr vh G N H) {B1 : Nat} (hg : Grew wx wy (fun k => κ k = .gs ∨ κ k = .rs ∨ κ k = .head)) (hhead : wy.heap[bw]? = some (.cells #[vg', vr', .int .i64 N, vh] 52 (0, 0)))
    (x : GSt) (hgs : OwnS wy w0.heap.size 31 1 vg' (G.length + 1) (G.map gptr ++ [gptr x])) (hrs : OwnS wy w0.heap.size 62 1 vr' (G.length + 1) (G.map rptr ++ [rptr x]))
    (hvg : ∀ k, vg'.ownBlock = some k → (κ k = .gs ∧ k < wx.heap.size) ∨ B1 ≤ k) (hvr : ∀ k, vr'.ownBlock = some k → (κ k = .rs ∧ k < wx.heap.size) ∨ B1 ≤ k) (hne : ∀ k, vg'.ownBlock = some k → vr'.ownBlock ≠ some k)
    (h1 : GraphIn wy x.p x.m x.q x.n x.L x.D) (h2 : RefIn wy x.g x.n x.L x.D) (hB : wx.heap.size ≤ B1)
    (lp : wx.heap.size ≤ x.p ∧ x.p < B1) (lm : wx.heap.size ≤ x.m ∧ x.m < B1) (lq : wx.heap.size ≤ x.q ∧ x.q < B1) (lg : wx.heap.size ≤ x.g ∧ x.g < B1) (hd : x.g ≠ x.p ∧ x.g ≠ x.m ∧ x.g ≠ x.q) (hbel : Below w0.heap.size w0 wy) :
    PlIn w0 wy (newRole κ vg' vr' x G.length) bw vg' vr' vh (G ++ [x]) N H := by
  have hk : ∀ k, k < wx.heap.size → κ k ≠ .gs → κ k ≠ .rs → κ k ≠ .head → wy.heap[k]? = wx.heap[k]? := fun k hl a b c => hg.block k (fun hm => by rcases hm with h | h | h; exact a h; exact b h; exact c h) hl
  have hr : ∀ k, k < wx.heap.size → κ k ≠ .gs → κ k ≠ .rs → newRole κ vg' vr' x G.length k = κ k := by
    intro k hl a b
    have n1 : vg'.ownBlock ≠ some k := fun e => by rcases hvg k e with h | h; exact a h.1; omega
    have n2 : vr'.ownBlock ≠ some k := fun e => by rcases hvr k e with h | h; exact b h.1; omega
    simp only [newRole, if_neg n1, if_neg n2, if_neg (show k ≠ x.p by omega), if_neg (show k ≠ x.m by omega), if_neg (show k ≠ x.q by omega), if_neg (show k ≠ x.g by omega)]
  have hmem : ∀ k, wx.heap.size ≤ k → k < B1 → vg'.ownBlock ≠ some k ∧ vr'.ownBlock ≠ some k := by
    intro k hl hl2
    exact ⟨fun e => by rcases hvg k e with h | h <;> omega, fun e => by rcases hvr k e with h | h <;> omega⟩
  have hb := h.bel.size
  refine ⟨hhead, by simpa using hgs, by simpa using hrs, ?_, fun i y hy => ?_, fun i y hy => ?_, fun e he => ?_, ⟨?_, h.khead.2⟩, fun k hk' => ?_, fun k hk' => ?_, fun k hk' => ?_, fun k hl => ?_, hbel⟩
  · refine h.hs.of_block fun k hk' => ?_
    have := h.khs k hk'
    exact hk k (h.hs.lt k hk').2 (by rw [this]; simp) (by rw [this]; simp) (by rw [this]; simp)
  · rw [List.getElem?_append] at hy
    split at hy
    · obtain ⟨g1, g2⟩ := h.gr i y hy
      obtain ⟨k1, k2, k3, k4⟩ := h.kgr i y hy
      have kk : ∀ k j, κ k = .mem i j → k < wx.heap.size → wy.heap[k]? = wx.heap[k]? := fun k j e hl => hk k hl (by rw [e]; simp) (by rw [e]; simp) (by rw [e]; simp)
      exact ⟨g1.of_block (kk _ _ k1.1 g1.pLt) (kk _ _ k2.1 g1.mLt) (kk _ _ k3.1 g1.qLt), g2.of_block (kk _ _ k4.1 g2.gLt)⟩
    · have hi : i - G.length = 0 := by
        rcases Nat.eq_zero_or_pos (i - G.length) with h' | h'
        · exact h'
        · rw [List.getElem?_eq_none (by simp; omega)] at hy
          simp at hy
      rw [hi] at hy
      simp at hy
      subst hy
      exact ⟨h1, h2⟩
  · rw [List.getElem?_append] at hy
    split at hy
    · obtain ⟨g1, g2⟩ := h.gr i y hy
      obtain ⟨k1, k2, k3, k4⟩ := h.kgr i y hy
      have kk : ∀ k j, κ k = .mem i j → k < wx.heap.size → newRole κ vg' vr' x G.length k = .mem i j := fun k j e hl => by rw [hr k hl (by rw [e]; simp) (by rw [e]; simp)]; exact e
      exact ⟨⟨kk _ _ k1.1 g1.pLt, k1.2⟩, ⟨kk _ _ k2.1 g1.mLt, k2.2⟩, ⟨kk _ _ k3.1 g1.qLt, k3.2⟩, ⟨kk _ _ k4.1 g2.gLt, k4.2⟩⟩
    · rename_i hge
      have hi : i - G.length = 0 := by
        rcases Nat.eq_zero_or_pos (i - G.length) with h' | h'
        · exact h'
        · rw [List.getElem?_eq_none (by simp; omega)] at hy
          simp at hy
      rw [hi] at hy
      simp at hy
      subst hy
      have ei : i = G.length := by omega
      subst ei
      obtain ⟨a1, a2⟩ := hmem x.p lp.1 lp.2
      obtain ⟨b1, b2⟩ := hmem x.m lm.1 lm.2
      obtain ⟨c1, c2⟩ := hmem x.q lq.1 lq.2
      obtain ⟨d1, d2⟩ := hmem x.g lg.1 lg.2
      have pm := h1.pm
      have qm := h1.qm
      have pq := h1.pq
      refine ⟨⟨?_, by omega⟩, ⟨?_, by omega⟩, ⟨?_, by omega⟩, ⟨?_, by omega⟩⟩
      · simp [newRole, a1, a2]
      · simp [newRole, b1, b2, show ¬ x.m = x.p from fun e => pm e.symm]
      · simp [newRole, c1, c2, show ¬ x.q = x.p from fun e => pq e.symm, show ¬ x.q = x.m from qm]
      · simp [newRole, d1, d2, hd.1, hd.2.1, hd.2.2]
  · obtain ⟨r1, r2, r3⟩ := h.lists e he
    refine ⟨r1.of_block fun k hk' => ?_, r2, fun k hk' => ⟨?_, Nat.lt_of_lt_of_le (r3 k hk').2 hg.size⟩⟩
    · have := (r3 k hk').1
      exact hk k (r3 k hk').2 (by rw [this]; simp) (by rw [this]; simp) (by rw [this]; simp)
    · have := (r3 k hk').1
      rw [hr k (r3 k hk').2 (by rw [this]; simp) (by rw [this]; simp)]
      exact this
  · rw [hr bw h.bwLt (by rw [h.khead.1]; simp) (by rw [h.khead.1]; simp)]
    exact h.khead.1
  · simp [newRole, hk']
  · have n1 : vg'.ownBlock ≠ some k := fun e => hne k e hk'
    simp [newRole, n1, hk']
  · have := h.khs k hk'
    rw [hr k (h.hs.lt k hk').2 (by rw [this]; simp) (by rw [this]; simp)]
    exact this
  · have n1 : vg'.ownBlock ≠ some k := fun e => by have := (hgs.lt k e).2; omega
    have n2 : vr'.ownBlock ≠ some k := fun e => by have := (hrs.lt k e).2; omega
    have s1 := h1.pLt
    have s2 := h1.mLt
    have s3 := h1.qLt
    have s4 := h2.gLt
    simp only [newRole, if_neg n1, if_neg n2, if_neg (show k ≠ x.p by omega), if_neg (show k ≠ x.m by omega), if_neg (show k ≠ x.q by omega), if_neg (show k ≠ x.g by omega)]
    exact h.fresh k (by have := hg.size; omega)

/-- A push onto a row whose blocks have the role r, noted in the head. -/
theorem grew_push {v : Value} {r : Role} {o : Obj} {q : Nat} {u : Value} (hgrow : (wx.alloc o).grownBy w3 v.ownBlock) (hv : ∀ k, v.ownBlock = some k → κ k = r) (hb : κ bw = .head) : Grew wx (w3.setCell ⟨bw, q, none⟩ u) (fun k => κ k = r ∨ κ k = .head) := by
  have hsz : wx.heap.size ≤ w3.heap.size := by have := hgrow.size; simp at this; omega
  refine ⟨hgrow.os, hgrow.tape, hgrow.output, by simp [World.setCell]; omega, fun k hm hl => ?_⟩
  rw [Below.heap_setCell _ _ _ _ (fun e => hm (.inr (by rw [show k = bw from e]; exact hb))), hgrow.block k (by simp; omega) (fun e => hm (.inl (hv k e.symm)))]
  exact Below.heap_alloc _ _ _ hl
end

theorem ptrOne (p : Option Addr) : ∀ u ∈ [Value.pointer p], u.oneCell' = true := by
  intro u hu
  simp at hu
  subst hu
  rfl

section
variable {w0 w w2 w3 w5 : World} {κ : Nat → Role} {bw : Nat} {vg vr vh : Value} {G : List GSt} {N : Nat} {H : List HSt}

theorem head_stays {W W' : World} {o : Obj} {v : Value} {c : Array Value} (hh : W.heap[bw]? = some (.cells c 52 (0, 0))) (hgrow : (W.alloc o).grownBy W' v.ownBlock) (hv : v.ownBlock ≠ some bw) : W'.heap[bw]? = some (.cells c 52 (0, 0)) := by
  have := blk_lt hh
  rw [hgrow.block bw (by simp; omega) (fun e => hv e.symm), Below.heap_alloc _ _ _ this]
  exact hh

theorem PlIn.ngs (h : PlIn w0 w κ bw vg vr vh G N H) : vg.ownBlock ≠ some bw := fun e => by have := h.kgs bw e; rw [h.khead.1] at this; simp at this
theorem PlIn.nrs (h : PlIn w0 w κ bw vg vr vh G N H) : vr.ownBlock ≠ some bw := fun e => by have := h.krs bw e; rw [h.khead.1] at this; simp at this

theorem news_mid (h : PlIn w0 w2 κ bw vg vr vh G N H) {o : Obj} (hgrow : (w2.alloc o).grownBy w3 vg.ownBlock) (new : Value) :
    w3.cell? ⟨bw, 0, none⟩ = some vg ∧ w3.frozen? ⟨bw, 0, none⟩ = false ∧ (w3.setCell ⟨bw, 0, none⟩ new).heap[bw]? = some (.cells #[new, vr, .int .i64 N, vh] 52 (0, 0)) ∧ OwnS (w3.setCell ⟨bw, 0, none⟩ new) w0.heap.size 62 1 vr G.length (G.map rptr) ∧ w0.heap.size ≤ w3.heap.size := by
  have hh := head_stays h.head hgrow h.ngs
  have hsz := hgrow.size
  simp at hsz
  refine ⟨by simp [World.cell?, hh], by simp [World.frozen?, hh], by simp [World.setCell, Array.getElem?_modify, hh], ?_, by have := h.bel.size; omega⟩
  refine h.rs.of_block fun k hk => ?_
  have e1 := h.krs k hk
  rw [Below.heap_setCell _ _ _ _ (fun e => h.nrs (by rw [← (show k = bw from e)]; exact hk)), hgrow.block k (by have := (h.rs.lt k hk).2; simp; omega) (fun e => by have := h.kgs k e.symm; rw [e1] at this; simp at this)]
  exact Below.heap_alloc _ _ _ (h.rs.lt k hk).2

theorem news_done (h : PlIn w0 w κ bw vg vr vh G N H) (hB2 : Below w.heap.size w w2) {o o' : Obj} {p m q g n g1 off1 cap1 g2 off2 cap2 : Nat} (hG : GraphIn w2 p m q n [] (List.replicate n false)) (hR : RefIn w2 g n [] (List.replicate n false)) (lp : w.heap.size ≤ p) (lm : w.heap.size ≤ m) (lq : w.heap.size ≤ q) (lg : w.heap.size ≤ g) (hd : g ≠ p ∧ g ≠ m ∧ g ≠ q)
    (hown3 : OwnS w3 w0.heap.size 31 1 (.slice (some ⟨g1, off1, none⟩) (G.length + 1) cap1) (G.length + 1) (G.map gptr ++ [.pointer (some ⟨p, 0, none⟩)])) (hgrow3 : (w2.alloc o).grownBy w3 vg.ownBlock) (hloc3 : (∃ cap0, vg = .slice (some ⟨g1, off1, none⟩) G.length cap0) ∨ (g1 = (w2.alloc o).heap.size ∧ ∀ k, k < (w2.alloc o).heap.size → w3.heap[k]? = (w2.alloc o).heap[k]?)) (hlt3 : g1 < w3.heap.size)
    (hown5 : OwnS w5 w0.heap.size 62 1 (.slice (some ⟨g2, off2, none⟩) (G.length + 1) cap2) (G.length + 1) (G.map rptr ++ [.pointer (some ⟨g, 0, none⟩)])) (hgrow5 : ((w3.setCell ⟨bw, 0, none⟩ (.slice (some ⟨g1, off1, none⟩) (G.length + 1) cap1)).alloc o').grownBy w5 vr.ownBlock) (hloc5 : (∃ cap0, vr = .slice (some ⟨g2, off2, none⟩) G.length cap0) ∨ (g2 = ((w3.setCell ⟨bw, 0, none⟩ (.slice (some ⟨g1, off1, none⟩) (G.length + 1) cap1)).alloc o').heap.size ∧ ∀ k, k < ((w3.setCell ⟨bw, 0, none⟩ (.slice (some ⟨g1, off1, none⟩) (G.length + 1) cap1)).alloc o').heap.size → w5.heap[k]? = ((w3.setCell ⟨bw, 0, none⟩ (.slice (some ⟨g1, off1, none⟩) (G.length + 1) cap1)).alloc o').heap[k]?)) (hlt5 : g2 < w5.heap.size) :
    PlIn w0 (w5.setCell ⟨bw, 1, none⟩ (.slice (some ⟨g2, off2, none⟩) (G.length + 1) cap2)) (newRole κ (.slice (some ⟨g1, off1, none⟩) (G.length + 1) cap1) (.slice (some ⟨g2, off2, none⟩) (G.length + 1) cap2) ⟨p, m, q, g, n, [], List.replicate n false⟩ G.length) bw (.slice (some ⟨g1, off1, none⟩) (G.length + 1) cap1) (.slice (some ⟨g2, off2, none⟩) (G.length + 1) cap2) vh (G ++ [⟨p, m, q, g, n, [], List.replicate n false⟩]) N H := by
  have h2 := h.below hB2
  have hb2 := hB2.size
  have hs3 : w2.heap.size + 1 ≤ w3.heap.size := by have := hgrow3.size; simpa using this
  have hs5 : w3.heap.size + 1 ≤ w5.heap.size := by have := hgrow5.size; simpa [World.setCell] using this
  obtain ⟨-, -, hh4, hrs4, -⟩ := news_mid h2 hgrow3 (.slice (some ⟨g1, off1, none⟩) (G.length + 1) cap1)
  have hh5 := head_stays hh4 hgrow5 h2.nrs
  have gr1 : Grew w2 (w3.setCell ⟨bw, 0, none⟩ (.slice (some ⟨g1, off1, none⟩) (G.length + 1) cap1)) (fun k => κ k = .gs ∨ κ k = .head) := grew_push hgrow3 h2.kgs h2.khead.1
  have gr2 : Grew (w3.setCell ⟨bw, 0, none⟩ (.slice (some ⟨g1, off1, none⟩) (G.length + 1) cap1)) (w5.setCell ⟨bw, 1, none⟩ (.slice (some ⟨g2, off2, none⟩) (G.length + 1) cap2)) (fun k => κ k = .rs ∨ κ k = .head) := grew_push hgrow5 h2.krs h2.khead.1
  have gr3 : Grew w2 (w5.setCell ⟨bw, 1, none⟩ (.slice (some ⟨g2, off2, none⟩) (G.length + 1) cap2)) (fun k => κ k = .gs ∨ κ k = .rs ∨ κ k = .head) :=
    (gr1.mono (fun k hk => by rcases hk with hk | hk; exact .inl hk; exact .inr (.inr hk))).trans (gr2.mono (fun k hk => .inr hk))
  have hg1 : (κ g1 = .gs ∧ g1 < w.heap.size) ∨ w2.heap.size ≤ g1 := by
    rcases hloc3 with ⟨c, hc⟩ | ⟨hc, _⟩
    · exact .inl ⟨h.kgs g1 (by rw [hc]; rfl), (h.gs.lt g1 (by rw [hc]; rfl)).2⟩
    · right; simp at hc; omega
  have hg2 : (κ g2 = .rs ∧ g2 < w.heap.size) ∨ w3.heap.size ≤ g2 := by
    rcases hloc5 with ⟨c, hc⟩ | ⟨hc, _⟩
    · exact .inl ⟨h.krs g2 (by rw [hc]; rfl), (h.rs.lt g2 (by rw [hc]; rfl)).2⟩
    · right; simp [World.setCell] at hc; omega
  have hne : g1 ≠ g2 := by
    intro e
    subst e
    rcases hg1 with ⟨a, b⟩ | a
    · rcases hg2 with ⟨c, d⟩ | c
      · rw [a] at c; simp at c
      · omega
    · rcases hg2 with ⟨c, d⟩ | c <;> omega
  have hoth : ∀ k, w.heap.size ≤ k → k < w2.heap.size → (w5.setCell ⟨bw, 1, none⟩ (.slice (some ⟨g2, off2, none⟩) (G.length + 1) cap2)).heap[k]? = w2.heap[k]? := by
    intro k hk hl
    refine gr3.block k (fun hm => ?_) hl
    rw [h.fresh k hk] at hm
    simp at hm
  refine h.newG (B1 := w2.heap.size) ((Grew.of_below hB2).trans gr3) (by simp [World.setCell, Array.getElem?_modify, hh5]) ⟨p, m, q, g, n, [], List.replicate n false⟩ ?_ ?_ (fun k hk => ?_) (fun k hk => ?_) (fun k hk1 hk2 => ?_) (hG.of_block (hoth p lp hG.pLt) (hoth m lm hG.mLt) (hoth q lq hG.qLt)) (hR.of_block (hoth g lg hR.gLt)) hb2 ⟨lp, hG.pLt⟩ ⟨lm, hG.mLt⟩ ⟨lq, hG.qLt⟩ ⟨lg, hR.gLt⟩ hd ?_
  · refine OwnS.of_block (w := w3) hown3 fun k hk => ?_
    have e1 : g1 = k := by simpa [Value.ownBlock] using hk
    subst e1
    have nb : g1 ≠ bw := fun e => by
      rcases hg1 with ⟨a, _⟩ | a
      · rw [e, h.khead.1] at a; simp at a
      · have := h.bwLt; omega
    rw [Below.heap_setCell _ _ _ _ nb, hgrow5.block g1 (by simp [World.setCell]; omega) (fun e => ?_), Below.heap_alloc _ _ _ (by simp [World.setCell]; omega), Below.heap_setCell _ _ _ _ nb]
    have a1 := h.krs g1 e.symm
    have a2 := (h.rs.lt g1 e.symm).2
    rcases hg1 with ⟨a, _⟩ | a
    · rw [a1] at a; simp at a
    · omega
  · refine OwnS.of_block (w := w5) hown5 fun k hk => ?_
    have e1 : g2 = k := by simpa [Value.ownBlock] using hk
    subst e1
    refine Below.heap_setCell _ _ _ _ (fun e => ?_)
    rcases hg2 with ⟨a, _⟩ | a
    · rw [show g2 = bw from e, h.khead.1] at a; simp at a
    · have := h.bwLt
      have e2 : g2 = bw := e
      omega
  · have e1 : g1 = k := by simpa [Value.ownBlock] using hk
    subst e1
    exact hg1
  · have e1 : g2 = k := by simpa [Value.ownBlock] using hk
    subst e1
    rcases hg2 with a | a
    · exact .inl a
    · exact .inr (by omega)
  · have e1 : g1 = k := by simpa [Value.ownBlock] using hk1
    have e2 : g2 = k := by simpa [Value.ownBlock] using hk2
    omega
  · have hkb := h.khead.2
    have b4 : Below w0.heap.size w0 (w3.setCell ⟨bw, 0, none⟩ (.slice (some ⟨g1, off1, none⟩) (G.length + 1) cap1)) := ((h2.bel.alloc h2.bel.size o).grown hgrow3 (by have := h2.bel.size; simp; omega) (fun j hj => (h2.gs.lt j hj).1)).setCell (by simp; exact hkb) _
    exact ((b4.alloc b4.size o').grown hgrow5 (by have := b4.size; simp at this ⊢; omega) (fun j hj => (h2.rs.lt j hj).1)).setCell (by simp; exact hkb) _
end

set_option maxRecDepth 100000 in
set_option maxHeartbeats 4000000 in
theorem news_any (w0 w : World) (κ : Nat → Role) (bw : Nat) (vg vr vh : Value) (G : List GSt) (N : Nat) (H : List HSt) (h : PlIn w0 w κ bw vg vr vh G N H) (z : Int) (hG : G.length ≤ 10000000) :
    Calls Try.prog 22 #[.pointer (some ⟨bw, 0, none⟩), .int .i64 z] w fun e w' => e = .returned (.bool true) ∧ ∃ κ' vg' vr' G', PlIn w0 w' κ' bw vg' vr' vh G' N H ∧ G.length ≤ G'.length ∧ G'.length ≤ G.length + 1 ∧ (1 ≤ z ∧ z ≤ 40 → 1 ≤ G'.length) := by
  by_cases hz : z < 1 ∨ 40 < z
  · have HP : Hid (PlIn w0 w κ bw vg vr vh G N H) := h
    have HZ : Hid (¬ (1 ≤ z ∧ z ≤ 40)) := fun hh => by omega
    have HZ' : Hid (z < 1 ∨ 40 < z) := hz
    clear h hz
    go_enter Try.func22, Try.ntmps22
    go_wp2_with fail
    refine (new_no w z HZ'.out).mono ?_
    rintro e w' ⟨rfl, h9⟩
    replace h9 := h9.symm
    subst h9
    go_wp2_with fail
    refine (refNew_no w z HZ'.out).mono ?_
    rintro e w' ⟨rfl, h9⟩
    replace h9 := h9.symm
    subst h9
    go_wp2_with fail
    refine (num_any w 1).mono ?_
    rintro e w' ⟨rfl, h9⟩
    replace h9 := h9.symm
    subst h9
    go_wp2_with fail
    go_ret
    exact ⟨rfl, κ, vg, vr, G, HP.out, Nat.le_refl _, by omega, fun hh => absurd hh HZ.out⟩
  · obtain ⟨n, rfl⟩ : ∃ n : Nat, z = (n : Int) := ⟨z.toNat, by omega⟩
    have hn1 : 1 ≤ n := by omega
    have hn2 : n ≤ 40 := by omega
    have HP : Hid (PlIn w0 w κ bw vg vr vh G N H) := h
    clear h hz
    go_enter Try.func22, Try.ntmps22
    go_wp2_with fail
    refine (new_yes w n hn1 hn2).mono ?_
    rintro e w1 ⟨p, m, q, rfl, hB1, hp, hm, hq, hGr⟩
    have HG1 : Hid (GraphIn w1 p m q n [] (List.replicate n false) ∧ Below w.heap.size w w1 ∧ w.heap.size ≤ p ∧ w.heap.size ≤ m ∧ w.heap.size ≤ q) := ⟨hGr, hB1, hp, hm, hq⟩
    clear hGr hB1 hp hm hq
    go_wp2_with fail
    refine (refNew_yes w1 n hn1 hn2).mono ?_
    rintro e w2 ⟨rfl, hR, hB2⟩
    have HR2 : Hid (RefIn w2 w1.heap.size n [] (List.replicate n false) ∧ Below w1.heap.size w1 w2) := ⟨hR, hB2⟩
    clear hR hB2
    go_wp2_with fail
    refine (num_any w2 0).mono ?_
    rintro e w' ⟨rfl, h9⟩
    replace h9 := h9.symm
    subst h9
    have HB2 : Hid (Below w.heap.size w w2) := HG1.out.2.1.trans (HR2.out.2.mono HG1.out.2.1.size)
    have HP2 : Hid (PlIn w0 w2 κ bw vg vr vh G N H) := HP.out.below HB2.out
    have c0 := HP2.out.c0
    have f0 := HP2.out.f 0
    obtain ⟨aog, cpg, rfl⟩ := HP2.out.gs.len
    obtain ⟨aor, cpr, rfl⟩ := HP2.out.rs.len
    have hbs := HP2.out.bel.size
    have HNR : Hid ((Value.slice aor G.length cpr).ownBlock ≠ some bw) := HP2.out.nrs
    obtain ⟨i0, hi0, hz0, hz1, hz2⟩ := info_parts infoGP
    obtain ⟨i1, hi1, hy0, hy1, hy2⟩ := info_parts infoRP
    go_wp2_with (first
      | (at_builtin; have hq9 := HO4; refine wpList_append_own2 _ rfl _ _ 47 rfl w0.heap.size 62 i1 (.pointer none) 1 8 Try.underlying47 hi1 hy0 hy1 hy2 rfl (by decide) _ _ _ rfl (HO4.out.alloc _) ⟨w3.heap.size, 0, none⟩ 1 1 [.pointer (some ⟨w1.heap.size, 0, none⟩)] rfl rfl (cell_new1' _ _ _ _ (by simp)) (ptrOne _) (by decide) (by unfold maxLen; omega) (by omega) (by simp; omega) ?_; intro g2 off2 cap2 w5 hown5 hgrow5 hloc5 hlt5; have h5 := head_stays HH4.out hgrow5 HNR.out; have c5 : w5.cell? ⟨bw, 1, none⟩ = some (.slice aor G.length cpr) := (by simp [World.cell?, h5]); have f5 : w5.frozen? ⟨bw, 1, none⟩ = false := (by simp [World.frozen?, h5]); clear h5)
      | (at_builtin; refine wpList_append_own2 _ rfl _ _ 46 rfl w0.heap.size 31 i0 (.pointer none) 1 8 Try.underlying46 hi0 hz0 hz1 hz2 rfl (by decide) _ _ _ rfl (HP2.out.gs.alloc _) ⟨w2.heap.size, 0, none⟩ 1 1 [.pointer (some ⟨p, 0, none⟩)] rfl rfl (cell_new1' _ _ _ _ rfl) (ptrOne _) (by decide) (by unfold maxLen; omega) (by omega) (by simp; omega) ?_; intro g1 off1 cap1 w3 hown3 hgrow3 hloc3 hlt3; obtain ⟨c3, f3, h4, o4, hs3⟩ := news_mid HP2.out hgrow3 (.slice (some ⟨g1, off1, none⟩) (G.length + 1) cap1); have HH4 : Hid _ := h4; have HO4 : Hid (OwnS _ _ _ _ _ _ _) := o4; have c4 : (w3.setCell ⟨bw, 0, none⟩ (.slice (some ⟨g1, off1, none⟩) (G.length + 1) cap1)).cell? ⟨bw, 1, none⟩ = some (.slice aor G.length cpr) := (by simp [World.cell?, h4]); have H3 : Hid _ := hown3; have H3g : Hid _ := hgrow3; have H3l : Hid _ := hloc3; have H3t : Hid _ := hlt3; clear hown3 hgrow3 hloc3 hlt3 h4 o4))
    have hfin := news_done HP.out HB2.out (HG1.out.1.below HR2.out.2) HR2.out.1 HG1.out.2.2.1 HG1.out.2.2.2.1 HG1.out.2.2.2.2 HG1.out.2.1.size ⟨fun e => by have := HG1.out.1.pLt; omega, fun e => by have := HG1.out.1.mLt; omega, fun e => by have := HG1.out.1.qLt; omega⟩ H3.out H3g.out H3l.out H3t.out hown5 hgrow5 hloc5 hlt5
    go_ret
    exact ⟨rfl, _, _, _, _, hfin, by simp, by simp, fun _ => by simp⟩

end Go.Proofs.Ytbddcodljmglfaa
