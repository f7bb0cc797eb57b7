/- (kind).readAll. -/
import Derived.Test.YtbddcodljmglfaaGreatDoorGoOn
import Derived.Test.YtbddcodljmglfaaGreatDoorArgsFn
set_option linter.unusedSimpArgs false
set_option linter.unusedVariables false
namespace Go.Proofs.YtbddcodljmglfaaGreatDoor
open Go.RowKit

theorem aggProg : AggT 52 2 [.slice none 0 0, .slice none 0 0] := ⟨⟨_, Tryz.underlying52, rfl⟩, by kernel_rfl, by kernel_rfl, rfl⟩

theorem infoBlock : (Tryz.prog.info? 109).map (fun i => (i.zero, i.size, i.bytes)) = some (some (.agg #[.int .i64 0, .slice none 0 0, .slice none 0 0]), 3, 56) := by kernel_rfl

/-- The program while it is read: H, H + 1, H + 2 are the boxes of the kind, of the result, and of the program. -/
structure RA (w wr : World) (H ln bl tg : Nat) (A : List Ver) (B0 : List BV) (cur : Option BV) (av bv : Value) (c : Nat) : Prop where
  kb : BoxIn wr H 73 [.int .i64 (ln : Int), .int .i64 (bl : Int), .int .i64 (tg : Int)]
  rb : BoxIn wr (H + 1) 52 [.slice none 0 0, .slice none 0 0]
  pb : BoxIn wr (H + 1 + 1) 52 [av, bv]
  args : RdB wr c 111 2 av A.length (vers A)
  anil : A = [] → av = .slice none 0 0
  rows : OwnS wr (H + 3) 109 3 bv (B0 ++ cur.toList).length (cellsB (B0 ++ cur.toList))
  closed : ∀ b ∈ B0, b.ok wr c
  opn : ∀ b, cur = some b → ∃ gB off cap, bv = .slice (some ⟨gB, off, none⟩) (B0.length + 1) cap ∧ OpenB wr c gB (off + B0.length * 3) b
  lo : H + 3 ≤ c
  hi : c ≤ wr.heap.size
  bel : Below H w wr
  keep : Keeps 9 w wr

section
variable {w wr w' : World} {H ln bl tg : Nat} {A : List Ver} {B0 : List BV} {cur : Option BV} {av bv : Value} {c : Nat}

theorem RA.below (h : RA w wr H ln bl tg A B0 cur av bv c) (hb : Below wr.heap.size wr w') : RA w w' H ln bl tg A B0 cur av bv c := by
  have hH : H ≤ wr.heap.size := by have := h.lo; have := h.hi; omega
  refine ⟨h.kb.below hb, h.rb.below hb, h.pb.below hb, h.args.keep (hb.mono h.hi), h.anil, h.rows.of_block fun k hk => hb.block _ (h.rows.lt k hk).2, fun b hx => (h.closed b hx).keep (hb.mono h.hi) (Keeps.of_below hb) (Keeps.of_below hb) (Keeps.of_below hb), fun b hx => ?_, h.lo, Nat.le_trans h.hi hb.size, h.bel.trans (hb.mono hH), h.keep.trans (Keeps.of_below hb)⟩
  obtain ⟨gB, off, cap, h1, h2⟩ := h.opn b hx
  exact ⟨gB, off, cap, h1, h2.below hb⟩
theorem RdT.setCell {t t' : TypeId} {size : Nat} {v : Value} {n : Nat} {xs : List Value} (h : RdT w t size v n xs) {b i : Nat} {cs : Array Value} {fr : Nat × Nat} (hb : w.heap[b]? = some (.cells cs t' fr)) (hne : t ≠ t') (u : Value) : RdT (w.setCell ⟨b, i, none⟩ u) t size v n xs := h.keep ((Keeps.refl t w).setCell hb hne u)
theorem RdB.setCell {t t' : TypeId} {size : Nat} {v : Value} {n : Nat} {xs : List Value} (h : RdB w c t size v n xs) {b i : Nat} {cs : Array Value} {fr : Nat × Nat} (hb : w.heap[b]? = some (.cells cs t' fr)) (hne : t ≠ t') (u : Value) : RdB (w.setCell ⟨b, i, none⟩ u) c t size v n xs := ⟨h.1.setCell hb hne u, h.2⟩

/-- A store into the box of the program. -/
theorem RA.store (h : RA w wr H ln bl tg A B0 cur av bv c) (i : Nat) (u : Value) :
    BoxIn (wr.setCell ⟨H + 1 + 1, i, none⟩ u) H 73 [.int .i64 (ln : Int), .int .i64 (bl : Int), .int .i64 (tg : Int)] ∧ BoxIn (wr.setCell ⟨H + 1 + 1, i, none⟩ u) (H + 1) 52 [.slice none 0 0, .slice none 0 0] ∧
    BoxIn (wr.setCell ⟨H + 1 + 1, i, none⟩ u) (H + 1 + 1) 52 ([av, bv].set i u) ∧ Below H w (wr.setCell ⟨H + 1 + 1, i, none⟩ u) ∧ Keeps 9 w (wr.setCell ⟨H + 1 + 1, i, none⟩ u) := by
  refine ⟨h.kb.of_block (Below.heap_setCell _ _ _ _ (by show H ≠ H + 1 + 1; omega)), h.rb.of_block (Below.heap_setCell _ _ _ _ (by show H + 1 ≠ H + 1 + 1; omega)), ?_, h.bel.setCell (by show H ≤ H + 1 + 1; omega) _, h.keep.setCell h.pb (by decide) _⟩
  show (wr.setCell ⟨H + 1 + 1, i, none⟩ u).heap[H + 1 + 1]? = _
  rw [set_block h.pb]
  simp

/-- The args line is read. -/
theorem RA.setArgs (h : RA w wr H ln bl tg [] [] none av bv c) (hb : Below wr.heap.size wr w') {A : List Ver} {av' : Value} (ho : OwnS w' wr.heap.size 111 2 av' A.length (vers A)) (hnil : A = [] → av' = .slice none 0 0) :
    RA w (w'.setCell ⟨H + 1 + 1, 0, none⟩ av') H ln bl tg A [] none av' bv w'.heap.size := by
  have h1 := h.below hb
  obtain ⟨s1, s2, s3, s4, s5⟩ := h1.store 0 av'
  refine ⟨s1, s2, s3, (ho.rdB).setCell h1.pb (by decide) _, hnil, h1.rows.set_other h1.pb (by decide) _, by simp, by simp, ?_, by simp [World.setCell], s4, s5⟩
  have := h1.lo
  have := h1.hi
  omega

/-- The open block has ended. -/
theorem RA.close {b : BV} (h : RA w wr H ln bl tg A B0 (some b) av bv c) : RA w wr H ln bl tg A (B0 ++ [b]) none av bv wr.heap.size := by
  obtain ⟨gB, off, cap, h1, h2⟩ := h.opn b rfl
  refine ⟨h.kb, h.rb, h.pb, h.args.mono h.hi, h.anil, by simpa using h.rows, fun x hx => ?_, by simp, Nat.le_trans h.lo h.hi, Nat.le_refl _, h.bel, h.keep⟩
  rcases List.mem_append.1 hx with hx | hx
  · exact (h.closed x hx).mono h.hi
  · rw [List.mem_singleton] at hx
    subst hx
    exact ⟨h2.phis.rdB, h2.lines.rdB, h2.phi, h2.line⟩

/-- A new block. -/
theorem RA.fresh (h : RA w wr H ln bl tg A B0 none av bv c) {o : Obj} {gN offN capN k : Nat} (hown : OwnS w' (H + 3) 109 3 (.slice (some ⟨gN, offN, none⟩) (B0.length + 1) capN) (B0.length + 1) (cellsB B0 ++ [.int .i64 (k : Int), .slice none 0 0, .slice none 0 0]))
    (hg : (wr.alloc o).grownBy w' bv.ownBlock) :
    RA w (w'.setCell ⟨H + 1 + 1, 1, none⟩ (.slice (some ⟨gN, offN, none⟩) (B0.length + 1) capN)) H ln bl tg A B0 (some ⟨k, [], [], .slice none 0 0, .slice none 0 0⟩) av (.slice (some ⟨gN, offN, none⟩) (B0.length + 1) capN) w'.heap.size := by
  have hr : OwnS wr (H + 3) 109 3 bv B0.length (cellsB B0) := by simpa using h.rows
  have hlo := h.lo
  have hhi := h.hi
  have hsz := hg.size
  simp at hsz
  have kp : ∀ t, 109 ≠ t → Keeps t wr w' := fun t ht => grown_keeps hr hg ht
  have hbel3 : Below (H + 3) wr w' := grown_below hr hg (by omega)
  have pb' : BoxIn w' (H + 1 + 1) 52 [av, bv] := h.pb.of_block (hbel3.block _ (by omega))
  have h1 : RA w w' H ln bl tg A [] none av (.slice none 0 0) c ∨ True := .inr trivial
  clear h1
  have kb' : BoxIn w' H 73 [.int .i64 (ln : Int), .int .i64 (bl : Int), .int .i64 (tg : Int)] := h.kb.of_block (hbel3.block _ (by omega))
  have rb' : BoxIn w' (H + 1) 52 [.slice none 0 0, .slice none 0 0] := h.rb.of_block (hbel3.block _ (by omega))
  have keepB : ∀ t, 52 ≠ t → 109 ≠ t → Keeps t wr (w'.setCell ⟨H + 1 + 1, 1, none⟩ (.slice (some ⟨gN, offN, none⟩) (B0.length + 1) capN)) := fun t h1 h2 => (kp t h2).setCell pb' (Ne.symm h1) _
  refine ⟨kb'.of_block (Below.heap_setCell _ _ _ _ (by show H ≠ H + 1 + 1; omega)), rb'.of_block (Below.heap_setCell _ _ _ _ (by show H + 1 ≠ H + 1 + 1; omega)), ?_, ?_, h.anil, ?_, fun b hx => ?_, fun b hx => ?_, by omega, by simp [World.setCell], (h.bel.trans (hbel3.mono (by omega))).setCell (by show H ≤ H + 1 + 1; omega) _, h.keep.trans (keepB _ (by decide) (by decide))⟩
  · show (w'.setCell ⟨H + 1 + 1, 1, none⟩ _).heap[H + 1 + 1]? = _
    rw [set_block pb']
    simp
  · exact ⟨h.args.1.keep (keepB _ (by decide) (by decide)), fun g hg' => by have := h.args.2 g hg'; omega⟩
  · have := hown.set_other (i := 1) pb' (by decide) (.slice (some ⟨gN, offN, none⟩) (B0.length + 1) capN)
    simp only [Option.toList_some, List.length_append, cellsB_append]
    exact this
  · have hb := h.closed b hx
    exact ⟨⟨hb.phis.1.keep (keepB _ (by decide) (by decide)), fun g hg' => by have := hb.phis.2 g hg'; omega⟩, ⟨hb.lines.1.keep (keepB _ (by decide) (by decide)), fun g hg' => by have := hb.lines.2 g hg'; omega⟩, fun x hx => (hb.phi x hx).keep (keepB _ (by decide) (by decide)), fun x hx => (hb.line x hx).keep (keepB _ (by decide) (by decide)) (keepB _ (by decide) (by decide))⟩
  · injection hx with hx
    subst hx
    refine ⟨gN, offN, capN, rfl, ?_, OwnS.nil _ _ _ _, OwnS.nil _ _ _ _, by simp, by simp⟩
    have ho := hown.set_other (i := 1) pb' (by decide) (.slice (some ⟨gN, offN, none⟩) (B0.length + 1) capN)
    rcases ho.2 with ⟨h1, -⟩ | ⟨g, off, cp, cr, h1, -, h2, -, -, -, h3⟩
    · cases h1
    · injection h1 with h1
      injection h1 with h1
      injection h1 with h1 h1'
      subst h1
      subst h1'
      refine ⟨cr, h2, fun j u hj => ?_⟩
      rw [Nat.add_assoc]
      apply h3
      rw [List.getElem?_append_right (by rw [cellsB_length]; omega), cellsB_length]
      rw [show B0.length * 3 + j - B0.length * 3 = j by omega]
      exact hj

/-- A line was taken into the open block. -/
theorem RA.went {b b' : BV} {gB off cap : Nat} (h : RA w wr H ln bl tg A B0 (some b) (av) (.slice (some ⟨gB, off, none⟩) (B0.length + 1) cap) c) (hO : OpenB wr c gB (off + B0.length * 3) b) (hW : Went wr w' c gB (off + B0.length * 3) b b') :
    RA w w' H ln bl tg A B0 (some b') av (.slice (some ⟨gB, off, none⟩) (B0.length + 1) cap) c := by
  obtain ⟨hop, ⟨cur, i, u, hc1, hc2, hi3, hcells⟩, hgr, hfirst⟩ := hW
  have hlo := h.lo
  have hhi := h.hi
  have hgB : H + 3 ≤ gB := (h.rows.lt gB rfl).1
  have hown : ∀ k, b.lv.ownBlock = some k ∨ b.pv.ownBlock = some k → c ≤ k := by
    rintro k (hk | hk)
    · exact (hO.lines.lt k hk).1
    · exact (hO.phis.lt k hk).1
  have may_ge : ∀ k, (k = gB ∨ b.lv.ownBlock = some k ∨ b.pv.ownBlock = some k) → H + 3 ≤ k := by
    rintro k (rfl | hk)
    · exact hgB
    · have := hown k hk; omega
  -- rows of other marks stay
  have kp : ∀ t, 109 ≠ t → 117 ≠ t → 114 ≠ t → Keeps t wr w' := by
    intro t h1 h2 h3 g cr fr hg
    rw [hgr.block g ?_ (blk_lt hg)]
    · exact hg
    · rintro (rfl | hk | hk)
      · rw [hc1] at hg; injection hg with hg; injection hg with _ hg _; exact h1 hg
      · exact own_other hO.lines hg h2 g hk rfl
      · exact own_other hO.phis hg h3 g hk rfl
  have box : ∀ k, k < H + 3 → w'.heap[k]? = wr.heap[k]? := fun k hk => hgr.block k (fun hm => by have := may_ge k hm; omega) (by omega)
  -- what lies below c, in rows of lines or phis, stays
  have low : ∀ {t size v n xs}, 109 ≠ t → RdB wr c t size v n xs → RdB w' c t size v n xs := by
    intro t size v n xs ht hR
    refine ⟨?_, hR.2⟩
    obtain ⟨hl, ao, cp, rfl, hcp, hr⟩ := hR.1
    refine ⟨hl, ao, cp, rfl, hcp, ?_⟩
    rcases hr with hr | ⟨g, of, cr, fr, rfl, hg, hx⟩
    · exact .inl hr
    · refine .inr ⟨g, of, cr, fr, rfl, ?_, hx⟩
      rw [hgr.block g ?_ (blk_lt hg)]
      · exact hg
      · have hgc := hR.2 g rfl
        rintro (rfl | hk)
        · rw [hc1] at hg; injection hg with hg; injection hg with _ hg _; exact ht hg
        · have := hown g hk; omega
  refine ⟨h.kb.of_block (box _ (by omega)), h.rb.of_block (box _ (by omega)), h.pb.of_block (box _ (by omega)), low (by decide) h.args, h.anil, ?_, fun x hx => ?_, fun x hx => ?_, hlo, Nat.le_trans hhi hgr.size, h.bel.trans (hgr.below (by omega) (fun k hk => by have := may_ge k hk; omega)), h.keep.trans (kp _ (by decide) (by decide) (by decide))⟩
  · refine ⟨by rw [cellsB_length], ?_⟩
    rcases h.rows.2 with ⟨h1, -⟩ | ⟨g, of, cp, cr, h1, h2, h3, h4, h5, h6, h7⟩
    · cases h1
    · injection h1 with h1 h1a h1b
      injection h1 with h1
      injection h1 with h1 h1'
      subst h1 h1'
      subst h1b
      have hcr : cr = cur := by rw [hc1] at h3; injection h3 with h3; injection h3 with h3 _ _; exact h3.symm
      subst hcr
      refine .inr ⟨gB, off, cap, _, by simp, hgB, hc2, by simpa using h4, h5, by simpa using h6, fun j y hj => ?_⟩
      simp only [Option.toList_some, cellsB_append] at hj h7
      by_cases hj0 : j < B0.length * 3
      · rw [List.getElem?_append_left (by rw [cellsB_length]; exact hj0)] at hj
        rw [Array.getElem?_setIfInBounds_ne (by omega)]
        exact h7 j y (by rw [List.getElem?_append_left (by rw [cellsB_length]; exact hj0)]; exact hj)
      · obtain ⟨m, rfl⟩ : ∃ m, j = B0.length * 3 + m := ⟨j - B0.length * 3, by omega⟩
        have e1 : ∀ x : BV, (cellsB B0 ++ cellsB [x])[B0.length * 3 + m]? = x.cells[m]? := by
          intro x
          rw [List.getElem?_append_right (by rw [cellsB_length]; omega), cellsB_length, show B0.length * 3 + m - B0.length * 3 = m by omega]
          simp [cellsB]
        rw [e1, hcells] at hj
        by_cases him : i = m
        · subst him
          have hlen : i < b.cells.length := by show i < 3; omega
          rw [List.getElem?_set_self hlen] at hj
          injection hj with hj
          subst hj
          have hlt : off + (B0.length * 3 + i) < cr.size := by
            have := h7 (B0.length * 3 + i) (b.cells[i]) (by rw [e1]; exact List.getElem?_eq_getElem hlen)
            rcases Nat.lt_or_ge (off + (B0.length * 3 + i)) cr.size with hh | hh
            · exact hh
            · rw [Array.getElem?_eq_none hh] at this; cases this
          rw [show off + B0.length * 3 + i = off + (B0.length * 3 + i) by omega, Array.getElem?_setIfInBounds_self_of_lt hlt]
        · rw [List.getElem?_set_ne him] at hj
          rw [Array.getElem?_setIfInBounds_ne (by omega)]
          exact h7 _ y (by rw [e1]; exact hj)
  · have hb := h.closed x hx
    exact ⟨low (by decide) hb.phis, low (by decide) hb.lines, fun y hy => (hb.phi y hy).keep (kp _ (by decide) (by decide) (by decide)), fun y hy => (hb.line y hy).keep (kp _ (by decide) (by decide) (by decide)) (kp _ (by decide) (by decide) (by decide))⟩
  · injection hx with hx
    subst hx
    exact ⟨gB, off, cap, rfl, hop⟩
end

end Go.Proofs.YtbddcodljmglfaaGreatDoor
