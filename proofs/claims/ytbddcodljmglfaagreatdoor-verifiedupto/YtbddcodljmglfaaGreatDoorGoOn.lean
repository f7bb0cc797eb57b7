/- (kind).goOn: a line taken into a block. -/
import Derived.Test.YtbddcodljmglfaaGreatDoorProg1
set_option linter.unusedSimpArgs false
set_option linter.unusedVariables false
namespace Go.Proofs.YtbddcodljmglfaaGreatDoor
open Go.RowKit

attribute [local go_sem ↓] run_execOp_append

theorem infoLine : (Tryz.prog.info? 117).map (fun i => (i.zero, i.size, i.bytes)) = some (some (.agg #[.int .i64 0, .string ByteArray.empty, .int .i64 0, .slice none 0 0, .int .i64 0, .slice none 0 0]), 6, 88) := by kernel_rfl

/-- The open block, in the row of blocks. -/
structure OpenB (w : World) (c gB offB : Nat) (b : BV) : Prop where
  blk : ∃ cur, w.heap[gB]? = some (.cells cur 109 (0, 0)) ∧ ∀ j u, b.cells[j]? = some u → cur[offB + j]? = some u
  phis : OwnS w c 114 3 b.pv b.phis.length (cellsP b.phis)
  lines : OwnS w c 117 6 b.lv b.lines.length (cellsL b.lines)
  phi : ∀ x ∈ b.phis, x.ok w
  line : ∀ x ∈ b.lines, x.ok w
theorem OpenB.below {w w' : World} {c gB offB : Nat} {b : BV} (h : OpenB w c gB offB b) (hb : Below w.heap.size w w') : OpenB w' c gB offB b := by
  obtain ⟨⟨cur, h1, h2⟩, h3, h4, h5, h6⟩ := h
  exact ⟨⟨cur, (hb.block _ (blk_lt h1)).trans h1, h2⟩, h3.of_block fun k hk => hb.block _ (h3.lt k hk).2, h4.of_block fun k hk => hb.block _ (h4.lt k hk).2, fun x hx => (h5 x hx).keep (Keeps.of_below hb), fun x hx => (h6 x hx).keep (Keeps.of_below hb) (Keeps.of_below hb)⟩

theorem lineOf_word {tg : Nat} {ws : List BA} {l : LineG} (h : lineOf tg ws = some l) : l.word < 10 := by
  cases ws with
  | nil => simp [lineOf] at h
  | cons x r =>
    simp only [lineOf] at h
    split at h
    · rename_i k hk
      have aux : ∀ (ps : List Nat) (bs : List BA) (a b : LineG), fillG tg ps bs a = some b → b.word = a.word := by
        intro ps
        induction ps with
        | nil =>
          intro bs a b h
          cases bs with
          | nil => simp [fillG] at h; rw [h]
          | cons y ys => simp [fillG] at h
        | cons p ps ih =>
          intro bs a b h
          cases bs with
          | nil => simp [fillG] at h
          | cons y ys =>
            simp only [fillG] at h
            split at h
            · rename_i l2 h2
              rw [ih ys l2 b h]
              unfold addPart at h2
              repeat' split at h2
              all_goals first | (injection h2 with h2; subst h2; rfl) | cases h2
            · cases h
      rw [aux _ _ _ _ h]
      exact kindOf_lt hk
    · cases h
theorem one6 {a b c d e f : Value} (h1 : a.oneCell' = true) (h2 : b.oneCell' = true) (h3 : c.oneCell' = true) (h4 : d.oneCell' = true) (h5 : e.oneCell' = true) (h6 : f.oneCell' = true) : ∀ u ∈ [a, b, c, d, e, f], u.oneCell' = true := by
  intro u hu
  simp at hu
  rcases hu with rfl | rfl | rfl | rfl | rfl | rfl <;> assumption

/-- What goOn leaves of the row of blocks, and of the rest. -/
structure Went (w w' : World) (c gB offB : Nat) (b : BV) (b' : BV) : Prop where
  opn : OpenB w' c gB offB b'
  row : ∃ cur i u, w.heap[gB]? = some (.cells cur 109 (0, 0)) ∧ w'.heap[gB]? = some (.cells (cur.setIfInBounds (offB + i) u) 109 (0, 0)) ∧ i < 3 ∧ b'.cells = b.cells.set i u
  grew : Grew w w' (fun k => k = gB ∨ b.lv.ownBlock = some k ∨ b.pv.ownBlock = some k)
  first : b'.first = b.first

set_option maxRecDepth 100000 in
set_option maxHeartbeats 8000000 in
theorem goOn_names (w : World) (base0 c gB offB ln bl : Nat) (s : BA) (hs : s.size ≤ 4294967280) (hE : Env base0 w) (b : BV) (h : OpenB w c gB offB b) (hc : c ≤ w.heap.size) (hcnt : b.lines.length ≤ 1000000) (l : LineG) (hl : lineOf 0 (cuts 32 s) = some l) :
    Calls Tryz.prog 127 #[.agg #[.int .i64 (ln : Int), .int .i64 (bl : Int), .int .i64 0], .pointer (some ⟨gB, offB, none⟩), .string s] w fun e w' => e = .returned (.tuple #[.bool (!endsK l.word), .bool true]) ∧ ∃ tv lv lv2, Went w w' c gB offB b { b with lines := b.lines ++ [⟨l, tv, lv⟩], lv := lv2 } := by
  obtain ⟨first, phis, lns, pv, blv⟩ := b
  replace hcnt : lns.length ≤ 1000000 := hcnt
  have HO : Hid (OpenB w c gB offB ⟨first, phis, lns, pv, blv⟩) := h
  have HE : Hid (Env base0 w) := hE
  have HR : Hid (∀ w1, Env base0 w1 → Calls Tryz.prog 161 #[.string s, .int .i64 0] w1 fun e w' => (∃ v, e = .returned (.tuple #[v, .bool true]) ∧ ∃ tv lv, LineOut w' (w1.heap.size + 1) l v tv lv) ∧ Below w1.heap.size w1 w') := by
    intro w1 h1
    refine (read_any w1 base0 0 (.inl rfl) s hs h1).mono ?_
    rintro e w' ⟨⟨v, rfl, -, h2⟩, h3⟩
    refine ⟨⟨v, ?_, h2 l hl⟩, h3⟩
    rw [hl]
    rfl
  have hw10 := lineOf_word hl
  have HEN : Hid (∀ w1, Calls Tryz.prog 162 #[.int .i64 (l.word : Int)] w1 fun e w' => e = .returned (.bool (endsK l.word)) ∧ w' = w1) := fun w1 => ends_any w1 l.word hw10
  clear h hE hl
  go_enter Tryz.func127, Tryz.ntmps127
  go_wp2_with (first
    | (go_at_call 161; refine (HR.out _ (HE.out.below ((Below.refl _ _).alloc (Nat.le_refl _) _))).mono ?_; rintro e w1 ⟨⟨v, rfl, tv, lv, hout0⟩, hb0⟩; obtain ⟨ao1, cp1, rfl⟩ := hout0.takes.len; obtain ⟨ao2, cp2, rfl⟩ := hout0.leads.len; obtain rfl := hout0.val; have hout : Hid (LineOut w1 _ l _ _ _) := hout0; have hb1 : Hid (Below w.heap.size w w1) := ((Below.refl _ _).alloc (Nat.le_refl _) _).trans (hb0.mono (by simp)); clear hout0 hb0)
    | (refine wpList_store_box aggLine rfl _ _ rfl _ rfl zLine (lineCells l (.slice ao1 l.takes.length cp1) (.slice ao2 l.leads.length cp2)).toList rfl (BoxIn.new w1 _ _) rfl rfl (one_line _) ?_; intro w2 hbx2 hg2 hs2))
  have hb2 : Hid (Below w.heap.size w w2) := (hb1.out.alloc hb1.out.size _).trans (hg2.below (by have := hb1.out.size; simp; omega) (fun k hk => by have := hb1.out.size; omega))
  have HO2 : Hid (OpenB w2 c gB offB ⟨first, phis, lns, pv, blv⟩) := HO.out.below hb2.out
  have hin : ∀ k, k < w1.heap.size → w2.heap[k]? = w1.heap[k]? := fun k hk => (hg2.block k (by omega) (by simp; omega)).trans (Below.heap_alloc _ _ _ hk)
  have HLO : Hid (LV.ok w2 ⟨l, .slice ao1 l.takes.length cp1, .slice ao2 l.leads.length cp2⟩) := ⟨(hout.out.takes.of_block fun k hk => hin k (hout.out.takes.lt k hk).2).rdT, (hout.out.leads.of_block fun k hk => hin k (hout.out.leads.lt k hk).2).rdT, hout.out.few⟩
  have e0 : w2.cell? ⟨w1.heap.size, 0, none⟩ = some (.int .i64 (l.word : Int)) := hbx2.cell rfl
  have e1 : w2.cell? ⟨w1.heap.size, 1, none⟩ = some (.string l.sets.1) := hbx2.cell rfl
  have e2 : w2.cell? ⟨w1.heap.size, 2, none⟩ = some (.int .i64 (l.sets.2 : Int)) := hbx2.cell rfl
  have e3 : w2.cell? ⟨w1.heap.size, 3, none⟩ = some (.slice ao1 l.takes.length cp1) := hbx2.cell rfl
  have e4 : w2.cell? ⟨w1.heap.size, 4, none⟩ = some (.int .i64 l.number) := hbx2.cell rfl
  have e5 : w2.cell? ⟨w1.heap.size, 5, none⟩ = some (.slice ao2 l.leads.length cp2) := hbx2.cell rfl
  have HBX : Hid (BoxIn w2 w1.heap.size 117 (lineCells l (.slice ao1 l.takes.length cp1) (.slice ao2 l.leads.length cp2)).toList) := hbx2
  have hs12 := hb1.out.size
  have hs2' : w2.heap.size = w1.heap.size + 1 := by rw [hs2]; simp
  obtain ⟨aoL, cpL, hLv⟩ : ∃ ao cp, blv = .slice ao lns.length cp := HO2.out.lines.len
  subst hLv
  obtain ⟨cur, hcur, hcells⟩ := HO2.out.blk
  have c2 : w2.cell? ⟨gB, offB + 2, none⟩ = some (.slice aoL lns.length cpL) := by
    have := hcells 2 _ rfl
    simp [World.cell?, hcur, this]
  have c2a : ∀ o, (w2.alloc o).cell? ⟨gB, offB + 2, none⟩ = some (.slice aoL lns.length cpL) := fun o => (World.cell?_of_block (Below.heap_alloc w2 o _ (blk_lt hcur))).trans c2
  have HCUR : Hid (w2.heap[gB]? = some (.cells cur 109 (0, 0)) ∧ ∀ j u, (BV.cells ⟨first, phis, lns, pv, .slice aoL lns.length cpL⟩)[j]? = some u → cur[offB + j]? = some u) := ⟨hcur, hcells⟩
  have hgBw : gB < w.heap.size := by
    obtain ⟨cur', h1, -⟩ := HO.out.blk
    exact blk_lt h1
  have hLlt : ∀ k, (Value.slice aoL lns.length cpL).ownBlock = some k → k < w.heap.size := fun k hk => (HO.out.lines.lt k hk).2
  obtain ⟨g', off', cap', w3, happ, hown3, hgw3, hloc3, hlt3⟩ := app_later w2 c 107 117 _ 6 88 Tryz.underlying107 infoLine rfl (by decide) (.slice aoL lns.length cpL) lns.length (cellsL lns) HO2.out.lines [.int .i64 (l.word : Int), .string l.sets.1, .int .i64 (l.sets.2 : Int), .slice ao1 l.takes.length cp1, .int .i64 l.number, .slice ao2 l.leads.length cp2] rfl (one6 rfl rfl rfl rfl rfl rfl) (by unfold maxLen; omega) (by omega) (by omega)
  have HB3 : Hid (w3.heap[gB]? = some (.cells cur 109 (0, 0))) := grown_box HO2.out.lines hgw3 hcur (by decide)
  have c23 : w3.cell? ⟨gB, offB + 2, none⟩ = some (.slice aoL lns.length cpL) := (World.cell?_of_block (HB3.out.trans hcur.symm)).trans c2
  have f23 : w3.frozen? ⟨gB, offB + 2, none⟩ = false := by simp [World.frozen?, HB3.out]
  have hblk3 : w3.heap[w1.heap.size]? = w2.heap[w1.heap.size]? := (hgw3.block _ (by simp; omega) (fun e => by have := hLlt _ e.symm; omega)).trans (Below.heap_alloc _ _ _ (by omega))
  have x0 : ∀ u, (w3.setCell ⟨gB, offB + 2, none⟩ u).cell? ⟨w1.heap.size, 0, none⟩ = some (.int .i64 (l.word : Int)) := fun u => (World.cell?_of_block (by rw [Below.heap_setCell _ _ _ _ (by show w1.heap.size ≠ gB; omega)]; exact hblk3)).trans e0
  have HOW : Hid (OwnS w3 c 117 6 (.slice (some ⟨g', off', none⟩) (lns.length + 1) cap') (lns.length + 1) (cellsL lns ++ [.int .i64 (l.word : Int), .string l.sets.1, .int .i64 (l.sets.2 : Int), .slice ao1 l.takes.length cp1, .int .i64 l.number, .slice ao2 l.leads.length cp2])) := hown3
  have HGW : Hid ((w2.alloc (.cells [.int .i64 (l.word : Int), .string l.sets.1, .int .i64 (l.sets.2 : Int), .slice ao1 l.takes.length cp1, .int .i64 l.number, .slice ao2 l.leads.length cp2].toArray 117)).grownBy w3 (Value.slice aoL lns.length cpL).ownBlock) := hgw3
  have HS2 : Hid (w2.heap.size = w1.heap.size + 1) := hs2'
  clear hbx2 hg2 hs2 hs2' hin hcur hcells hown3 hgw3 hloc3 hlt3 hblk3
  go_region
  all_goals (go_wp2_with (first | (go_at_call 162; refine (HEN.out _).mono ?_; rintro e w9 ⟨rfl, rfl⟩)))
  go_ret2
  refine ⟨rfl, .slice ao1 l.takes.length cp1, .slice ao2 l.leads.length cp2, _, ⟨⟨_, set_block HB3.out _, ?_⟩, ?_, ?_, ?_, ?_⟩, ⟨cur, 2, _, ?_, set_block HB3.out _, by omega, rfl⟩, ?_, rfl⟩
  · intro j u hj
    have hc := HCUR.out.2
    rcases (by omega : j = 0 ∨ j = 1 ∨ j = 2 ∨ 3 ≤ j) with rfl | rfl | rfl | hj3
    · rw [Array.getElem?_setIfInBounds_ne (by omega)]; exact hc 0 u hj
    · rw [Array.getElem?_setIfInBounds_ne (by omega)]; exact hc 1 u hj
    · have h2 := hc 2 _ rfl
      have hsz : offB + 2 < cur.size := by
        rcases Nat.lt_or_ge (offB + 2) cur.size with h | h
        · exact h
        · rw [Array.getElem?_eq_none h] at h2; cases h2
      rw [Array.getElem?_setIfInBounds_self_of_lt hsz]
      exact hj
    · obtain ⟨j, rfl⟩ : ∃ t, j = t + 3 := ⟨j - 3, by omega⟩
      simp [BV.cells] at hj
  · exact (grown_own HO2.out.lines HGW.out HO2.out.phis (by decide)).set_other HB3.out (by decide) _
  · have := OwnS.set_other HOW.out HB3.out (by decide) (.slice (some ⟨g', off', none⟩) (lns.length + 1) cap') (i := offB + 2)
    show OwnS _ _ _ _ _ (lns ++ [_]).length (cellsL (lns ++ [_]))
    rw [List.length_append, cellsL_append]
    exact this
  · exact fun x hx => (HO2.out.phi x hx).keep ((grown_keeps HO2.out.lines HGW.out (by decide)).setCell HB3.out (by decide) _)
  · intro x hx
    have k1 : Keeps 111 w2 (w3.setCell ⟨gB, offB + 2, none⟩ (.slice (some ⟨g', off', none⟩) (lns.length + 1) cap')) := (grown_keeps HO2.out.lines HGW.out (by decide)).setCell HB3.out (by decide) _
    have k2 : Keeps 3 w2 (w3.setCell ⟨gB, offB + 2, none⟩ (.slice (some ⟨g', off', none⟩) (lns.length + 1) cap')) := (grown_keeps HO2.out.lines HGW.out (by decide)).setCell HB3.out (by decide) _
    rcases List.mem_append.1 hx with hx | hx
    · exact (HO2.out.line x hx).keep k1 k2
    · rw [List.mem_singleton] at hx
      subst hx
      exact HLO.out.keep k1 k2
  · rw [← hb2.out.block gB hgBw]
    exact HCUR.out.1
  · have hg := HGW.out
    refine ⟨hg.os.trans hb2.out.os, hg.tape.trans hb2.out.tape, hg.output.trans hb2.out.output, ?_, fun k hk hlt => ?_⟩
    · have h1 := hg.size
      have h2 := hb2.out.size
      simp at h1
      simp
      omega
    · rw [Below.heap_setCell _ _ _ _ (fun e => hk (.inl e)), hg.block k (by have := HS2.out; simp; omega) (fun e => hk (.inr (.inl e.symm))), Below.heap_alloc _ _ _ (by have := HS2.out; omega), hb2.out.block k hlt]

set_option maxRecDepth 100000 in
set_option maxHeartbeats 8000000 in
theorem goOn_names_no (w : World) (base0 gB offB ln bl : Nat) (s : BA) (hs : s.size ≤ 4294967280) (hE : Env base0 w) (hl : lineOf 0 (cuts 32 s) = none) :
    Calls Tryz.prog 127 #[.agg #[.int .i64 (ln : Int), .int .i64 (bl : Int), .int .i64 0], .pointer (some ⟨gB, offB, none⟩), .string s] w fun e w' => e = .returned (.tuple #[.bool false, .bool false]) ∧ Below w.heap.size w w' := by
  have HE : Hid (Env base0 w) := hE
  have HR : Hid (∀ w1, Env base0 w1 → Calls Tryz.prog 161 #[.string s, .int .i64 0] w1 fun e w' => (∃ cs : List Value, e = .returned (.tuple #[.agg cs.toArray, .bool false]) ∧ cs.length = 6 ∧ cs.toArray.all (·.oneCell') = true) ∧ Below w1.heap.size w1 w') := by
    intro w1 h1
    refine (read_any w1 base0 0 (.inl rfl) s hs h1).mono ?_
    rintro e w' ⟨⟨v, rfl, ⟨cs, rfl, h4, h5⟩, -⟩, h3⟩
    refine ⟨⟨cs, ?_, h4, h5⟩, h3⟩
    rw [hl]
    rfl
  clear hE hl
  go_enter Tryz.func127, Tryz.ntmps127
  go_wp2_with (first
    | (go_at_call 161; refine (HR.out _ (HE.out.below ((Below.refl _ _).alloc (Nat.le_refl _) _))).mono ?_; rintro e w1 ⟨⟨cs, rfl, h6, hone⟩, hb0⟩; have HONE : Hid _ := hone; have H6 : Hid _ := h6; have hb1 : Hid (Below w.heap.size w w1) := ((Below.refl _ _).alloc (Nat.le_refl _) _).trans (hb0.mono (by simp)); clear hb0 hone h6)
    | (refine wpList_store_box aggLine rfl _ _ rfl _ rfl zLine cs rfl (BoxIn.new w1 _ _) rfl H6.out HONE.out ?_; intro w2 hbx2 hg2 hs2))
  go_ret2
  exact ⟨rfl, (hb1.out.alloc hb1.out.size _).trans (hg2.below (by have := hb1.out.size; simp; omega) (fun k hk => by have := hb1.out.size; omega))⟩

end Go.Proofs.YtbddcodljmglfaaGreatDoor
