/- (kind).goOn, of forms. -/
import Derived.Test.YtbddcodljmglfaaGreatDoorReadC
import Derived.Test.YtbddcodljmglfaaGreatDoorReadAll2
import Derived.Test.YtbddcodljmglfaaGreatDoorPhiA
set_option linter.unusedSimpArgs false
set_option linter.unusedVariables false
namespace Go.Proofs.YtbddcodljmglfaaGreatDoor
open Go.RowKit

attribute [local go_sem ↓] run_execOp_append

set_option maxRecDepth 100000 in
set_option maxHeartbeats 8000000 in
theorem goOn_forms (w : World) (base0 c gB offB ln bl : Nat) (s : BA) (hs : s.size ≤ 4294967280) (hE : Env base0 w) (b : BV) (h : OpenB w c gB offB b) (hc : c ≤ w.heap.size) (hcnt : b.lines.length ≤ 1000000) (l : LineG) (hl : lineOf 1 (cuts 32 s) = some l) (hno : b.lines.length ≠ 0 ∨ phiOf (cuts 32 s) = none) :
    Calls Tryz.prog 127 #[.agg #[.int .i64 (ln : Int), .int .i64 (bl : Int), .int .i64 1], .pointer (some ⟨gB, offB, none⟩), .string s] w fun e w' => e = .returned (.tuple #[.bool (!endsK l.word), .bool true]) ∧ ∃ tv lv lv2, Went w w' c gB offB b { b with lines := b.lines ++ [⟨l, tv, lv⟩], lv := lv2 } := by
  obtain ⟨first, phis, lns, pv, blv⟩ := b
  replace hcnt : lns.length ≤ 1000000 := hcnt
  have HO : Hid (OpenB w c gB offB ⟨first, phis, lns, pv, blv⟩) := h
  have HE : Hid (Env base0 w) := hE
  have HR : Hid (∀ w1, Env base0 w1 → Calls Tryz.prog 161 #[.string s, .int .i64 1] w1 fun e w' => (∃ v, e = .returned (.tuple #[v, .bool true]) ∧ ∃ tv lv, LineOut w' (w1.heap.size + 1) l v tv lv) ∧ Below w1.heap.size w1 w') := by
    intro w1 h1
    refine (read_any w1 base0 1 (.inr rfl) s hs h1).mono ?_
    rintro e w' ⟨⟨v, rfl, -, h2⟩, h3⟩
    refine ⟨⟨v, ?_, h2 l hl⟩, h3⟩
    rw [hl]
    rfl
  have hw10 := lineOf_word hl
  have HEN : Hid (∀ w1, Calls Tryz.prog 162 #[.int .i64 (l.word : Int)] w1 fun e w' => e = .returned (.bool (endsK l.word)) ∧ w' = w1) := fun w1 => ends_any w1 l.word hw10
  have HRP : Hid (phiOf (cuts 32 s) = none → ∀ W, Below w.heap.size w W → Calls Tryz.prog 160 #[.string s] W fun e w' => e = .returned (.tuple #[.agg #[.string ⟨#[]⟩, .int .i64 0, .slice none 0 0], .bool false]) ∧ Below W.heap.size W w') := fun hp W hb => (readPhi_any W base0 s hs (hE.below hb)).mono (by rintro e w' ⟨-, h2, h3⟩; exact ⟨h2 hp, h3⟩)
  obtain ⟨aoL0, cpL0, hLv0⟩ : ∃ ao cp, blv = .slice ao lns.length cp := h.lines.len
  have hcb : ∀ o, (w.alloc o).cell? ⟨gB, offB + 2, none⟩ = some (.slice aoL0 lns.length cpL0) := by
    intro o
    obtain ⟨cur0, hcur0, hcells0⟩ := h.blk
    have h1 := hcells0 2 _ rfl
    rw [hLv0] at h1
    have h2 : w.cell? ⟨gB, offB + 2, none⟩ = some (.slice aoL0 lns.length cpL0) := by simp [World.cell?, hcur0, h1]
    exact (World.cell?_of_block (Below.heap_alloc w o _ (blk_lt hcur0))).trans h2
  have HLV : Hid (blv = .slice aoL0 lns.length cpL0) := hLv0
  clear h hE hl hLv0
  replace hno : lns.length ≠ 0 ∨ (lns.length = 0 ∧ phiOf (cuts 32 s) = none) := by
    rcases hno with h | h
    · exact .inl h
    · rcases Nat.eq_zero_or_pos lns.length with h0 | h0
      · exact .inr ⟨h0, h⟩
      · exact .inl (by omega)
  go_enter Tryz.func127, Tryz.ntmps127
  rcases hno with hno | ⟨h0, hph⟩
  case' inl =>
    have hno' : ((lns.length : Int) == 0) = false := by rw [beq_eq_false_iff_ne]; omega
    clear HRP hno
    go_wp2_with fail
    have HW : Hid (Below w.heap.size w (w.alloc (.cells #[.int .i64 (ln : Int), .int .i64 (bl : Int), .int .i64 1] 73))) := (Below.refl _ _).alloc (Nat.le_refl _) _
    generalize w.alloc (.cells #[.int .i64 (ln : Int), .int .i64 (bl : Int), .int .i64 1] 73) = W0 at HW ⊢
    clear hno' hcb
  case' inr =>
    have hno' : ((lns.length : Int) == 0) = true := by rw [beq_iff_eq]; omega
    have HRP2 : Hid _ := HRP.out hph
    clear HRP h0 hph
    go_wp2_with (first
      | (go_at_call 160; refine (HRP2.out _ ((Below.refl _ _).alloc (Nat.le_refl _) _)).mono ?_; rintro e w0 ⟨rfl, hb0⟩; have HB0 : Hid (Below w.heap.size w w0) := ((Below.refl _ _).alloc (Nat.le_refl _) _).trans (hb0.mono (by simp)); have HK0 : Hid (BoxIn w0 w.heap.size 73 [.int .i64 (ln : Int), .int .i64 (bl : Int), .int .i64 1]) := (BoxIn.new w 73 [.int .i64 (ln : Int), .int .i64 (bl : Int), .int .i64 1]).below hb0; have k2 : ∀ o, (w0.alloc o).cell? ⟨w.heap.size, 2, none⟩ = some (.int .i64 1) := (fun o => (HK0.out.below ((Below.refl _ _).alloc (Nat.le_refl _) o)).cell rfl); clear hb0))
    have HW : Hid (Below w.heap.size w (w0.alloc (.cells #[.string ⟨#[]⟩, .int .i64 0, .slice none 0 0] 114))) := HB0.out.alloc HB0.out.size _
    generalize w0.alloc (.cells #[.string ⟨#[]⟩, .int .i64 0, .slice none 0 0] 114) = W0 at HW ⊢
    clear hno' hcb k2 HK0 HB0 HRP2
  all_goals
    refine (HR.out _ (HE.out.below HW.out)).mono ?_
    rintro e w1 ⟨⟨v, rfl, tv, lv, hout0⟩, hb0⟩
    obtain ⟨ao1, cp1, rfl⟩ := hout0.takes.len
    obtain ⟨ao2, cp2, rfl⟩ := hout0.leads.len
    obtain rfl := hout0.val
    have hout : Hid (LineOut w1 _ l _ _ _) := hout0
    have hb1 : Hid (Below w.heap.size w w1) := HW.out.trans (hb0.mono HW.out.size)
    clear hout0 hb0 HW
    go_wp2_with (first
      | (refine wpList_store_box aggLine rfl _ _ rfl _ rfl zLine (lineCells l (.slice ao1 l.takes.length cp1) (.slice ao2 l.leads.length cp2)).toList rfl (BoxIn.new w1 _ _) rfl rfl (one_line _) ?_; intro w2 hbx2 hg2 hs2))
    have hb2 : Hid (Below w.heap.size w w2) := (hb1.out.alloc hb1.out.size _).trans (hg2.below (by have := hb1.out.size; simp; omega) (fun k hk => by have := hb1.out.size; omega))
    have HO2 : Hid (OpenB w2 c gB offB ⟨first, phis, lns, pv, blv⟩) := HO.out.below hb2.out
    have hin : ∀ k, k < w1.heap.size → w2.heap[k]? = w1.heap[k]? := fun k hk => (hg2.block k (by omega) (by simp; omega)).trans (Below.heap_alloc _ _ _ hk)
    have HLO : Hid (LV.ok w2 ⟨l, .slice ao1 l.takes.length cp1, .slice ao2 l.leads.length cp2⟩) := ⟨(hout.out.takes.of_block fun k hk => hin k (hout.out.takes.lt k hk).2).rdT, (hout.out.leads.of_block fun k hk => hin k (hout.out.leads.lt k hk).2).rdT, hout.out.few⟩
    have e0 : w2.cell? ⟨w1.heap.size, 0, none⟩ = some (.int .i64 (l.word : Int)) := hbx2.cell rfl
    have e1 : w2.cell? ⟨w1.heap.size, 1, none⟩ = some (.string l.sets.1) := hbx2.cell rfl
    have e2 : w2.cell? ⟨w1.heap.size, 2, none⟩ = some (.int .i64 (l.sets.2 : Int)) := hbx2.cell rfl
    have e3 : w2.cell? ⟨w1.heap.size, 3, none⟩ = some (.slice ao1 l.takes.length cp1) := hbx2.cell rfl
    have e4 : w2.cell? ⟨w1.heap.size, 4, none⟩ = some (.int .i64 l.number) := hbx2.cell rfl
    have e5 : w2.cell? ⟨w1.heap.size, 5, none⟩ = some (.slice ao2 l.leads.length cp2) := hbx2.cell rfl
    have HBX : Hid (BoxIn w2 w1.heap.size 117 (lineCells l (.slice ao1 l.takes.length cp1) (.slice ao2 l.leads.length cp2)).toList) := hbx2
    have hs12 := hb1.out.size
    have hs2' : w2.heap.size = w1.heap.size + 1 := by rw [hs2]; simp
    obtain ⟨aoL, cpL, hLv⟩ : ∃ ao cp, blv = .slice ao lns.length cp := HO2.out.lines.len
    subst hLv
    obtain ⟨cur, hcur, hcells⟩ := HO2.out.blk
    have c2 : w2.cell? ⟨gB, offB + 2, none⟩ = some (.slice aoL lns.length cpL) := by
      have := hcells 2 _ rfl
      simp [World.cell?, hcur, this]
    have c2a : ∀ o, (w2.alloc o).cell? ⟨gB, offB + 2, none⟩ = some (.slice aoL lns.length cpL) := fun o => (World.cell?_of_block (Below.heap_alloc w2 o _ (blk_lt hcur))).trans c2
    have HCUR : Hid (w2.heap[gB]? = some (.cells cur 109 (0, 0)) ∧ ∀ j u, (BV.cells ⟨first, phis, lns, pv, .slice aoL lns.length cpL⟩)[j]? = some u → cur[offB + j]? = some u) := ⟨hcur, hcells⟩
    have hgBw : gB < w.heap.size := by
      obtain ⟨cur', h1, -⟩ := HO.out.blk
      exact blk_lt h1
    have hLlt : ∀ k, (Value.slice aoL lns.length cpL).ownBlock = some k → k < w.heap.size := fun k hk => (HO.out.lines.lt k hk).2
    obtain ⟨g', off', cap', w3, happ, hown3, hgw3, hloc3, hlt3⟩ := app_later w2 c 107 117 _ 6 88 Tryz.underlying107 infoLine rfl (by decide) (.slice aoL lns.length cpL) lns.length (cellsL lns) HO2.out.lines [.int .i64 (l.word : Int), .string l.sets.1, .int .i64 (l.sets.2 : Int), .slice ao1 l.takes.length cp1, .int .i64 l.number, .slice ao2 l.leads.length cp2] rfl (one6 rfl rfl rfl rfl rfl rfl) (by unfold maxLen; omega) (by omega) (by omega)
    have HB3 : Hid (w3.heap[gB]? = some (.cells cur 109 (0, 0))) := grown_box HO2.out.lines hgw3 hcur (by decide)
    have c23 : w3.cell? ⟨gB, offB + 2, none⟩ = some (.slice aoL lns.length cpL) := (World.cell?_of_block (HB3.out.trans hcur.symm)).trans c2
    have f23 : w3.frozen? ⟨gB, offB + 2, none⟩ = false := by simp [World.frozen?, HB3.out]
    have hblk3 : w3.heap[w1.heap.size]? = w2.heap[w1.heap.size]? := (hgw3.block _ (by simp; omega) (fun e => by have := hLlt _ e.symm; omega)).trans (Below.heap_alloc _ _ _ (by omega))
    have x0 : ∀ u, (w3.setCell ⟨gB, offB + 2, none⟩ u).cell? ⟨w1.heap.size, 0, none⟩ = some (.int .i64 (l.word : Int)) := fun u => (World.cell?_of_block (by rw [Below.heap_setCell _ _ _ _ (by show w1.heap.size ≠ gB; omega)]; exact hblk3)).trans e0
    have HOW : Hid (OwnS w3 c 117 6 (.slice (some ⟨g', off', none⟩) (lns.length + 1) cap') (lns.length + 1) (cellsL lns ++ [.int .i64 (l.word : Int), .string l.sets.1, .int .i64 (l.sets.2 : Int), .slice ao1 l.takes.length cp1, .int .i64 l.number, .slice ao2 l.leads.length cp2])) := hown3
    have HGW : Hid ((w2.alloc (.cells [.int .i64 (l.word : Int), .string l.sets.1, .int .i64 (l.sets.2 : Int), .slice ao1 l.takes.length cp1, .int .i64 l.number, .slice ao2 l.leads.length cp2].toArray 117)).grownBy w3 (Value.slice aoL lns.length cpL).ownBlock) := hgw3
    have HS2 : Hid (w2.heap.size = w1.heap.size + 1) := hs2'
    clear hbx2 hg2 hs2 hs2' hin hcur hcells hown3 hgw3 hloc3 hlt3 hblk3
    go_region
    all_goals (go_wp2_with (first | (go_at_call 162; refine (HEN.out _).mono ?_; rintro e w9 ⟨rfl, rfl⟩)))
    go_ret2
    refine ⟨rfl, .slice ao1 l.takes.length cp1, .slice ao2 l.leads.length cp2, _, ⟨⟨_, set_block HB3.out _, ?_⟩, ?_, ?_, ?_, ?_⟩, ⟨cur, 2, _, ?_, set_block HB3.out _, by omega, rfl⟩, ?_, rfl⟩
    · intro j u hj
      have hc := HCUR.out.2
      rcases (by omega : j = 0 ∨ j = 1 ∨ j = 2 ∨ 3 ≤ j) with rfl | rfl | rfl | hj3
      · rw [Array.getElem?_setIfInBounds_ne (by omega)]; exact hc 0 u hj
      · rw [Array.getElem?_setIfInBounds_ne (by omega)]; exact hc 1 u hj
      · have h2 := hc 2 _ rfl
        have hsz : offB + 2 < cur.size := by
          rcases Nat.lt_or_ge (offB + 2) cur.size with h | h
          · exact h
          · rw [Array.getElem?_eq_none h] at h2; cases h2
        rw [Array.getElem?_setIfInBounds_self_of_lt hsz]
        exact hj
      · obtain ⟨j, rfl⟩ : ∃ t, j = t + 3 := ⟨j - 3, by omega⟩
        simp [BV.cells] at hj
    · exact (grown_own HO2.out.lines HGW.out HO2.out.phis (by decide)).set_other HB3.out (by decide) _
    · have := OwnS.set_other HOW.out HB3.out (by decide) (.slice (some ⟨g', off', none⟩) (lns.length + 1) cap') (i := offB + 2)
      show OwnS _ _ _ _ _ (lns ++ [_]).length (cellsL (lns ++ [_]))
      rw [List.length_append, cellsL_append]
      exact this
    · exact fun x hx => (HO2.out.phi x hx).keep ((grown_keeps HO2.out.lines HGW.out (by decide)).setCell HB3.out (by decide) _)
    · intro x hx
      have k1 : Keeps 111 w2 (w3.setCell ⟨gB, offB + 2, none⟩ (.slice (some ⟨g', off', none⟩) (lns.length + 1) cap')) := (grown_keeps HO2.out.lines HGW.out (by decide)).setCell HB3.out (by decide) _
      have k2 : Keeps 3 w2 (w3.setCell ⟨gB, offB + 2, none⟩ (.slice (some ⟨g', off', none⟩) (lns.length + 1) cap')) := (grown_keeps HO2.out.lines HGW.out (by decide)).setCell HB3.out (by decide) _
      rcases List.mem_append.1 hx with hx | hx
      · exact (HO2.out.line x hx).keep k1 k2
      · rw [List.mem_singleton] at hx
        subst hx
        exact HLO.out.keep k1 k2
    · rw [← hb2.out.block gB hgBw]
      exact HCUR.out.1
    · have hg := HGW.out
      refine ⟨hg.os.trans hb2.out.os, hg.tape.trans hb2.out.tape, hg.output.trans hb2.out.output, ?_, fun k hk hlt => ?_⟩
      · have h1 := hg.size
        have h2 := hb2.out.size
        simp at h1
        simp
        omega
      · rw [Below.heap_setCell _ _ _ _ (fun e => hk (.inl e)), hg.block k (by have := HS2.out; simp; omega) (fun e => hk (.inr (.inl e.symm))), Below.heap_alloc _ _ _ (by have := HS2.out; omega), hb2.out.block k hlt]

set_option maxRecDepth 100000 in
set_option maxHeartbeats 8000000 in
theorem goOn_forms_no (w : World) (base0 c gB offB ln bl : Nat) (s : BA) (hs : s.size ≤ 4294967280) (hE : Env base0 w) (b : BV) (h : OpenB w c gB offB b) (hcnt : b.lines.length ≤ 1000000) (hl : lineOf 1 (cuts 32 s) = none) (hno : b.lines.length ≠ 0 ∨ phiOf (cuts 32 s) = none) :
    Calls Tryz.prog 127 #[.agg #[.int .i64 (ln : Int), .int .i64 (bl : Int), .int .i64 1], .pointer (some ⟨gB, offB, none⟩), .string s] w fun e w' => e = .returned (.tuple #[.bool false, .bool false]) ∧ Below w.heap.size w w' := by
  obtain ⟨first, phis, lns, pv, blv⟩ := b
  replace hcnt : lns.length ≤ 1000000 := hcnt
  have HE : Hid (Env base0 w) := hE
  have HR : Hid (∀ w1, Env base0 w1 → Calls Tryz.prog 161 #[.string s, .int .i64 1] w1 fun e w' => (∃ cs : List Value, e = .returned (.tuple #[.agg cs.toArray, .bool false]) ∧ cs.length = 6 ∧ cs.toArray.all (·.oneCell') = true) ∧ Below w1.heap.size w1 w') := by
    intro w1 h1
    refine (read_any w1 base0 1 (.inr rfl) s hs h1).mono ?_
    rintro e w' ⟨⟨v, rfl, ⟨cs, rfl, h4, h5⟩, -⟩, h3⟩
    refine ⟨⟨cs, ?_, h4, h5⟩, h3⟩
    rw [hl]
    rfl
  have HRP : Hid (phiOf (cuts 32 s) = none → ∀ W, Below w.heap.size w W → Calls Tryz.prog 160 #[.string s] W fun e w' => e = .returned (.tuple #[.agg #[.string ⟨#[]⟩, .int .i64 0, .slice none 0 0], .bool false]) ∧ Below W.heap.size W w') := fun hp W hb => (readPhi_any W base0 s hs (hE.below hb)).mono (by rintro e w' ⟨-, h2, h3⟩; exact ⟨h2 hp, h3⟩)
  obtain ⟨aoL0, cpL0, hLv0⟩ : ∃ ao cp, blv = .slice ao lns.length cp := h.lines.len
  have hcb : ∀ o, (w.alloc o).cell? ⟨gB, offB + 2, none⟩ = some (.slice aoL0 lns.length cpL0) := by
    intro o
    obtain ⟨cur0, hcur0, hcells0⟩ := h.blk
    have h1 := hcells0 2 _ rfl
    rw [hLv0] at h1
    have h2 : w.cell? ⟨gB, offB + 2, none⟩ = some (.slice aoL0 lns.length cpL0) := by simp [World.cell?, hcur0, h1]
    exact (World.cell?_of_block (Below.heap_alloc w o _ (blk_lt hcur0))).trans h2
  have HLV : Hid (blv = .slice aoL0 lns.length cpL0) := hLv0
  clear h hE hl hLv0
  replace hno : lns.length ≠ 0 ∨ (lns.length = 0 ∧ phiOf (cuts 32 s) = none) := by
    rcases hno with h | h
    · exact .inl h
    · rcases Nat.eq_zero_or_pos lns.length with h0 | h0
      · exact .inr ⟨h0, h⟩
      · exact .inl (by omega)
  go_enter Tryz.func127, Tryz.ntmps127
  rcases hno with hno | ⟨h0, hph⟩
  case' inl =>
    have hno' : ((lns.length : Int) == 0) = false := by rw [beq_eq_false_iff_ne]; omega
    clear HRP hno
    go_wp2_with fail
    have HW : Hid (Below w.heap.size w (w.alloc (.cells #[.int .i64 (ln : Int), .int .i64 (bl : Int), .int .i64 1] 73))) := (Below.refl _ _).alloc (Nat.le_refl _) _
    generalize w.alloc (.cells #[.int .i64 (ln : Int), .int .i64 (bl : Int), .int .i64 1] 73) = W0 at HW ⊢
    clear hno' hcb
  case' inr =>
    have hno' : ((lns.length : Int) == 0) = true := by rw [beq_iff_eq]; omega
    have HRP2 : Hid _ := HRP.out hph
    clear HRP h0 hph
    go_wp2_with (first
      | (go_at_call 160; refine (HRP2.out _ ((Below.refl _ _).alloc (Nat.le_refl _) _)).mono ?_; rintro e w0 ⟨rfl, hb0⟩; have HB0 : Hid (Below w.heap.size w w0) := ((Below.refl _ _).alloc (Nat.le_refl _) _).trans (hb0.mono (by simp)); have HK0 : Hid (BoxIn w0 w.heap.size 73 [.int .i64 (ln : Int), .int .i64 (bl : Int), .int .i64 1]) := (BoxIn.new w 73 [.int .i64 (ln : Int), .int .i64 (bl : Int), .int .i64 1]).below hb0; have k2 : ∀ o, (w0.alloc o).cell? ⟨w.heap.size, 2, none⟩ = some (.int .i64 1) := (fun o => (HK0.out.below ((Below.refl _ _).alloc (Nat.le_refl _) o)).cell rfl); clear hb0))
    have HW : Hid (Below w.heap.size w (w0.alloc (.cells #[.string ⟨#[]⟩, .int .i64 0, .slice none 0 0] 114))) := HB0.out.alloc HB0.out.size _
    generalize w0.alloc (.cells #[.string ⟨#[]⟩, .int .i64 0, .slice none 0 0] 114) = W0 at HW ⊢
    clear hno' hcb k2 HK0 HB0 HRP2
  all_goals
    refine (HR.out _ (HE.out.below HW.out)).mono ?_
    rintro e w1 ⟨⟨cs, rfl, h6, hone⟩, hb0⟩
    have HONE : Hid _ := hone
    have H6 : Hid _ := h6
    have hb1 : Hid (Below w.heap.size w w1) := HW.out.trans (hb0.mono HW.out.size)
    clear hb0 hone h6 HW
    go_wp2_with (first
      | (refine wpList_store_box aggLine rfl _ _ rfl _ rfl zLine cs rfl (BoxIn.new w1 _ _) rfl H6.out HONE.out ?_; intro w2 hbx2 hg2 hs2))
    go_ret2
    exact ⟨rfl, (hb1.out.alloc hb1.out.size _).trans (hg2.below (by have := hb1.out.size; simp; omega) (fun k hk => by have := hb1.out.size; omega))⟩

theorem infoPhi : (Tryz.prog.info? 114).map (fun i => (i.zero, i.size, i.bytes)) = some (some (.agg #[.string ByteArray.empty, .int .i64 0, .slice none 0 0]), 3, 48) := by kernel_rfl

set_option maxRecDepth 100000 in
set_option maxHeartbeats 8000000 in
theorem goOn_forms_phi (w : World) (base0 c gB offB ln bl : Nat) (s : BA) (hs : s.size ≤ 4294967280) (hE : Env base0 w) (b : BV) (h : OpenB w c gB offB b) (hc : c ≤ w.heap.size) (hcnt : b.phis.length ≤ 1000000) (h0 : b.lines.length = 0) (ph : PhiG) (hp : phiOf (cuts 32 s) = some ph) :
    Calls Tryz.prog 127 #[.agg #[.int .i64 (ln : Int), .int .i64 (bl : Int), .int .i64 1], .pointer (some ⟨gB, offB, none⟩), .string s] w fun e w' => e = .returned (.tuple #[.bool true, .bool true]) ∧ ∃ cv pv2, Went w w' c gB offB b { b with phis := b.phis ++ [⟨ph, cv⟩], pv := pv2 } := by
  obtain ⟨first, phis, lns, pv, blv⟩ := b
  replace hcnt : phis.length ≤ 1000000 := hcnt
  have HO : Hid (OpenB w c gB offB ⟨first, phis, lns, pv, blv⟩) := h
  have HRP : Hid (∀ W, Below w.heap.size w W → Calls Tryz.prog 160 #[.string s] W fun e w' => (∃ cv, e = .returned (.tuple #[.agg #[.string ph.sets.1, .int .i64 (ph.sets.2 : Int), cv], .bool true]) ∧ OwnS w' W.heap.size 163 3 cv ph.choices.length (choiceCells ph.choices) ∧ ph.choices.length ≤ 41) ∧ Below W.heap.size W w') := fun W hb => (readPhi_any W base0 s hs (hE.below hb)).mono (by rintro e w' ⟨h1, -, h3⟩; exact ⟨h1 ph hp, h3⟩)
  obtain ⟨aoL0, cpL0, hLv0⟩ : ∃ ao cp, blv = .slice ao lns.length cp := h.lines.len
  have hcb : ∀ o, (w.alloc o).cell? ⟨gB, offB + 2, none⟩ = some (.slice aoL0 lns.length cpL0) := by
    intro o
    obtain ⟨cur0, hcur0, hcells0⟩ := h.blk
    have h1 := hcells0 2 _ rfl
    rw [hLv0] at h1
    have h2 : w.cell? ⟨gB, offB + 2, none⟩ = some (.slice aoL0 lns.length cpL0) := by simp [World.cell?, hcur0, h1]
    exact (World.cell?_of_block (Below.heap_alloc w o _ (blk_lt hcur0))).trans h2
  have hno' : ((lns.length : Int) == 0) = true := by rw [beq_iff_eq]; have : lns.length = 0 := h0; omega
  clear h hE hp hLv0 h0
  go_enter Tryz.func127, Tryz.ntmps127
  go_wp2_with (first
    | (go_at_call 160; refine (HRP.out _ ((Below.refl _ _).alloc (Nat.le_refl _) _)).mono ?_; rintro e w0 ⟨⟨cv, rfl, hcv, hc41⟩, hb0⟩; obtain ⟨aoC, cpC, rfl⟩ := hcv.len; have HCV : Hid (OwnS w0 _ 163 3 _ _ _) := hcv; have HB0 : Hid (Below w.heap.size w w0) := ((Below.refl _ _).alloc (Nat.le_refl _) _).trans (hb0.mono (by simp)); clear hb0 hcv))
  have HXP : Hid (BoxIn (w0.alloc (.cells #[.string ph.sets.1, .int .i64 (ph.sets.2 : Int), .slice aoC ph.choices.length cpC] 114)) w0.heap.size 114 [.string ph.sets.1, .int .i64 (ph.sets.2 : Int), .slice aoC ph.choices.length cpC]) := BoxIn.new w0 114 [.string ph.sets.1, .int .i64 (ph.sets.2 : Int), .slice aoC ph.choices.length cpC]
  have HCV2 : Hid (RdT (w0.alloc (.cells #[.string ph.sets.1, .int .i64 (ph.sets.2 : Int), .slice aoC ph.choices.length cpC] 114)) 163 3 (.slice aoC ph.choices.length cpC) ph.choices.length (choiceCells ph.choices)) := (HCV.out.of_block fun k hk => Below.heap_alloc _ _ _ (HCV.out.lt k hk).2).rdT
  have hb2 : Hid (Below w.heap.size w (w0.alloc (.cells #[.string ph.sets.1, .int .i64 (ph.sets.2 : Int), .slice aoC ph.choices.length cpC] 114))) := HB0.out.alloc HB0.out.size _
  have HS2 : Hid ((w0.alloc (.cells #[.string ph.sets.1, .int .i64 (ph.sets.2 : Int), .slice aoC ph.choices.length cpC] 114)).heap.size = w0.heap.size + 1) := by show _ = _; simp
  generalize w0.alloc (.cells #[.string ph.sets.1, .int .i64 (ph.sets.2 : Int), .slice aoC ph.choices.length cpC] 114) = w2 at HXP HCV2 hb2 HS2 ⊢
  have HO2 : Hid (OpenB w2 c gB offB ⟨first, phis, lns, pv, blv⟩) := HO.out.below hb2.out
  have e0 : w2.cell? ⟨w0.heap.size, 0, none⟩ = some (.string ph.sets.1) := HXP.out.cell rfl
  have e1 : w2.cell? ⟨w0.heap.size, 1, none⟩ = some (.int .i64 (ph.sets.2 : Int)) := HXP.out.cell rfl
  have e2 : w2.cell? ⟨w0.heap.size, 2, none⟩ = some (.slice aoC ph.choices.length cpC) := HXP.out.cell rfl
  have hs02 := HB0.out.size
  have hs2' := HS2.out
  obtain ⟨aoL, cpL, hLv⟩ : ∃ ao cp, pv = .slice ao phis.length cp := HO2.out.phis.len
  subst hLv
  obtain ⟨cur, hcur, hcells⟩ := HO2.out.blk
  have c2 : w2.cell? ⟨gB, offB + 1, none⟩ = some (.slice aoL phis.length cpL) := by
    have := hcells 1 _ rfl
    simp [World.cell?, hcur, this]
  have c2a : ∀ o, (w2.alloc o).cell? ⟨gB, offB + 1, none⟩ = some (.slice aoL phis.length cpL) := fun o => (World.cell?_of_block (Below.heap_alloc w2 o _ (blk_lt hcur))).trans c2
  have HCUR : Hid (w2.heap[gB]? = some (.cells cur 109 (0, 0)) ∧ ∀ j u, (BV.cells ⟨first, phis, lns, .slice aoL phis.length cpL, blv⟩)[j]? = some u → cur[offB + j]? = some u) := ⟨hcur, hcells⟩
  have hgBw : gB < w.heap.size := by
    obtain ⟨cur', h1, -⟩ := HO.out.blk
    exact blk_lt h1
  have hLlt : ∀ k, (Value.slice aoL phis.length cpL).ownBlock = some k → k < w.heap.size := fun k hk => (HO.out.phis.lt k hk).2
  obtain ⟨g', off', cap', w3, happ, hown3, hgw3, hloc3, hlt3⟩ := app_later w2 c 106 114 _ 3 48 Tryz.underlying106 infoPhi rfl (by decide) (.slice aoL phis.length cpL) phis.length (cellsP phis) HO2.out.phis [.string ph.sets.1, .int .i64 (ph.sets.2 : Int), .slice aoC ph.choices.length cpC] rfl (one3 rfl rfl rfl) (by unfold maxLen; omega) (by omega) (by omega)
  have HB3 : Hid (w3.heap[gB]? = some (.cells cur 109 (0, 0))) := grown_box HO2.out.phis hgw3 hcur (by decide)
  have c23 : w3.cell? ⟨gB, offB + 1, none⟩ = some (.slice aoL phis.length cpL) := (World.cell?_of_block (HB3.out.trans hcur.symm)).trans c2
  have f23 : w3.frozen? ⟨gB, offB + 1, none⟩ = false := by simp [World.frozen?, HB3.out]
  have HOW : Hid (OwnS w3 c 114 3 (.slice (some ⟨g', off', none⟩) (phis.length + 1) cap') (phis.length + 1) (cellsP phis ++ [.string ph.sets.1, .int .i64 (ph.sets.2 : Int), .slice aoC ph.choices.length cpC])) := hown3
  have HGW : Hid ((w2.alloc (.cells [.string ph.sets.1, .int .i64 (ph.sets.2 : Int), .slice aoC ph.choices.length cpC].toArray 114)).grownBy w3 (Value.slice aoL phis.length cpL).ownBlock) := hgw3
  simp only [hs2'] at happ
  clear hcur hcells hown3 hgw3 hloc3 hlt3 hno' hcb
  go_region
  all_goals go_wp2_with fail
  go_ret2
  refine ⟨rfl, .slice aoC ph.choices.length cpC, _, ⟨⟨_, set_block HB3.out _, ?_⟩, ?_, ?_, ?_, ?_⟩, ⟨cur, 1, _, ?_, set_block HB3.out _, by omega, rfl⟩, ?_, rfl⟩
  · intro j u hj
    have hc := HCUR.out.2
    rcases (by omega : j = 0 ∨ j = 1 ∨ j = 2 ∨ 3 ≤ j) with rfl | rfl | rfl | hj3
    · rw [Array.getElem?_setIfInBounds_ne (by omega)]; exact hc 0 u hj
    · have h2 := hc 1 _ rfl
      have hsz : offB + 1 < cur.size := by
        rcases Nat.lt_or_ge (offB + 1) cur.size with h | h
        · exact h
        · rw [Array.getElem?_eq_none h] at h2; cases h2
      rw [Array.getElem?_setIfInBounds_self_of_lt hsz]
      exact hj
    · rw [Array.getElem?_setIfInBounds_ne (by omega)]; exact hc 2 u hj
    · obtain ⟨j, rfl⟩ : ∃ t, j = t + 3 := ⟨j - 3, by omega⟩
      simp [BV.cells] at hj
  · have := OwnS.set_other HOW.out HB3.out (by decide) (.slice (some ⟨g', off', none⟩) (phis.length + 1) cap') (i := offB + 1)
    show OwnS _ _ _ _ _ (phis ++ [_]).length (cellsP (phis ++ [_]))
    rw [List.length_append, cellsP_append]
    exact this
  · exact (grown_own HO2.out.phis HGW.out HO2.out.lines (by decide)).set_other HB3.out (by decide) _
  · intro x hx
    have k1 : Keeps 163 w2 (w3.setCell ⟨gB, offB + 1, none⟩ (.slice (some ⟨g', off', none⟩) (phis.length + 1) cap')) := (grown_keeps HO2.out.phis HGW.out (by decide)).setCell HB3.out (by decide) _
    rcases List.mem_append.1 hx with hx | hx
    · exact (HO2.out.phi x hx).keep k1
    · rw [List.mem_singleton] at hx
      subst hx
      exact (show PV.ok w2 ⟨ph, .slice aoC ph.choices.length cpC⟩ from ⟨HCV2.out, hc41⟩).keep k1
  · intro x hx
    exact (HO2.out.line x hx).keep ((grown_keeps HO2.out.phis HGW.out (by decide)).setCell HB3.out (by decide) _) ((grown_keeps HO2.out.phis HGW.out (by decide)).setCell HB3.out (by decide) _)
  · rw [← hb2.out.block gB hgBw]
    exact HCUR.out.1
  · have hg := HGW.out
    refine ⟨hg.os.trans hb2.out.os, hg.tape.trans hb2.out.tape, hg.output.trans hb2.out.output, ?_, fun k hk hlt => ?_⟩
    · have h1 := hg.size
      have h2 := hb2.out.size
      simp at h1
      simp
      omega
    · rw [Below.heap_setCell _ _ _ _ (fun e => hk (.inl e)), hg.block k (by have := HS2.out; simp; omega) (fun e => hk (.inr (.inr e.symm))), Below.heap_alloc _ _ _ (by have := HS2.out; omega), hb2.out.block k hlt]

theorem goesOn_forms : GoesOn 1 := by
  intro w base0 c gB offB ln bl s b hs hE hO hc h1 h2
  by_cases hp : b.lines.length = 0 ∧ (phiOf (cuts 32 s)).isSome = true
  · obtain ⟨h0, hp⟩ := hp
    obtain ⟨ph, hph⟩ := Option.isSome_iff_exists.1 hp
    have hin : inB 1 b.g s = some ({ b.g with phis := b.g.phis ++ [ph] }, false) := by
      unfold inB
      rw [if_pos ⟨rfl, by simpa [BV.g] using h0⟩, hph]
    refine (goOn_forms_phi w base0 c gB offB ln bl s hs hE b hO hc h2 h0 ph hph).mono ?_
    rintro e w' ⟨rfl, cv, pv2, hW⟩
    refine ⟨fun b1 ends h => ?_, fun h => (by rw [hin] at h; cases h)⟩
    rw [hin] at h
    injection h with h
    injection h with h3 h4
    subst h3 h4
    refine ⟨rfl, _, ?_, hW⟩
    simp [BV.g]
  · have hno : b.lines.length ≠ 0 ∨ phiOf (cuts 32 s) = none := by
      rcases Nat.eq_zero_or_pos b.lines.length with h0 | h0
      · right
        cases hq : phiOf (cuts 32 s) with
        | none => rfl
        | some ph => exact absurd ⟨h0, by rw [hq]; rfl⟩ hp
      · exact .inl (by omega)
    have hin : inB 1 b.g s = match lineOf 1 (cuts 32 s) with | some l => some ({ b.g with lines := b.g.lines ++ [l] }, endsK l.word) | none => none := by
      have hz : (if (1 : Nat) = 1 ∧ b.g.lines.length = 0 then phiOf (cuts 32 s) else none) = none := by
        rcases hno with h | h
        · rw [if_neg (fun hh => h (by simpa [BV.g] using hh.2))]
        · split
          · exact h
          · rfl
      unfold inB
      rw [hz]
      cases lineOf 1 (cuts 32 s) <;> rfl
    cases hl : lineOf 1 (cuts 32 s) with
    | some l =>
      rw [hl] at hin
      refine (goOn_forms w base0 c gB offB ln bl s hs hE b hO hc h1 l hl hno).mono ?_
      rintro e w' ⟨rfl, tv, lv, lv2, hW⟩
      refine ⟨fun b1 ends h => ?_, fun h => (by rw [hin] at h; cases h)⟩
      rw [hin] at h
      injection h with h
      injection h with h3 h4
      subst h3 h4
      refine ⟨rfl, _, ?_, hW⟩
      simp [BV.g]
    | none =>
      rw [hl] at hin
      refine (goOn_forms_no w base0 c gB offB ln bl s hs hE b hO h1 hl hno).mono ?_
      rintro e w' ⟨rfl, hb⟩
      exact ⟨fun b1 ends h => (by rw [hin] at h; cases h), fun _ => ⟨rfl, hb⟩⟩

end Go.Proofs.YtbddcodljmglfaaGreatDoor
