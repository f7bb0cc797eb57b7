/- (*Line).add. -/
import Derived.Test.YtbddcodljmglfaaGreatDoorNums
import Derived.Test.YtbddcodljmglfaaGreatDoorMemA
import Derived.Test.YtbddcodljmglfaaGreatDoorRT3
import Derived.Deep.AppendLies
import Derived.Deep.RegionHeld3
set_option linter.unusedSimpArgs false
set_option linter.unusedVariables false
namespace Go.Proofs.YtbddcodljmglfaaGreatDoor
open Go.RowKit

/-- A line that is being read, in its box. -/
def lineCells (l : LineG) (tv lv : Value) : Array Value := #[.int .i64 (l.word : Int), .string l.sets.1, .int .i64 (l.sets.2 : Int), tv, .int .i64 l.number, lv]
structure LineIn (w : World) (base lb : Nat) (l : LineG) (tv lv : Value) : Prop where
  box : w.heap[lb]? = some (.cells (lineCells l tv lv) 117 (0, 0))
  le : base ≤ lb
  takes : OwnS w base 111 2 tv l.takes.length (vers l.takes)
  leads : OwnS w base 3 1 lv l.leads.length (nums l.leads)
  few : l.takes.length ≤ 3 ∧ l.leads.length ≤ 3

/-- The line behind a step that leaves its box as it was, in a world that has more. -/
theorem LineIn.keep {w w' : World} {base lb : Nat} {l : LineG} {tv lv : Value} (h : LineIn w base lb l tv lv) (hb : Below w.heap.size w w') : LineIn w' base lb l tv lv :=
  ⟨(hb.block _ (blk_lt h.box)).trans h.box, h.le, h.takes.of_block fun k hk => hb.block _ (h.takes.lt k hk).2, h.leads.of_block fun k hk => hb.block _ (h.leads.lt k hk).2, h.few⟩
/-- The line behind stores into its box alone. -/
theorem LineIn.boxed {w w' : World} {base lb : Nat} {l : LineG} {tv lv : Value} (h : LineIn w base lb l tv lv) (ho : ∀ k, k ≠ lb → w'.heap[k]? = w.heap[k]?) {l' : LineG} (hbox : w'.heap[lb]? = some (.cells (lineCells l' tv lv) 117 (0, 0)))
    (ht : l'.takes = l.takes) (hl : l'.leads = l.leads) : LineIn w' base lb l' tv lv :=
  ⟨hbox, h.le, by rw [ht]; exact h.takes.of_block fun k hk => ho _ (own_other h.takes h.box (by decide) k hk), by rw [hl]; exact h.leads.of_block fun k hk => ho _ (own_other h.leads h.box (by decide) k hk), by rw [ht, hl]; exact h.few⟩

set_option maxRecDepth 100000 in
set_option maxHeartbeats 2000000 in
theorem add1_any (w : World) (base0 base lb : Nat) (tg : Nat) (htg : tg = 0 ∨ tg = 1) (l : LineG) (tv lv : Value) (s : BA) (hs : s.size ≤ 4294967280) (hE : Env base0 w) (hbb : base ≤ w.heap.size) (h : LineIn w base lb l tv lv) :
    Calls Tryz.prog 189 #[.pointer (some ⟨lb, 0, none⟩), .int .i64 1, .string s, .int .i64 (tg : Int)] w fun e w' => e = .returned (.bool (readVer tg s).isSome) ∧ (∀ v, readVer tg s = some v → LineIn w' base lb { l with sets := v } tv lv) ∧ Below base w w' ∧ Keeps 9 w w' := by
  have HL : Hid (LineIn w base lb l tv lv) := h
  have HE : Hid (Env base0 w) := hE
  have hlt := blk_lt h.box
  clear h hE
  go_enter Tryz.func189, Tryz.ntmps189
  go_wp2_with (first | (go_at_call 159; refine (tongue_any _ base0 tg htg s hs HE.out).mono ?_; rintro e w1 ⟨⟨a, n, rfl, ha0⟩, hb0⟩; have ha : Hid _ := ha0; have hb : Hid _ := hb0; have HB : Hid _ := (hb0.block lb hlt).trans HL.out.box; have B := box6 HB.out; have c1 := B.c.2.1; have c2 := B.c.2.2.1; have f1 := B.f 1; have f2 := B.f 2; clear ha0 hb0 B))
  go_ret
  have HL1 := HL.out.keep hb.out
  refine ⟨rfl, fun v hv => ?_, ?_, ?_⟩
  · obtain ⟨rfl, rfl⟩ := ha.out v hv
    refine HL1.boxed (fun k hk => ?_) ?_ rfl rfl
    · rw [Below.heap_setCell _ _ _ _ hk, Below.heap_setCell _ _ _ _ hk]
    · rw [set_block (set_block HB.out _) _]
      rfl
  · exact ((hb.out.mono hbb).setCell HL.out.le _).setCell HL.out.le _
  · exact ((Keeps.of_below hb.out).setCell HB.out (by decide) _).setCell (set_block HB.out _) (by decide) _

set_option maxRecDepth 100000 in
set_option maxHeartbeats 2000000 in
theorem add3_any (w : World) (base0 base lb : Nat) (tg : Nat) (l : LineG) (tv lv : Value) (s : BA) (hs : s.size ≤ 4294967280) (hE : Env base0 w) (hbb : base ≤ w.heap.size) (h : LineIn w base lb l tv lv) :
    Calls Tryz.prog 189 #[.pointer (some ⟨lb, 0, none⟩), .int .i64 3, .string s, .int .i64 (tg : Int)] w fun e w' => e = .returned (.bool (numB s).isSome) ∧ (∀ v, numB s = some v → LineIn w' base lb { l with number := v } tv lv) ∧ Below base w w' ∧ Keeps 9 w w' := by
  have HL : Hid (LineIn w base lb l tv lv) := h
  have HE : Hid (Env base0 w) := hE
  have hlt := blk_lt h.box
  clear h hE
  go_enter Tryz.func189, Tryz.ntmps189
  go_wp2_with (first | (go_at_call 184; refine (readNumber_any _ base0 s hs HE.out).mono ?_; rintro e w1 ⟨⟨n, rfl, ha0, hlo, hhi⟩, hb0⟩; have ha : Hid _ := ha0; have hb : Hid _ := hb0; have HB : Hid _ := (hb0.block lb hlt).trans HL.out.box; have B := box6 HB.out; have c4 := B.c.2.2.2.2.1; have f4 := B.f 4; clear ha0 hb0 B))
  go_ret
  have HL1 := HL.out.keep hb.out
  refine ⟨rfl, fun v hv => ?_, ?_, ?_⟩
  · obtain rfl := ha.out v hv
    refine HL1.boxed (fun k hk => ?_) ?_ rfl rfl
    · rw [Below.heap_setCell _ _ _ _ hk]
    · rw [set_block HB.out _]
      rfl
  · exact (hb.out.mono hbb).setCell HL.out.le _
  · exact (Keeps.of_below hb.out).setCell HB.out (by decide) _

theorem nums_append (a b : List Nat) : nums (a ++ b) = nums a ++ nums b := by simp [nums]

set_option maxRecDepth 100000 in
set_option maxHeartbeats 2000000 in
theorem add4_any (w : World) (base0 base lb : Nat) (tg : Nat) (l : LineG) (tv lv : Value) (s : BA) (hs : s.size ≤ 4294967280) (hE : Env base0 w) (hbb : base ≤ w.heap.size) (h : LineIn w base lb l tv lv) (hfew : l.leads.length < 3) :
    Calls Tryz.prog 189 #[.pointer (some ⟨lb, 0, none⟩), .int .i64 4, .string s, .int .i64 (tg : Int)] w fun e w' => e = .returned (.bool (blkB s).isSome) ∧ (∀ v, blkB s = some v → ∃ lv', LineIn w' base lb { l with leads := l.leads ++ [v] } tv lv') ∧ Below base w w' ∧ Keeps 9 w w' := by
  have HL : Hid (LineIn w base lb l tv lv) := h
  have HE : Hid (Env base0 w) := hE
  have hlt := blk_lt h.box
  obtain ⟨i0, hi, hz0, hz1, hz2⟩ := info_parts infoInt
  clear h hE
  go_enter Tryz.func189, Tryz.ntmps189
  go_wp2_with (first
    | (go_at_call 211; refine (readBlock_any _ base0 s hs HE.out).mono ?_; rintro e w1 ⟨⟨n, rfl, ha0⟩, hb0⟩; have ha : Hid _ := ha0; have hb : Hid _ := hb0; have hsz := hb0.size; have HL1 : Hid _ := HL.out.keep hb0; have B := box6 HL1.out.box; have c5 := B.c.2.2.2.2.2; have f5 := B.f 5; clear ha0 hb0 B)
    | (at_builtin; refine wpList_append_ownS _ rfl _ _ 64 rfl base 3 i0 (.int .i64 0) 1 8 Tryz.underlying64 hi hz0 hz1 hz2 rfl (by decide) _ _ _ rfl (HL1.out.leads.alloc _) ⟨w1.heap.size, 0, none⟩ 1 1 [.int .i64 n] rfl rfl (cell_newL _ [_] _ _ rfl) (one1 rfl) (by decide) (by unfold maxLen; omega) (by omega) (by simp; omega) ?_; intro g' off' cap' w3 hown3 hgrow3 hloc3 hlt3; have HO : Hid _ := hown3; have HG : Hid _ := hgrow3; have HB3 : Hid _ := grown_box HL1.out.leads hgrow3 HL1.out.box (by decide); have B3 := box6 HB3.out; have c53 := B3.c.2.2.2.2.2; have f53 := B3.f 5; clear hown3 hgrow3 hloc3 B3))
  go_ret
  refine ⟨rfl, fun v hv => ?_, ?_, ?_⟩
  · obtain rfl := ha.out v hv
    refine ⟨_, (by rw [set_block HB3.out _]; rfl), HL1.out.le, ?_, ?_, HL1.out.few.1, by simp; omega⟩
    · exact (grown_own HL1.out.leads HG.out HL1.out.takes (by decide)).set_other HB3.out (by decide) _
    · have := OwnS.set_other HO.out HB3.out (by decide) (.slice (some ⟨g', off', none⟩) (l.leads.length + 1) cap') (i := 5)
      rw [nums_append, List.length_append]
      exact this
  · exact ((hb.out.mono hbb).trans (grown_below HL1.out.leads HG.out (by omega))).setCell HL.out.le _
  · exact ((Keeps.of_below hb.out).trans (grown_keeps HL1.out.leads HG.out (by decide))).setCell HB3.out (by decide) _

attribute [local go_sem ↓] run_execOp_append

theorem infoVersion : (Tryz.prog.info? 111).map (fun i => (i.zero, i.size, i.bytes)) = some (some (.agg #[.string ByteArray.empty, .int .i64 0]), 2, 24) := by kernel_rfl

set_option maxRecDepth 100000 in
set_option maxHeartbeats 2000000 in
theorem add2_any (w : World) (base0 base lb : Nat) (tg : Nat) (htg : tg = 0 ∨ tg = 1) (l : LineG) (tv lv : Value) (s : BA) (hs : s.size ≤ 4294967280) (hE : Env base0 w) (hbb : base ≤ w.heap.size) (h : LineIn w base lb l tv lv) (hfew : l.takes.length < 3) :
    Calls Tryz.prog 189 #[.pointer (some ⟨lb, 0, none⟩), .int .i64 2, .string s, .int .i64 (tg : Int)] w fun e w' => e = .returned (.bool (readVer tg s).isSome) ∧ (∀ v, readVer tg s = some v → ∃ tv', LineIn w' base lb { l with takes := l.takes ++ [v] } tv' lv) ∧ Below base w w' ∧ Keeps 9 w w' := by
  have HL : Hid (LineIn w base lb l tv lv) := h
  have HE : Hid (Env base0 w) := hE
  have hlt := blk_lt h.box
  clear h hE
  go_enter Tryz.func189, Tryz.ntmps189
  go_wp2_with (first
    | (go_at_call 159; refine (tongue_any _ base0 tg htg s hs (HE.out.below ((Below.refl _ _).alloc (Nat.le_refl _) _))).mono ?_; rintro e w1 ⟨⟨a, n, rfl, ha0⟩, hb0⟩; have ha : Hid _ := ha0; obtain ⟨p0, p1, q0, q1, d0, d1, hW, hsz⟩ := var2_after hb0; have HW : Hid _ := hW (.string a) (.int .i64 n); have HL1 : Hid _ := HL.out.keep HW.out; have B := box6 HL1.out.box; have c3 := B.c.2.2.2.1; have f3 := B.f 3; have c3' : w1.cell? ⟨lb, 3, none⟩ = some tv := (by have c4 := c3; rw [World.cell?_setCell_other _ _ _ _ (by intro e; injection e with e1; omega), World.cell?_setCell_other _ _ _ _ (by intro e; injection e with e1; omega)] at c4; exact c4); clear ha0 hb0 B hW))
  have e0 : ((w1.setCell ⟨w.heap.size, 0, none⟩ (.string a)).setCell ⟨w.heap.size, 1, none⟩ (.int .i64 n)).cell? ⟨w.heap.size, 0, none⟩ = some (.string a) := by rw [World.cell?_setCell_other _ _ _ _ (by simp)]; exact d0 _
  have e1 := d1 (.string a) (.int .i64 n)
  have hsz2 : w.heap.size + 1 ≤ ((w1.setCell ⟨w.heap.size, 0, none⟩ (.string a)).setCell ⟨w.heap.size, 1, none⟩ (.int .i64 n)).heap.size := by simpa [World.setCell] using hsz
  clear p0 p1 q0 q1 d0 d1 c3' hsz
  generalize ((w1.setCell ⟨w.heap.size, 0, none⟩ (.string a)).setCell ⟨w.heap.size, 1, none⟩ (.int .i64 n)) = W at *
  have htl := HL.out.takes.lt
  have ag : tv.ownBlock ≠ some lb := fun e => own_other HL1.out.takes HL1.out.box (by decide) lb e rfl
  have ak : tv.ownBlock ≠ some w.heap.size := fun e => by have := (htl _ e).2; omega
  clear htl
  obtain ⟨ao, cp, rfl⟩ := HL1.out.takes.len
  obtain ⟨g', off', cap', w3, happ, hown3, hg2, hloc3, hlt3⟩ := app_later W base 49 111 _ 2 24 Tryz.underlying49 infoVersion rfl (by decide) _ _ _ HL1.out.takes [.string a, .int .i64 n] rfl (one2 rfl rfl) (by unfold maxLen; omega) (by omega) (by omega)
  have HB3 : Hid _ := grown_box HL1.out.takes hg2 HL1.out.box (by decide)
  have B3 := box6 HB3.out
  have c33 := B3.c.2.2.2.1
  have f33 := B3.f 3
  have HO : Hid _ := hown3
  have HG : Hid _ := hg2
  clear B3 hown3 hg2 hloc3 hlt3 ag ak
  have c3a : ∀ o, (W.alloc o).cell? ⟨lb, 3, none⟩ = some (.slice ao l.takes.length cp) := fun o => (World.cell?_of_block (Below.heap_alloc W o _ (blk_lt HL1.out.box))).trans c3
  go_region
  all_goals go_wp2_with fail
  go_ret
  refine ⟨rfl, fun v hv => ?_, ?_, ?_⟩
  · obtain ⟨rfl, rfl⟩ := ha.out v hv
    refine ⟨_, (by rw [set_block HB3.out _]; rfl), HL1.out.le, ?_, ?_, by simp; omega, HL1.out.few.2⟩
    · have := OwnS.set_other HO.out HB3.out (by decide) (.slice (some ⟨g', off', none⟩) (l.takes.length + 1) cap') (i := 3)
      rw [vers_append, List.length_append]
      exact this
    · exact (grown_own HL1.out.takes HG.out HL1.out.leads (by decide)).set_other HB3.out (by decide) _
  · exact ((HW.out.mono hbb).trans (grown_below HL1.out.takes HG.out (by omega))).setCell HL1.out.le _
  · exact ((Keeps.of_below HW.out).trans (grown_keeps HL1.out.takes HG.out (by decide))).setCell HB3.out (by decide) _

/-- One word taken into the line. -/
theorem add_any (w : World) (base0 base lb : Nat) (tg : Nat) (htg : tg = 0 ∨ tg = 1) (l : LineG) (tv lv : Value) (p : Nat) (hp : 1 ≤ p ∧ p ≤ 4) (s : BA) (hs : s.size ≤ 4294967280) (hE : Env base0 w) (hbb : base ≤ w.heap.size) (h : LineIn w base lb l tv lv) (hfew : l.takes.length < 3 ∧ l.leads.length < 3) :
    Calls Tryz.prog 189 #[.pointer (some ⟨lb, 0, none⟩), .int .i64 (p : Int), .string s, .int .i64 (tg : Int)] w fun e w' => e = .returned (.bool (addPart tg p s l).isSome) ∧ (∀ l', addPart tg p s l = some l' → ∃ tv' lv', LineIn w' base lb l' tv' lv') ∧ Below base w w' ∧ Keeps 9 w w' := by
  rcases (by omega : p = 1 ∨ p = 2 ∨ p = 3 ∨ p = 4) with rfl | rfl | rfl | rfl
  · refine (add1_any w base0 base lb tg htg l tv lv s hs hE hbb h).mono ?_
    rintro e w' ⟨rfl, h1, h2⟩
    refine ⟨?_, fun l' hl => ?_, h2⟩
    · simp only [addPart]; cases readVer tg s <;> rfl
    · simp only [addPart] at hl
      cases hq : readVer tg s with
      | none => simp [hq] at hl
      | some v => simp [hq] at hl; subst hl; exact ⟨_, _, h1 v hq⟩
  · refine (add2_any w base0 base lb tg htg l tv lv s hs hE hbb h hfew.1).mono ?_
    rintro e w' ⟨rfl, h1, h2⟩
    refine ⟨?_, fun l' hl => ?_, h2⟩
    · simp only [addPart]; cases readVer tg s <;> rfl
    · simp only [addPart] at hl
      cases hq : readVer tg s with
      | none => simp [hq] at hl
      | some v => simp [hq] at hl; subst hl; obtain ⟨tv', h3⟩ := h1 v hq; exact ⟨_, _, h3⟩
  · refine (add3_any w base0 base lb tg l tv lv s hs hE hbb h).mono ?_
    rintro e w' ⟨rfl, h1, h2⟩
    refine ⟨?_, fun l' hl => ?_, h2⟩
    · simp only [addPart]; cases numB s <;> rfl
    · simp only [addPart] at hl
      cases hq : numB s with
      | none => simp [hq] at hl
      | some v => simp [hq] at hl; subst hl; exact ⟨_, _, h1 v hq⟩
  · refine (add4_any w base0 base lb tg l tv lv s hs hE hbb h hfew.2).mono ?_
    rintro e w' ⟨rfl, h1, h2⟩
    refine ⟨?_, fun l' hl => ?_, h2⟩
    · simp only [addPart]; cases blkB s <;> rfl
    · simp only [addPart] at hl
      cases hq : blkB s with
      | none => simp [hq] at hl
      | some v => simp [hq] at hl; subst hl; obtain ⟨lv', h3⟩ := h1 v hq; exact ⟨_, _, h3⟩

end Go.Proofs.YtbddcodljmglfaaGreatDoor
