/- readNumber, readBlock, (Tongue).read. And what follows on it. -/
import Derived.Test.YtbddcodljmglfaaGreatDoorEnv
import Derived.Test.YtbddcodljmglfaaGreatDoorLeafA
import Derived.Test.YtbddcodljmglfaaGreatDoorMemA
import Derived.Test.YtbddcodljmglfaaGreatDoorTextZ
import Derived.Deep.AppendLies
import Derived.Deep.RegionHeld3
set_option linter.unusedSimpArgs false
set_option linter.unusedVariables false
namespace Go.Proofs.YtbddcodljmglfaaGreatDoor
open Go.RowKit

theorem toList_data (s : BA) : ByteArray.toList s = s.data.toList := by rw [ByteArray.toList_eq]

theorem numB_ok {s : BA} {v : Int} (h : Lib.parseIntB 64 s.data.toList = .ok v) : numB s = if (Lib.itoa v == ByteArray.toList s) = true ∧ -1000000000 ≤ v ∧ v ≤ 1000000000 then some v else none := by
  unfold numB
  rw [h]
  have : ((Lib.itoa v == ByteArray.toList s) = true) ↔ (⟨(Lib.itoa v).toArray⟩ : BA) = s := by
    rw [beq_iff_eq]
    exact ⟨fun h => ba_ext (by rw [← h, toList_data]), fun h => by rw [← h, toList_data]⟩
  simp only [this]
theorem numB_no {s : BA} (h : ∀ v, Lib.parseIntB 64 s.data.toList ≠ .ok v) : numB s = none := by
  unfold numB
  split
  · rename_i v hv; exact absurd hv (h v)
  · rfl

set_option maxHeartbeats 1000000 in
theorem readNumber_any (w : World) (base : Nat) (s : BA) (hs : s.size ≤ 4294967280) (hE : Env base w) :
    Calls Tryz.prog 184 #[.string s] w fun e w' => (∃ n : Int, e = .returned (.tuple #[.int .i64 n, .bool (numB s).isSome]) ∧ (∀ v, numB s = some v → n = v) ∧ -9223372036854775808 ≤ n ∧ n ≤ 9223372036854775807) ∧ Below w.heap.size w w' := by
  have HE : Hid (Env base w) := hE
  by_cases hp : ∃ v, Lib.parseIntB 64 s.data.toList = .ok v
  · obtain ⟨v, hv⟩ := hp
    have hb := Lib.parseIntB_bounds hv
    have hN : Hid _ := numB_ok hv
    have HP : Hid (Calls _ _ _ _ _) := parse_ok w s hs v hv
    have hv0 : -9223372036854775808 ≤ v ∧ v ≤ 9223372036854775807 := by simp at hb; omega
    obtain ⟨hlo, hhi⟩ := hv0
    clear hv hb hE
    go_enter Tryz.func184, Tryz.ntmps184
    go_wp2_with (first
      | (go_at_call 209; refine HP.out.mono ?_; rintro e w1 ⟨rfl, hb0⟩; have hb1 : Hid _ := hb0; clear hb0)
      | (go_at_call 88; refine (format_any _ base v hlo hhi (HE.out.below hb1.out)).mono ?_; rintro e w2 ⟨rfl, hb0⟩; have hb2 : Hid _ := hb0; clear hb0))
    · rename_i h1
      have hno : numB s = none := by rw [hN.out, if_neg (fun h => by rw [h.1] at h1; simp at h1)]
      go_ret2
      exact ⟨⟨0, by rw [hno]; rfl, (fun v hv => by rw [hno] at hv; cases hv), by omega, by omega⟩, hb1.out.trans (hb2.out.mono hb1.out.size)⟩
    · rename_i h1 h2
      have h1' : (Lib.itoa v == ByteArray.toList s) = true := by simpa using h1
      go_ret2
      refine ⟨⟨v, ?_, ?_, hlo, hhi⟩, hb1.out.trans (hb2.out.mono hb1.out.size)⟩
      · by_cases h3 : v ≤ 1000000000
        · rw [hN.out, if_pos ⟨h1', h2, h3⟩]; simp [h3]
        · rw [hN.out, if_neg (fun h => h3 h.2.2)]; simp [h3]
      · intro x hx
        rw [hN.out] at hx
        split at hx
        · injection hx
        · cases hx
    · rename_i h1 h2
      have hno : numB s = none := by rw [hN.out, if_neg (fun h => by omega)]
      go_ret2
      exact ⟨⟨v, by rw [hno]; rfl, (fun v hv => by rw [hno] at hv; cases hv), hlo, hhi⟩, hb1.out.trans (hb2.out.mono hb1.out.size)⟩
  · have hp' : ∀ v, Lib.parseIntB 64 s.data.toList ≠ .ok v := fun v hv => hp ⟨v, hv⟩
    have hno : Hid (numB s = none) := numB_no hp'
    have HP : Hid (Calls _ _ _ _ _) := parse_no w base s hs hE hp'
    clear hp hp' hE
    go_enter Tryz.func184, Tryz.ntmps184
    go_wp2_with (first | (go_at_call 209; refine HP.out.mono ?_; rintro e w1 ⟨⟨n, t, p, rfl⟩, hb0⟩; have hb1 : Hid _ := hb0; clear hb0))
    go_ret2
    exact ⟨⟨0, by rw [hno.out]; rfl, (fun v hv => by rw [hno.out] at hv; cases hv), by omega, by omega⟩, hb1.out⟩

theorem blkB_some {s : BA} {n : Nat} : blkB s = some n ↔ numB s = some (n : Int) := by
  unfold blkB
  cases h : numB s with
  | none => simp
  | some v =>
    simp only
    split
    · rename_i h0
      simp only [Option.some.injEq]
      omega
    · rename_i h0
      simp only [Option.some.injEq]
      constructor
      · intro h; cases h
      · intro h; omega
theorem blkB_isSome (s : BA) (n : Int) (h : ∀ v, numB s = some v → n = v) : (blkB s).isSome = ((numB s).isSome && decide (0 ≤ n)) := by
  unfold blkB
  cases hq : numB s with
  | none => simp
  | some v =>
    have := h v hq
    subst this
    simp only
    split
    · rename_i h0; simp [h0]
    · rename_i h0; simp [h0]

set_option maxHeartbeats 1000000 in
theorem readBlock_any (w : World) (base : Nat) (s : BA) (hs : s.size ≤ 4294967280) (hE : Env base w) :
    Calls Tryz.prog 211 #[.string s] w fun e w' => (∃ n : Int, e = .returned (.tuple #[.int .i64 n, .bool (blkB s).isSome]) ∧ (∀ v, blkB s = some v → n = (v : Int))) ∧ Below w.heap.size w w' := by
  have HP : Hid (Calls _ _ _ _ _) := readNumber_any w base s hs hE
  clear hE
  go_enter Tryz.func211, Tryz.ntmps211
  go_wp2_with (first | (go_at_call 184; refine HP.out.mono ?_; rintro e w1 ⟨⟨n, rfl, hn0, hlo, hhi⟩, hb0⟩; have hb1 : Hid _ := hb0; have hn : Hid _ := hn0; clear hb0 hn0; have hB : Hid _ := blkB_isSome s n hn.out; generalize (numB s).isSome = ok at *))
  · rename_i h1
    go_ret2
    refine ⟨⟨n, by rw [hB.out, h1]; simp, fun v hv => ?_⟩, hb1.out⟩
    exact hn.out _ (blkB_some.1 hv)
  · rename_i h1
    go_ret2
    refine ⟨⟨n, by rw [hB.out]; simp [h1], fun v hv => ?_⟩, hb1.out⟩
    exact hn.out _ (blkB_some.1 hv)

theorem tongue_names (w : World) (s : BA) : Calls Tryz.prog 159 #[.int .i64 0, .string s] w fun e w' => (∃ (a : BA) (n : Int), e = .returned (.tuple #[.agg #[.string a, .int .i64 n], .bool (readVer 0 s).isSome]) ∧ ∀ v, readVer 0 s = some v → a = v.1 ∧ n = (v.2 : Int)) ∧ Below w.heap.size w w' := by
  have hq : Hid (readVer 0 s = if isNm s = true then some (s, 0) else none) := by show _ = _; simp [readVer]
  go_enter Tryz.func159, Tryz.ntmps159
  go_wp2_with (first | (go_at_call 182; refine (isName_any _ s).mono ?_; rintro e w1 ⟨rfl, rfl⟩))
  go_returns
  refine ⟨⟨s, 0, ?_, ?_⟩, (Below.refl _ _).alloc (Nat.le_refl _) _⟩
  · rw [hq.out]
    cases h : isNm s <;> rfl
  · intro v hv
    rw [hq.out] at hv
    split at hv
    · injection hv with hv; subst hv; exact ⟨rfl, rfl⟩
    · cases hv

theorem size_extract_le (s : BA) (a b : Nat) : (s.extract a b).size ≤ s.size := by rw [ByteArray.size_extract]; omega
theorem cutTail_size (c : UInt8) (s : BA) : (cutTail c s).size ≤ s.size := by
  unfold cutTail
  split
  · exact size_extract_le _ _ _
  · show (0 : Nat) ≤ _; omega
theorem cutHead_size (c : UInt8) (s : BA) : (cutHead c s).size ≤ s.size := by
  unfold cutHead
  split
  · exact size_extract_le _ _ _
  · omega

theorem readVer_facts {s T H : BA} {n : Int} (hq : readVer 1 s = match numB T with
    | some v => if isNm H = true ∧ 0 ≤ v ∧ v ≤ 999 then some (H, v.toNat) else none
    | none => none) (hn : ∀ v, numB T = some v → n = v) :
    (readVer 1 s).isSome = ((numB T).isSome && (isNm H && (decide (0 ≤ n) && decide (n ≤ 999)))) ∧ ∀ v, readVer 1 s = some v → H = v.1 ∧ n = (v.2 : Int) := by
  rw [hq]
  cases h : numB T with
  | none => simp
  | some v =>
    have := hn v h
    subst this
    simp only
    split
    · rename_i hc
      refine ⟨by simp [hc.1, hc.2.1, hc.2.2], ?_⟩
      intro u hu
      injection hu with hu
      subst hu
      exact ⟨rfl, by simp; omega⟩
    · rename_i hc
      refine ⟨?_, fun u hu => by cases hu⟩
      by_cases h1 : isNm H = true <;> by_cases h2 : 0 ≤ n <;> by_cases h3 : n ≤ 999 <;> simp_all

set_option maxHeartbeats 1000000 in
theorem tongue_versions (w : World) (base : Nat) (s : BA) (hs : s.size ≤ 4294967280) (hE : Env base w) : Calls Tryz.prog 159 #[.int .i64 1, .string s] w fun e w' => (∃ (a : BA) (n : Int), e = .returned (.tuple #[.agg #[.string a, .int .i64 n], .bool (readVer 1 s).isSome]) ∧ ∀ v, readVer 1 s = some v → a = v.1 ∧ n = (v.2 : Int)) ∧ Below w.heap.size w w' := by
  have HC : Hid (∀ w1, Env base w1 → Calls Tryz.prog 183 #[.string s, .string ⟨#[46]⟩] w1 fun e w' => (∃ b, e = .returned (.tuple #[.string (cutHead 46 s), .string (cutTail 46 s), .bool b])) ∧ ∃ n, w' = w1.drewN n) := fun w1 h => scut_any w1 base s 46 hs h
  have HE : Hid (Env base w) := hE
  have ht := cutTail_size 46 s
  have hh := cutHead_size 46 s
  have hq : Hid (readVer 1 s = match numB (cutTail 46 s) with
    | some v => if isNm (cutHead 46 s) = true ∧ 0 ≤ v ∧ v ≤ 999 then some (cutHead 46 s, v.toNat) else none
    | none => none) := by show _ = _; unfold readVer; rw [if_neg (by decide)]; cases numB (cutTail 46 s) <;> rfl
  generalize cutTail 46 s = T at *
  generalize cutHead 46 s = H at *
  clear hE
  go_enter Tryz.func159, Tryz.ntmps159
  go_wp2_with (first
    | (go_at_call 183; refine (HC.out _ (HE.out.below ((Below.refl _ _).alloc (Nat.le_refl _) _))).mono ?_; rintro e w1 ⟨⟨b, rfl⟩, k, rfl⟩)
    | (go_at_call 184; refine (readNumber_any _ base T (by omega) (HE.out.below (below_drewN ((Below.refl _ _).alloc (Nat.le_refl _) _) _))).mono ?_; rintro e w2 ⟨⟨n, rfl, hn0, hlo, hhi⟩, hb0⟩; have hb2 : Hid _ := hb0; have hn : Hid _ := hn0; have hbox0 := hb0.block w.heap.size (by simp); rw [World.heap_drewN, heap_alloc_new] at hbox0; have hbox : Hid _ := hbox0; have c0 : w2.cell? ⟨w.heap.size, 0, none⟩ = some (.string ⟨#[]⟩) := (by simp [World.cell?, hbox0]); have c1 : w2.cell? ⟨w.heap.size, 1, none⟩ = some (.int .i64 0) := (by simp [World.cell?, hbox0]); have f0 : w2.frozen? ⟨w.heap.size, 0, none⟩ = false := (by simp [World.frozen?, hbox0]); have f1 : w2.frozen? ⟨w.heap.size, 1, none⟩ = false := (by simp [World.frozen?, hbox0]); have d0 : ∀ u, (w2.setCell ⟨w.heap.size, 0, none⟩ u).cell? ⟨w.heap.size, 0, none⟩ = some u := (fun u => World.cell?_setCell_same _ _ _ c0); have d1 : ∀ v u, ((w2.setCell ⟨w.heap.size, 0, none⟩ v).setCell ⟨w.heap.size, 1, none⟩ u).cell? ⟨w.heap.size, 1, none⟩ = some u := (fun v u => World.cell?_setCell_same _ _ _ (u := .int .i64 0) (by rw [World.cell?_setCell_other _ _ _ _ (by simp)]; exact c1)); clear hb0 hn0 hbox0)
    | (go_at_call 182; refine (isName_any _ H).mono ?_; rintro e w1 ⟨rfl, rfl⟩))
  all_goals (have hf := readVer_facts hq.out hn.out)
  all_goals (refine bodyPost_ret (by simp [results, Tryz.results159, go_sem, d0, d1]; try rfl) rfl ?_)
  all_goals (refine ⟨⟨H, n, ?_, (by first | exact hf.2 | exact fun a b h => hf.2 (a, b) h)⟩, ((((Below.refl _ _).alloc (Nat.le_refl _) _).trans (below_drewN (Below.refl _ _) _)).trans (hb2.out.mono (by simp))).setCell (Nat.le_refl _) _ |>.setCell (Nat.le_refl _) _⟩)
  all_goals (rw [hf.1]; simp_all)
  all_goals omega

theorem tongue_any (w : World) (base : Nat) (tg : Nat) (htg : tg = 0 ∨ tg = 1) (s : BA) (hs : s.size ≤ 4294967280) (hE : Env base w) : Calls Tryz.prog 159 #[.int .i64 (tg : Int), .string s] w fun e w' => (∃ (a : BA) (n : Int), e = .returned (.tuple #[.agg #[.string a, .int .i64 n], .bool (readVer tg s).isSome]) ∧ ∀ v, readVer tg s = some v → a = v.1 ∧ n = (v.2 : Int)) ∧ Below w.heap.size w w' := by
  rcases htg with rfl | rfl
  · exact tongue_names w s
  · exact tongue_versions w base s hs hE

end Go.Proofs.YtbddcodljmglfaaGreatDoor

namespace Go.Proofs.YtbddcodljmglfaaGreatDoor
open Go.RowKit

/-- A line that is being read, in its box. -/
def lineCells (l : LineG) (tv lv : Value) : Array Value := #[.int .i64 (l.word : Int), .string l.sets.1, .int .i64 (l.sets.2 : Int), tv, .int .i64 l.number, lv]
structure LineIn (w : World) (base lb : Nat) (l : LineG) (tv lv : Value) : Prop where
  box : w.heap[lb]? = some (.cells (lineCells l tv lv) 117 (0, 0))
  le : base ≤ lb
  takes : OwnS w base 111 2 tv l.takes.length (vers l.takes)
  leads : OwnS w base 3 1 lv l.leads.length (nums l.leads)
  few : l.takes.length ≤ 3 ∧ l.leads.length ≤ 3

/-- The line behind a step that leaves its box as it was, in a world that has more. -/
theorem LineIn.keep {w w' : World} {base lb : Nat} {l : LineG} {tv lv : Value} (h : LineIn w base lb l tv lv) (hb : Below w.heap.size w w') : LineIn w' base lb l tv lv :=
  ⟨(hb.block _ (blk_lt h.box)).trans h.box, h.le, h.takes.of_block fun k hk => hb.block _ (h.takes.lt k hk).2, h.leads.of_block fun k hk => hb.block _ (h.leads.lt k hk).2, h.few⟩
/-- The line behind stores into its box alone. -/
theorem LineIn.boxed {w w' : World} {base lb : Nat} {l : LineG} {tv lv : Value} (h : LineIn w base lb l tv lv) (ho : ∀ k, k ≠ lb → w'.heap[k]? = w.heap[k]?) {l' : LineG} (hbox : w'.heap[lb]? = some (.cells (lineCells l' tv lv) 117 (0, 0)))
    (ht : l'.takes = l.takes) (hl : l'.leads = l.leads) : LineIn w' base lb l' tv lv :=
  ⟨hbox, h.le, by rw [ht]; exact h.takes.of_block fun k hk => ho _ (own_other h.takes h.box (by decide) k hk), by rw [hl]; exact h.leads.of_block fun k hk => ho _ (own_other h.leads h.box (by decide) k hk), by rw [ht, hl]; exact h.few⟩

set_option maxRecDepth 100000 in
set_option maxHeartbeats 2000000 in
theorem add1_any (w : World) (base0 base lb : Nat) (tg : Nat) (htg : tg = 0 ∨ tg = 1) (l : LineG) (tv lv : Value) (s : BA) (hs : s.size ≤ 4294967280) (hE : Env base0 w) (hbb : base ≤ w.heap.size) (h : LineIn w base lb l tv lv) :
    Calls Tryz.prog 189 #[.pointer (some ⟨lb, 0, none⟩), .int .i64 1, .string s, .int .i64 (tg : Int)] w fun e w' => e = .returned (.bool (readVer tg s).isSome) ∧ (∀ v, readVer tg s = some v → LineIn w' base lb { l with sets := v } tv lv) ∧ Below base w w' ∧ Keeps 9 w w' := by
  have HL : Hid (LineIn w base lb l tv lv) := h
  have HE : Hid (Env base0 w) := hE
  have hlt := blk_lt h.box
  clear h hE
  go_enter Tryz.func189, Tryz.ntmps189
  go_wp2_with (first | (go_at_call 159; refine (tongue_any _ base0 tg htg s hs HE.out).mono ?_; rintro e w1 ⟨⟨a, n, rfl, ha0⟩, hb0⟩; have ha : Hid _ := ha0; have hb : Hid _ := hb0; have HB : Hid _ := (hb0.block lb hlt).trans HL.out.box; have B := box6 HB.out; have c1 := B.c.2.1; have c2 := B.c.2.2.1; have f1 := B.f 1; have f2 := B.f 2; clear ha0 hb0 B))
  go_ret
  have HL1 := HL.out.keep hb.out
  refine ⟨rfl, fun v hv => ?_, ?_, ?_⟩
  · obtain ⟨rfl, rfl⟩ := ha.out v hv
    refine HL1.boxed (fun k hk => ?_) ?_ rfl rfl
    · rw [Below.heap_setCell _ _ _ _ hk, Below.heap_setCell _ _ _ _ hk]
    · rw [set_block (set_block HB.out _) _]
      rfl
  · exact ((hb.out.mono hbb).setCell HL.out.le _).setCell HL.out.le _
  · exact ((Keeps.of_below hb.out).setCell HB.out (by decide) _).setCell (set_block HB.out _) (by decide) _

set_option maxRecDepth 100000 in
set_option maxHeartbeats 2000000 in
theorem add3_any (w : World) (base0 base lb : Nat) (tg : Nat) (l : LineG) (tv lv : Value) (s : BA) (hs : s.size ≤ 4294967280) (hE : Env base0 w) (hbb : base ≤ w.heap.size) (h : LineIn w base lb l tv lv) :
    Calls Tryz.prog 189 #[.pointer (some ⟨lb, 0, none⟩), .int .i64 3, .string s, .int .i64 (tg : Int)] w fun e w' => e = .returned (.bool (numB s).isSome) ∧ (∀ v, numB s = some v → LineIn w' base lb { l with number := v } tv lv) ∧ Below base w w' ∧ Keeps 9 w w' := by
  have HL : Hid (LineIn w base lb l tv lv) := h
  have HE : Hid (Env base0 w) := hE
  have hlt := blk_lt h.box
  clear h hE
  go_enter Tryz.func189, Tryz.ntmps189
  go_wp2_with (first | (go_at_call 184; refine (readNumber_any _ base0 s hs HE.out).mono ?_; rintro e w1 ⟨⟨n, rfl, ha0, hlo, hhi⟩, hb0⟩; have ha : Hid _ := ha0; have hb : Hid _ := hb0; have HB : Hid _ := (hb0.block lb hlt).trans HL.out.box; have B := box6 HB.out; have c4 := B.c.2.2.2.2.1; have f4 := B.f 4; clear ha0 hb0 B))
  go_ret
  have HL1 := HL.out.keep hb.out
  refine ⟨rfl, fun v hv => ?_, ?_, ?_⟩
  · obtain rfl := ha.out v hv
    refine HL1.boxed (fun k hk => ?_) ?_ rfl rfl
    · rw [Below.heap_setCell _ _ _ _ hk]
    · rw [set_block HB.out _]
      rfl
  · exact (hb.out.mono hbb).setCell HL.out.le _
  · exact (Keeps.of_below hb.out).setCell HB.out (by decide) _

theorem nums_append (a b : List Nat) : nums (a ++ b) = nums a ++ nums b := by simp [nums]

set_option maxRecDepth 100000 in
set_option maxHeartbeats 2000000 in
theorem add4_any (w : World) (base0 base lb : Nat) (tg : Nat) (l : LineG) (tv lv : Value) (s : BA) (hs : s.size ≤ 4294967280) (hE : Env base0 w) (hbb : base ≤ w.heap.size) (h : LineIn w base lb l tv lv) (hfew : l.leads.length < 3) :
    Calls Tryz.prog 189 #[.pointer (some ⟨lb, 0, none⟩), .int .i64 4, .string s, .int .i64 (tg : Int)] w fun e w' => e = .returned (.bool (blkB s).isSome) ∧ (∀ v, blkB s = some v → ∃ lv', LineIn w' base lb { l with leads := l.leads ++ [v] } tv lv') ∧ Below base w w' ∧ Keeps 9 w w' := by
  have HL : Hid (LineIn w base lb l tv lv) := h
  have HE : Hid (Env base0 w) := hE
  have hlt := blk_lt h.box
  obtain ⟨i0, hi, hz0, hz1, hz2⟩ := info_parts infoInt
  clear h hE
  go_enter Tryz.func189, Tryz.ntmps189
  go_wp2_with (first
    | (go_at_call 211; refine (readBlock_any _ base0 s hs HE.out).mono ?_; rintro e w1 ⟨⟨n, rfl, ha0⟩, hb0⟩; have ha : Hid _ := ha0; have hb : Hid _ := hb0; have hsz := hb0.size; have HL1 : Hid _ := HL.out.keep hb0; have B := box6 HL1.out.box; have c5 := B.c.2.2.2.2.2; have f5 := B.f 5; clear ha0 hb0 B)
    | (at_builtin; refine wpList_append_ownS _ rfl _ _ 64 rfl base 3 i0 (.int .i64 0) 1 8 Tryz.underlying64 hi hz0 hz1 hz2 rfl (by decide) _ _ _ rfl (HL1.out.leads.alloc _) ⟨w1.heap.size, 0, none⟩ 1 1 [.int .i64 n] rfl rfl (cell_newL _ [_] _ _ rfl) (one1 rfl) (by decide) (by unfold maxLen; omega) (by omega) (by simp; omega) ?_; intro g' off' cap' w3 hown3 hgrow3 hloc3 hlt3; have HO : Hid _ := hown3; have HG : Hid _ := hgrow3; have HB3 : Hid _ := grown_box HL1.out.leads hgrow3 HL1.out.box (by decide); have B3 := box6 HB3.out; have c53 := B3.c.2.2.2.2.2; have f53 := B3.f 5; clear hown3 hgrow3 hloc3 B3))
  go_ret
  refine ⟨rfl, fun v hv => ?_, ?_, ?_⟩
  · obtain rfl := ha.out v hv
    refine ⟨_, (by rw [set_block HB3.out _]; rfl), HL1.out.le, ?_, ?_, HL1.out.few.1, by simp; omega⟩
    · exact (grown_own HL1.out.leads HG.out HL1.out.takes (by decide)).set_other HB3.out (by decide) _
    · have := OwnS.set_other HO.out HB3.out (by decide) (.slice (some ⟨g', off', none⟩) (l.leads.length + 1) cap') (i := 5)
      rw [nums_append, List.length_append]
      exact this
  · exact ((hb.out.mono hbb).trans (grown_below HL1.out.leads HG.out (by omega))).setCell HL.out.le _
  · exact ((Keeps.of_below hb.out).trans (grown_keeps HL1.out.leads HG.out (by decide))).setCell HB3.out (by decide) _

attribute [local go_sem ↓] run_execOp_append

theorem infoVersion : (Tryz.prog.info? 111).map (fun i => (i.zero, i.size, i.bytes)) = some (some (.agg #[.string ByteArray.empty, .int .i64 0]), 2, 24) := by kernel_rfl

set_option maxRecDepth 100000 in
set_option maxHeartbeats 2000000 in
theorem add2_any (w : World) (base0 base lb : Nat) (tg : Nat) (htg : tg = 0 ∨ tg = 1) (l : LineG) (tv lv : Value) (s : BA) (hs : s.size ≤ 4294967280) (hE : Env base0 w) (hbb : base ≤ w.heap.size) (h : LineIn w base lb l tv lv) (hfew : l.takes.length < 3) :
    Calls Tryz.prog 189 #[.pointer (some ⟨lb, 0, none⟩), .int .i64 2, .string s, .int .i64 (tg : Int)] w fun e w' => e = .returned (.bool (readVer tg s).isSome) ∧ (∀ v, readVer tg s = some v → ∃ tv', LineIn w' base lb { l with takes := l.takes ++ [v] } tv' lv) ∧ Below base w w' ∧ Keeps 9 w w' := by
  have HL : Hid (LineIn w base lb l tv lv) := h
  have HE : Hid (Env base0 w) := hE
  have hlt := blk_lt h.box
  clear h hE
  go_enter Tryz.func189, Tryz.ntmps189
  go_wp2_with (first
    | (go_at_call 159; refine (tongue_any _ base0 tg htg s hs (HE.out.below ((Below.refl _ _).alloc (Nat.le_refl _) _))).mono ?_; rintro e w1 ⟨⟨a, n, rfl, ha0⟩, hb0⟩; have ha : Hid _ := ha0; obtain ⟨p0, p1, q0, q1, d0, d1, hW, hsz⟩ := var2_after hb0; have HW : Hid _ := hW (.string a) (.int .i64 n); have HL1 : Hid _ := HL.out.keep HW.out; have B := box6 HL1.out.box; have c3 := B.c.2.2.2.1; have f3 := B.f 3; have c3' : w1.cell? ⟨lb, 3, none⟩ = some tv := (by have c4 := c3; rw [World.cell?_setCell_other _ _ _ _ (by intro e; injection e with e1; omega), World.cell?_setCell_other _ _ _ _ (by intro e; injection e with e1; omega)] at c4; exact c4); clear ha0 hb0 B hW))
  have e0 : ((w1.setCell ⟨w.heap.size, 0, none⟩ (.string a)).setCell ⟨w.heap.size, 1, none⟩ (.int .i64 n)).cell? ⟨w.heap.size, 0, none⟩ = some (.string a) := by rw [World.cell?_setCell_other _ _ _ _ (by simp)]; exact d0 _
  have e1 := d1 (.string a) (.int .i64 n)
  have hsz2 : w.heap.size + 1 ≤ ((w1.setCell ⟨w.heap.size, 0, none⟩ (.string a)).setCell ⟨w.heap.size, 1, none⟩ (.int .i64 n)).heap.size := by simpa [World.setCell] using hsz
  clear p0 p1 q0 q1 d0 d1 c3' hsz
  generalize ((w1.setCell ⟨w.heap.size, 0, none⟩ (.string a)).setCell ⟨w.heap.size, 1, none⟩ (.int .i64 n)) = W at *
  have htl := HL.out.takes.lt
  have ag : tv.ownBlock ≠ some lb := fun e => own_other HL1.out.takes HL1.out.box (by decide) lb e rfl
  have ak : tv.ownBlock ≠ some w.heap.size := fun e => by have := (htl _ e).2; omega
  clear htl
  obtain ⟨ao, cp, rfl⟩ := HL1.out.takes.len
  obtain ⟨g', off', cap', w3, happ, hown3, hg2, hloc3, hlt3⟩ := app_later W base 49 111 _ 2 24 Tryz.underlying49 infoVersion rfl (by decide) _ _ _ HL1.out.takes [.string a, .int .i64 n] rfl (one2 rfl rfl) (by unfold maxLen; omega) (by omega) (by omega)
  have HB3 : Hid _ := grown_box HL1.out.takes hg2 HL1.out.box (by decide)
  have B3 := box6 HB3.out
  have c33 := B3.c.2.2.2.1
  have f33 := B3.f 3
  have HO : Hid _ := hown3
  have HG : Hid _ := hg2
  clear B3 hown3 hg2 hloc3 hlt3 ag ak
  have c3a : ∀ o, (W.alloc o).cell? ⟨lb, 3, none⟩ = some (.slice ao l.takes.length cp) := fun o => (World.cell?_of_block (Below.heap_alloc W o _ (blk_lt HL1.out.box))).trans c3
  go_region
  all_goals go_wp2_with fail
  go_ret
  refine ⟨rfl, fun v hv => ?_, ?_, ?_⟩
  · obtain ⟨rfl, rfl⟩ := ha.out v hv
    refine ⟨_, (by rw [set_block HB3.out _]; rfl), HL1.out.le, ?_, ?_, by simp; omega, HL1.out.few.2⟩
    · have := OwnS.set_other HO.out HB3.out (by decide) (.slice (some ⟨g', off', none⟩) (l.takes.length + 1) cap') (i := 3)
      rw [vers_append, List.length_append]
      exact this
    · exact (grown_own HL1.out.takes HG.out HL1.out.leads (by decide)).set_other HB3.out (by decide) _
  · exact ((HW.out.mono hbb).trans (grown_below HL1.out.takes HG.out (by omega))).setCell HL1.out.le _
  · exact ((Keeps.of_below HW.out).trans (grown_keeps HL1.out.takes HG.out (by decide))).setCell HB3.out (by decide) _

/-- One word taken into the line. -/
theorem add_any (w : World) (base0 base lb : Nat) (tg : Nat) (htg : tg = 0 ∨ tg = 1) (l : LineG) (tv lv : Value) (p : Nat) (hp : 1 ≤ p ∧ p ≤ 4) (s : BA) (hs : s.size ≤ 4294967280) (hE : Env base0 w) (hbb : base ≤ w.heap.size) (h : LineIn w base lb l tv lv) (hfew : l.takes.length < 3 ∧ l.leads.length < 3) :
    Calls Tryz.prog 189 #[.pointer (some ⟨lb, 0, none⟩), .int .i64 (p : Int), .string s, .int .i64 (tg : Int)] w fun e w' => e = .returned (.bool (addPart tg p s l).isSome) ∧ (∀ l', addPart tg p s l = some l' → ∃ tv' lv', LineIn w' base lb l' tv' lv') ∧ Below base w w' ∧ Keeps 9 w w' := by
  rcases (by omega : p = 1 ∨ p = 2 ∨ p = 3 ∨ p = 4) with rfl | rfl | rfl | rfl
  · refine (add1_any w base0 base lb tg htg l tv lv s hs hE hbb h).mono ?_
    rintro e w' ⟨rfl, h1, h2⟩
    refine ⟨?_, fun l' hl => ?_, h2⟩
    · simp only [addPart]; cases readVer tg s <;> rfl
    · simp only [addPart] at hl
      cases hq : readVer tg s with
      | none => simp [hq] at hl
      | some v => simp [hq] at hl; subst hl; exact ⟨_, _, h1 v hq⟩
  · refine (add2_any w base0 base lb tg htg l tv lv s hs hE hbb h hfew.1).mono ?_
    rintro e w' ⟨rfl, h1, h2⟩
    refine ⟨?_, fun l' hl => ?_, h2⟩
    · simp only [addPart]; cases readVer tg s <;> rfl
    · simp only [addPart] at hl
      cases hq : readVer tg s with
      | none => simp [hq] at hl
      | some v => simp [hq] at hl; subst hl; obtain ⟨tv', h3⟩ := h1 v hq; exact ⟨_, _, h3⟩
  · refine (add3_any w base0 base lb tg l tv lv s hs hE hbb h).mono ?_
    rintro e w' ⟨rfl, h1, h2⟩
    refine ⟨?_, fun l' hl => ?_, h2⟩
    · simp only [addPart]; cases numB s <;> rfl
    · simp only [addPart] at hl
      cases hq : numB s with
      | none => simp [hq] at hl
      | some v => simp [hq] at hl; subst hl; exact ⟨_, _, h1 v hq⟩
  · refine (add4_any w base0 base lb tg l tv lv s hs hE hbb h hfew.2).mono ?_
    rintro e w' ⟨rfl, h1, h2⟩
    refine ⟨?_, fun l' hl => ?_, h2⟩
    · simp only [addPart]; cases blkB s <;> rfl
    · simp only [addPart] at hl
      cases hq : blkB s with
      | none => simp [hq] at hl
      | some v => simp [hq] at hl; subst hl; obtain ⟨lv', h3⟩ := h1 v hq; exact ⟨_, _, h3⟩

end Go.Proofs.YtbddcodljmglfaaGreatDoor

namespace Go.Proofs.YtbddcodljmglfaaGreatDoor
open Go.RowKit

set_option maxRecDepth 10000 in
/-- Words in a row of their own. -/
theorem split_words (w : World) (base : Nat) (s : BA) (k : Nat) (hk : k = 3 ∨ k = 4) (hs : s.size ≤ 4294967280) (hE : Env base w) :
    Calls Tryz.prog 158 #[.string s, .int .i64 (k : Int)] w fun e w' => ∃ cap, e = .returned (.slice (some ⟨w.heap.size, 0, none⟩) (cutsN 32 (k + 2) s).length cap) ∧ RdT w' 9 1 (.slice (some ⟨w.heap.size, 0, none⟩) (cutsN 32 (k + 2) s).length cap) (cutsN 32 (k + 2) s).length (strs (cutsN 32 (k + 2) s)) ∧ Below w.heap.size w w' ∧ w.heap.size < w'.heap.size := by
  have HC : Hid (Calls _ _ _ _ _) := splitN_any w base s 32 (k + 2) (by omega) (by omega) hs hE
  clear hE
  rcases hk with rfl | rfl
  all_goals generalize cutsN 32 _ s = L at *
  all_goals go_enter Tryz.func158, Tryz.ntmps158
  all_goals (go_wp2_with (first | (go_at_call 181; refine HC.out.mono ?_; rintro e w1 ⟨cap, hcap, rfl, cells, rfl, hcells⟩)))
  all_goals go_ret
  all_goals (refine ⟨cap, rfl, ⟨by rw [strs_length, Nat.mul_one], _, _, rfl, hcap, ?_⟩, (Below.refl _ _).alloc (Nat.le_refl _) _, by rw [World.size_alloc]; exact Nat.lt_succ_self _⟩)
  all_goals (refine .inr ⟨w.heap.size, 0, cells, (0, 0), rfl, heap_alloc_new _ _, fun j u hj => ?_⟩)
  all_goals (simp only [strs, List.getElem?_map, Option.map_eq_some_iff] at hj)
  all_goals (obtain ⟨x, hx, rfl⟩ := hj)
  all_goals (rw [Nat.zero_add]; exact hcells j x hx)

theorem aggLine : AggT 117 6 [.int .i64 0, .string ⟨#[]⟩, .int .i64 0, .slice none 0 0, .int .i64 0, .slice none 0 0] := ⟨⟨_, Tryz.underlying117, rfl⟩, by kernel_rfl, by kernel_rfl, rfl⟩

theorem run_index_parts {PV : Array Value} {i : Nat} {p : Int} (hi : i < 3) (hidx : PV[i]? = some (.int .i64 p)) (w : World) : (Instr.index 171 (.agg PV) (.int .i64 (i : Int))).run Tryz.prog w = .ok (.int .i64 p) w := by
  have hu : Tryz.prog.underlying 171 = some (.array 3 170) := by kernel_rfl
  have hn : (0 ≤ (i : Int) ∧ (i : Int) < 3) := by omega
  simp [Instr.index, run_underlying hu, asIntOf, hn, go_sem]
  rw [if_pos hi, hidx]
  rfl

theorem parts_len : ∀ k, k < 10 → (partsOf k).length ≤ 3 := by decide
theorem parts_at_fin : ∀ k : Fin 10, ∀ i : Fin 3, i.val ≤ (partsOf k.val).length → ∃ p ∈ [0, 1, 2, 3, 4], (parts3 k.val)[i.val]? = some p ∧ ((p = 0 ∧ (partsOf k.val).drop i.val = []) ∨ (p ≠ 0 ∧ (partsOf k.val).drop i.val = p :: (partsOf k.val).drop (i.val + 1))) := by decide
theorem parts_at {k i : Nat} (hk : k < 10) (hi : i < 3) (h : i ≤ (partsOf k).length) : ∃ p, p ≤ 4 ∧ (parts3 k)[i]? = some p ∧ ((p = 0 ∧ (partsOf k).drop i = []) ∨ (p ≠ 0 ∧ (partsOf k).drop i = p :: (partsOf k).drop (i + 1))) := by
  obtain ⟨p, hp, h1, h2⟩ := parts_at_fin ⟨k, hk⟩ ⟨i, hi⟩ h
  refine ⟨p, ?_, h1, h2⟩
  simp at hp
  omega

section
variable {w w' : World} {t : TypeId} {g off n cap : Nat} {x : Value} {xs : List Value}
theorem RdT.zero (w : World) (t : TypeId) (ao : Option Addr) (cap : Nat) : RdT w t 1 (.slice ao 0 cap) 0 [] := ⟨rfl, _, _, rfl, Nat.zero_le _, .inl rfl⟩
theorem RdT.tail (h : RdT w t 1 (.slice (some ⟨g, off, none⟩) (n + 1) cap) (n + 1) (x :: xs)) : RdT w t 1 (.slice (some ⟨g, off + 1, none⟩) n (cap - 1)) n xs := by
  obtain ⟨hl, ao, c, hv, hc, h⟩ := h
  injection hv with h1 h2 h3
  subst h3
  refine ⟨by simp at hl; omega, _, _, rfl, by omega, ?_⟩
  rcases h with h | ⟨g', off', cur, fr, ha, hg, hx⟩
  · omega
  · rw [← h1] at ha
    injection ha with ha
    injection ha with e1 e2
    subst e1
    subst e2
    refine .inr ⟨g, off + 1, cur, fr, rfl, hg, fun j u hj => ?_⟩
    have := hx (j + 1) u (by simpa using hj)
    rw [show off + 1 + j = off + (j + 1) by omega]
    exact this
end

theorem addPart_count {tg p : Nat} {b : BA} {l l' : LineG} {i : Nat} (h : addPart tg p b l = some l') (ht : l.takes.length ≤ i) (hl : l.leads.length ≤ i) : l'.takes.length ≤ i + 1 ∧ l'.leads.length ≤ i + 1 := by
  unfold addPart at h
  split at h
  · split at h
    · injection h with h; subst h; exact ⟨by simp; omega, by simp; omega⟩
    · cases h
  · split at h
    · split at h
      · injection h with h; subst h; exact ⟨by simp; omega, by simp; omega⟩
      · cases h
    · split at h
      · split at h
        · injection h with h; subst h; exact ⟨by simp; omega, by simp; omega⟩
        · cases h
      · split at h
        · injection h with h; subst h; exact ⟨by simp; omega, by simp; omega⟩
        · cases h
theorem fillG_len (tg : Nat) : ∀ (ps : List Nat) (bs : List BA) (l l' : LineG), fillG tg ps bs l = some l' → bs.length = ps.length
  | [], [], _, _, _ => rfl
  | [], _ :: _, _, _, h => by simp [fillG] at h
  | _ :: _, [], _, _, h => by simp [fillG] at h
  | p :: ps, b :: bs, l, l', h => by
    simp only [fillG] at h
    split at h
    · rename_i l2 _
      have := fillG_len tg ps bs l2 l' h
      simp [this]
    · cases h
theorem lineOf_len {tg : Nat} {ws : List BA} {l : LineG} (h : lineOf tg ws = some l) : ws.length ≤ 4 := by
  cases ws with
  | nil => simp
  | cons x r =>
    simp only [lineOf] at h
    split at h
    · rename_i k hk
      have h1 := fillG_len tg _ _ _ _ h
      have h2 := parts_len k (kindOf_lt hk)
      simp
      omega
    · cases h
theorem lineOf_cutsN (tg : Nat) (s : BA) : lineOf tg (cutsN 32 5 s) = lineOf tg (cuts 32 s) := by
  by_cases h : (cuts 32 s).length ≤ 5
  · rw [cutsN_eq 32 5 s (by omega) h]
  · have h1 := cutsN_few 32 5 s (by omega) (by omega)
    have a : lineOf tg (cutsN 32 5 s) = none := by
      cases hq : lineOf tg (cutsN 32 5 s) with
      | none => rfl
      | some l => have := lineOf_len hq; omega
    have b : lineOf tg (cuts 32 s) = none := by
      cases hq : lineOf tg (cuts 32 s) with
      | none => rfl
      | some l => have := lineOf_len hq; omega
    rw [a, b]
theorem cutsN_len (n : Nat) (s : BA) (hn : 1 ≤ n) : 1 ≤ (cutsN 32 n s).length ∧ (cutsN 32 n s).length ≤ n := by
  have hne := cuts_ne 32 s
  by_cases h : (cuts 32 s).length ≤ n
  · rw [cutsN_eq 32 n s hn h]
    refine ⟨?_, h⟩
    cases hq : cuts 32 s with
    | nil => exact absurd hq hne
    | cons x r => simp
  · have := (cutsN_few 32 n s hn (by omega)).1
    omega
theorem cutsN_size (n : Nat) (s : BA) : ∀ x ∈ cutsN 32 n s, x.size ≤ s.size := by
  intro x hx
  unfold cutsN at hx
  have aux : ∀ (k : Nat) (s : BA), ∀ x ∈ Lib.splitB ⟨#[32]⟩ 0 k s, x.size ≤ s.size := by
    intro k
    induction k with
    | zero => intro s x hx; simp [Lib.splitB] at hx; subst hx; omega
    | succ k ih =>
      intro s x hx
      unfold Lib.splitB at hx
      split at hx
      · simp at hx; subst hx; omega
      · rcases List.mem_cons.1 hx with rfl | hx
        · exact size_extract_le _ _ _
        · exact Nat.le_trans (ih _ _ hx) (size_extract_le _ _ _)
  exact aux _ _ x hx

/-- What Read hands back. -/
structure LineOut (w : World) (base : Nat) (l : LineG) (v : Value) (tv lv : Value) : Prop where
  val : v = .agg (lineCells l tv lv)
  takes : OwnS w base 111 2 tv l.takes.length (vers l.takes)
  leads : OwnS w base 3 1 lv l.leads.length (nums l.leads)
  few : l.takes.length ≤ 3 ∧ l.leads.length ≤ 3

theorem words_after {w w1 : World} {N cap : Nat} {x0 : BA} {L' : List BA} {zs : List Value} {t : TypeId} (hrd : RdT w1 9 1 (.slice (some ⟨(w.alloc (.cells zs.toArray t)).heap.size, 0, none⟩) (N + 1) cap) (N + 1) (strs (x0 :: L')))
    (hb : Below (w.alloc (.cells zs.toArray t)).heap.size (w.alloc (.cells zs.toArray t)) w1) (hlt : (w.alloc (.cells zs.toArray t)).heap.size < w1.heap.size) :
    w1.cell? ⟨w.heap.size + 1, 0, none⟩ = some (.string x0) ∧ N + 1 ≤ cap ∧ RdT w1 9 1 (.slice (some ⟨w.heap.size + 1, 0, none⟩) (N + 1) cap) (N + 1) (strs (x0 :: L')) ∧ BoxIn w1 w.heap.size t zs ∧ w.heap.size + 2 ≤ w1.heap.size ∧ Below w.heap.size w w1 := by
  have e : (w.alloc (.cells zs.toArray t)).heap.size = w.heap.size + 1 := by simp
  rw [e] at hrd
  rw [e] at hlt
  obtain ⟨ao, cp, e1, hcap, hcell⟩ := hrd.cell
  injection e1 with e1 e2 e3
  subst e3
  obtain ⟨g, off, e4, _, hcell⟩ := hcell (by omega)
  rw [← e1] at e4
  injection e4 with e4
  injection e4 with e5 e6
  subst e5
  subst e6
  refine ⟨hcell 0 _ rfl, hcap, hrd, (BoxIn.new w t zs).below hb, by omega, ((Below.refl _ _).alloc (Nat.le_refl _) _).trans (hb.mono (by simp))⟩

/-- A value of the type Line, whatever it says. -/
def IsLine (v : Value) : Prop := ∃ cs : List Value, v = .agg cs.toArray ∧ cs.length = 6 ∧ cs.toArray.all (·.oneCell') = true

abbrev zLine : List Value := [.int .i64 0, .string ⟨#[]⟩, .int .i64 0, .slice none 0 0, .int .i64 0, .slice none 0 0]
theorem one_zLine : zLine.toArray.all (·.oneCell') = true := by simp [Value.oneCell']
theorem isLine_z : IsLine (.agg zLine.toArray) := ⟨_, rfl, rfl, one_zLine⟩
theorem one_line (l : LineG) {ao1 ao2 : Option Addr} {n1 n2 c1 c2 : Nat} : (lineCells l (.slice ao1 n1 c1) (.slice ao2 n2 c2)).toList.toArray.all (·.oneCell') = true := by simp [lineCells, Value.oneCell']

set_option maxRecDepth 100000 in
set_option maxHeartbeats 8000000 in
theorem read_some (w : World) (base0 : Nat) (tg : Nat) (htg : tg = 0 ∨ tg = 1) (s : BA) (hs : s.size ≤ 4294967280) (hE : Env base0 w) (x0 : BA) (L' : List BA) (hL : cutsN 32 5 s = x0 :: L') (k : Nat) (hk : kindOf x0 = some k) :
    Calls Tryz.prog 161 #[.string s, .int .i64 (tg : Int)] w fun e w' => (∃ v, e = .returned (.tuple #[v, .bool (fillG tg (partsOf k) L' ⟨k, noVer, [], 0, []⟩).isSome]) ∧ IsLine v ∧ ∀ l, fillG tg (partsOf k) L' ⟨k, noVer, [], 0, []⟩ = some l → ∃ tv lv, LineOut w' (w.heap.size + 1) l v tv lv) ∧ Below w.heap.size w w' := by
  have HE : Hid (Env base0 w) := hE
  have hlen := cutsN_len 5 s (by omega)
  have hsz0 := cutsN_size 5 s
  rw [hL] at hlen hsz0
  have HSZ : Hid (∀ x ∈ L', x.size ≤ 4294967280) := fun x hx => Nat.le_trans (hsz0 x (by simp [hx])) hs
  obtain ⟨N, hN⟩ : ∃ N, N = L'.length := ⟨_, rfl⟩
  have HN : Hid (N = L'.length) := hN
  have HC : Hid (∀ w1, Env base0 w1 → Calls Tryz.prog 158 #[.string s, .int .i64 3] w1 fun e w' => ∃ cap, e = .returned (.slice (some ⟨w1.heap.size, 0, none⟩) (N + 1) cap) ∧ RdT w' 9 1 (.slice (some ⟨w1.heap.size, 0, none⟩) (N + 1) cap) (N + 1) (strs (x0 :: L')) ∧ Below w1.heap.size w1 w' ∧ w1.heap.size < w'.heap.size) := by
    intro w1 h
    have := split_words w1 base0 s 3 (by omega) hs h
    rw [show 3 + 2 = 5 from rfl, hL, List.length_cons, ← hN] at this
    exact this
  have hN5 : N ≤ 4 := by simp at hlen; omega
  have hk10 := kindOf_lt hk
  have hpl := parts_len k hk10
  clear hL hE hN hlen hsz0
  go_enter Tryz.func161, Tryz.ntmps161
  go_wp2_with (first
    | (go_at_call 158; refine (HC.out _ (HE.out.below ((Below.refl _ _).alloc (Nat.le_refl _) _))).mono ?_; rintro e w1 ⟨cap, rfl, hrd0, hb0, hlt0⟩; obtain ⟨c0, hcap, hrd1, HB0, hsz, hbel0⟩ := words_after (zs := zLine) hrd0 hb0 hlt0; have hrd : Hid (RdT w1 9 1 (.slice (some ⟨w.heap.size + 1, 0, none⟩) (N + 1) cap) (N + 1) (strs (x0 :: L'))) := hrd1; have HB1 : Hid (BoxIn w1 w.heap.size 117 zLine) := HB0; have hbel1 : Hid (Below w.heap.size w w1) := hbel0; clear hrd0 hb0 hlt0 hrd1 HB0 hbel0)
    | (go_at_call 187; refine (find_any _ _).mono ?_; rintro e w1 ⟨rfl, rfl⟩; rw [hk, Option.getD_some, Option.isSome_some])
    | (go_at_call 188; refine (parts_any _ k hk10).mono ?_; rintro e w3 ⟨rfl, o, rfl⟩))
  · obtain ⟨PV, hpv⟩ : ∃ PV, (nums (parts3 k)).toArray = PV := ⟨_, rfl⟩
    have HPV : Hid ((nums (parts3 k)).toArray = PV) := hpv
    rw [hpv]
    clear hpv
    go_loopg [10, 31] 3 (fun g v10 v31 wr => ∃ (i : Nat) (l : LineG) (tv lv : Value) (n : Nat), i + g = 3 ∧ v31 = .int .i64 i ∧ i + n = N ∧ Hid (RdT wr 9 1 v10 n (strs (L'.drop i))) ∧ Hid (LineIn wr (w.heap.size + 1) w1.heap.size l tv lv) ∧ Hid (BoxIn wr w.heap.size 117 zLine) ∧ Hid (Below w.heap.size w wr) ∧ Hid (fillG tg (partsOf k) L' ⟨k, noVer, [], 0, []⟩ = fillG tg ((partsOf k).drop i) (L'.drop i) l) ∧ i ≤ (partsOf k).length ∧ l.takes.length ≤ i ∧ l.leads.length ≤ i)
    case atStart =>
      refine ⟨0, ⟨k, noVer, [], 0, []⟩, .slice none 0 0, .slice none 0 0, N, by omega, rfl, by omega, ?_, ?_, ?_, ?_, rfl, by omega, by simp, by simp⟩
      · have : N = 0 := by omega
        subst this
        rw [List.drop_zero, List.eq_nil_of_length_eq_zero (show L'.length = 0 from HN.out.symm)]
        exact RdT.zero _ _ _ _
      · refine ⟨?_, by omega, OwnS.nil _ _ _ _, OwnS.nil _ _ _ _, by simp⟩
        rw [Below.heap_alloc _ _ _ (by simp), heap_alloc_new]
        rfl
      · exact (HB1.out.below ((Below.refl _ _).alloc (Nat.le_refl _) _)).below ((Below.refl _ _).alloc (Nat.le_refl _) _)
      · exact (hbel1.out.alloc (by omega) _).alloc (by simp; omega) _
    case round =>
      obtain ⟨i, l, tv, lv, n, hig, rfl, hin, hrd9, HL, HB, hbel, hfill, hip, ht, hl⟩ := hrel
      have hszr := hbel.out.size
      have HF : Hid (RdT wr 9 1 _ n (strs (L'.drop i))) := hrd9
      obtain ⟨ao, cp, rfl, hcp, hcell⟩ := hrd9.out.cell
      clear hrd HB1 hbel1 c0 hrd9
      by_cases hend : i = 3 ∨ (partsOf k).drop i = []
      · have hdrop : (partsOf k).drop i = [] := by
          rcases hend with h | h
          · exact List.drop_eq_nil_of_le (by omega)
          · exact h
        obtain ⟨ao1, cp1, rfl⟩ := HL.out.takes.len
        obtain ⟨ao2, cp2, rfl⟩ := HL.out.leads.len
        have HBL : Hid (BoxIn wr w1.heap.size 117 (lineCells l (.slice ao1 l.takes.length cp1) (.slice ao2 l.leads.length cp2)).toList) := HL.out.box
        have hfin : Hid (∀ w6, Grew wr w6 (fun k => k = w.heap.size) → BoxIn w6 w.heap.size 117 (lineCells l (.slice ao1 l.takes.length cp1) (.slice ao2 l.leads.length cp2)).toList →
            (∃ v, (Ending.returned (.tuple #[.agg (lineCells l (.slice ao1 l.takes.length cp1) (.slice ao2 l.leads.length cp2)).toList.toArray, .bool (decide ((n : Int) = 0))])) = .returned (.tuple #[v, .bool (fillG tg (partsOf k) L' ⟨k, noVer, [], 0, []⟩).isSome]) ∧ IsLine v ∧ ∀ l, fillG tg (partsOf k) L' ⟨k, noVer, [], 0, []⟩ = some l → ∃ tv lv, LineOut w6 (w.heap.size + 1) l v tv lv) ∧ Below w.heap.size w w6) := by
          intro w6 hg6 hb6
          refine ⟨⟨.agg (lineCells l (.slice ao1 l.takes.length cp1) (.slice ao2 l.leads.length cp2)).toList.toArray, ?_, ⟨_, rfl, rfl, one_line _⟩, fun l' hl' => ?_⟩, hbel.out.trans (hg6.below hszr (fun k hk => by omega))⟩
          · rw [hfill.out, hdrop]
            by_cases hn0 : n = 0
            · have hd : L'.drop i = [] := List.drop_eq_nil_of_le (by have := HN.out; omega)
              rw [hd]
              simp [fillG, hn0]
            · cases hd : L'.drop i with
              | nil => have := List.drop_eq_nil_iff.1 hd; have := HN.out; omega
              | cons x r => simp [fillG, hn0]
          · rw [hfill.out, hdrop] at hl'
            cases hd : L'.drop i with
            | cons x r => rw [hd] at hl'; simp [fillG] at hl'
            | nil =>
              rw [hd] at hl'
              simp [fillG] at hl'
              subst hl'
              refine ⟨_, _, rfl, ?_, ?_, HL.out.few⟩
              · exact HL.out.takes.of_block fun k hk => hg6.block k (by have := (HL.out.takes.lt k hk).1; omega) (HL.out.takes.lt k hk).2
              · exact HL.out.leads.of_block fun k hk => hg6.block k (by have := (HL.out.leads.lt k hk).1; omega) (HL.out.leads.lt k hk).2
        by_cases hi3 : i < 3
        · obtain ⟨p, hp4, hp, hpd⟩ := parts_at hk10 hi3 hip
          rcases hpd with ⟨rfl, _⟩ | ⟨hp0, hpd⟩
          · have hidx : PV[i]? = some (.int .i64 ((0 : Nat) : Int)) := by
              rw [← HPV.out]
              simp [nums, hp]
            have hrun := run_index_parts hi3 hidx
            clear hidx hend
            go_wp2_with (first
              | (refine wpList_load_box aggLine rfl _ rfl _ rfl _ rfl HBL.out ?_)
              | (refine wpList_store_box aggLine rfl _ _ rfl _ rfl _ _ rfl HB.out rfl rfl (one_line _) ?_; intro w6 hb6 hg6 hs6))
            refine bodyPost_ret (results_box2 aggLine Tryz.results161 rfl rfl rfl hb6) rfl ?_
            exact hfin.out w6 hg6 hb6
          · rw [hdrop] at hpd; cases hpd
        · have hi9 : i = 3 := by omega
          subst hi9
          clear hend
          go_wp2_with (first
            | (refine wpList_load_box aggLine rfl _ rfl _ rfl _ rfl HBL.out ?_)
            | (refine wpList_store_box aggLine rfl _ _ rfl _ rfl _ _ rfl HB.out rfl rfl (one_line _) ?_; intro w6 hb6 hg6 hs6))
          refine bodyPost_ret (results_box2 aggLine Tryz.results161 rfl rfl rfl hb6) rfl ?_
          exact hfin.out w6 hg6 hb6
      · have hi3 : i < 3 := by
          have := hip
          omega
        obtain ⟨p, hp4, hp, hpd⟩ := parts_at hk10 hi3 hip
        rcases hpd with ⟨_, h⟩ | ⟨hp0, hpd⟩
        · exact absurd (.inr h) hend
        · have hidx : PV[i]? = some (.int .i64 (p : Int)) := by
            rw [← HPV.out]
            simp [nums, hp]
          have hrun := run_index_parts hi3 hidx
          clear hidx hend
          by_cases hn0 : n = 0
          · subst hn0
            have hno : Hid (fillG tg (partsOf k) L' ⟨k, noVer, [], 0, []⟩ = none) := by
              show _ = _
              have hd : L'.drop i = [] := List.drop_eq_nil_of_le (by have := HN.out; omega)
              rw [hfill.out, hpd, hd]
              rfl
            go_wp2_with (first | (refine wpList_store_box aggLine rfl _ _ rfl _ rfl _ zLine rfl HB.out rfl rfl one_zLine ?_; intro w6 hb6 hg6 hs6))
            refine bodyPost_ret (results_box2 aggLine Tryz.results161 rfl rfl rfl hb6) rfl ?_
            exact ⟨⟨_, by rw [hno.out]; rfl, isLine_z, fun l h => by rw [hno.out] at h; cases h⟩, hbel.out.trans (hg6.below hszr (fun k hk => by omega))⟩
          · exfalso
            omega
  · obtain ⟨PV, hpv⟩ : ∃ PV, (nums (parts3 k)).toArray = PV := ⟨_, rfl⟩
    have HPV : Hid ((nums (parts3 k)).toArray = PV) := hpv
    rw [hpv]
    clear hpv
    go_loopg [10, 31] 3 (fun g v10 v31 wr => ∃ (i : Nat) (l : LineG) (tv lv : Value) (n : Nat), i + g = 3 ∧ v31 = .int .i64 i ∧ i + n = N ∧ Hid (RdT wr 9 1 v10 n (strs (L'.drop i))) ∧ Hid (LineIn wr (w.heap.size + 1) w1.heap.size l tv lv) ∧ Hid (BoxIn wr w.heap.size 117 zLine) ∧ Hid (Below w.heap.size w wr) ∧ Hid (fillG tg (partsOf k) L' ⟨k, noVer, [], 0, []⟩ = fillG tg ((partsOf k).drop i) (L'.drop i) l) ∧ i ≤ (partsOf k).length ∧ l.takes.length ≤ i ∧ l.leads.length ≤ i)
    case atStart =>
      refine ⟨0, ⟨k, noVer, [], 0, []⟩, .slice none 0 0, .slice none 0 0, N, by omega, rfl, by omega, ?_, ?_, ?_, ?_, rfl, by omega, by simp, by simp⟩
      · exact (hrd.out.tail.below ((Below.refl _ _).alloc (Nat.le_refl _) _)).below ((Below.refl _ _).alloc (Nat.le_refl _) _)
      · refine ⟨?_, by omega, OwnS.nil _ _ _ _, OwnS.nil _ _ _ _, by simp⟩
        rw [Below.heap_alloc _ _ _ (by simp), heap_alloc_new]
        rfl
      · exact (HB1.out.below ((Below.refl _ _).alloc (Nat.le_refl _) _)).below ((Below.refl _ _).alloc (Nat.le_refl _) _)
      · exact (hbel1.out.alloc (by omega) _).alloc (by simp; omega) _
    case round =>
      obtain ⟨i, l, tv, lv, n, hig, rfl, hin, hrd9, HL, HB, hbel, hfill, hip, ht, hl⟩ := hrel
      have hszr := hbel.out.size
      have HF : Hid (RdT wr 9 1 _ n (strs (L'.drop i))) := hrd9
      obtain ⟨ao, cp, rfl, hcp, hcell⟩ := hrd9.out.cell
      clear hrd HB1 hbel1 c0 hrd9
      by_cases hend : i = 3 ∨ (partsOf k).drop i = []
      · have hdrop : (partsOf k).drop i = [] := by
          rcases hend with h | h
          · exact List.drop_eq_nil_of_le (by omega)
          · exact h
        obtain ⟨ao1, cp1, rfl⟩ := HL.out.takes.len
        obtain ⟨ao2, cp2, rfl⟩ := HL.out.leads.len
        have HBL : Hid (BoxIn wr w1.heap.size 117 (lineCells l (.slice ao1 l.takes.length cp1) (.slice ao2 l.leads.length cp2)).toList) := HL.out.box
        have hfin : Hid (∀ w6, Grew wr w6 (fun k => k = w.heap.size) → BoxIn w6 w.heap.size 117 (lineCells l (.slice ao1 l.takes.length cp1) (.slice ao2 l.leads.length cp2)).toList →
            (∃ v, (Ending.returned (.tuple #[.agg (lineCells l (.slice ao1 l.takes.length cp1) (.slice ao2 l.leads.length cp2)).toList.toArray, .bool (decide ((n : Int) = 0))])) = .returned (.tuple #[v, .bool (fillG tg (partsOf k) L' ⟨k, noVer, [], 0, []⟩).isSome]) ∧ IsLine v ∧ ∀ l, fillG tg (partsOf k) L' ⟨k, noVer, [], 0, []⟩ = some l → ∃ tv lv, LineOut w6 (w.heap.size + 1) l v tv lv) ∧ Below w.heap.size w w6) := by
          intro w6 hg6 hb6
          refine ⟨⟨.agg (lineCells l (.slice ao1 l.takes.length cp1) (.slice ao2 l.leads.length cp2)).toList.toArray, ?_, ⟨_, rfl, rfl, one_line _⟩, fun l' hl' => ?_⟩, hbel.out.trans (hg6.below hszr (fun k hk => by omega))⟩
          · rw [hfill.out, hdrop]
            by_cases hn0 : n = 0
            · have hd : L'.drop i = [] := List.drop_eq_nil_of_le (by have := HN.out; omega)
              rw [hd]
              simp [fillG, hn0]
            · cases hd : L'.drop i with
              | nil => have := List.drop_eq_nil_iff.1 hd; have := HN.out; omega
              | cons x r => simp [fillG, hn0]
          · rw [hfill.out, hdrop] at hl'
            cases hd : L'.drop i with
            | cons x r => rw [hd] at hl'; simp [fillG] at hl'
            | nil =>
              rw [hd] at hl'
              simp [fillG] at hl'
              subst hl'
              refine ⟨_, _, rfl, ?_, ?_, HL.out.few⟩
              · exact HL.out.takes.of_block fun k hk => hg6.block k (by have := (HL.out.takes.lt k hk).1; omega) (HL.out.takes.lt k hk).2
              · exact HL.out.leads.of_block fun k hk => hg6.block k (by have := (HL.out.leads.lt k hk).1; omega) (HL.out.leads.lt k hk).2
        by_cases hi3 : i < 3
        · obtain ⟨p, hp4, hp, hpd⟩ := parts_at hk10 hi3 hip
          rcases hpd with ⟨rfl, _⟩ | ⟨hp0, hpd⟩
          · have hidx : PV[i]? = some (.int .i64 ((0 : Nat) : Int)) := by
              rw [← HPV.out]
              simp [nums, hp]
            have hrun := run_index_parts hi3 hidx
            clear hidx hend
            go_wp2_with (first
              | (refine wpList_load_box aggLine rfl _ rfl _ rfl _ rfl HBL.out ?_)
              | (refine wpList_store_box aggLine rfl _ _ rfl _ rfl _ _ rfl HB.out rfl rfl (one_line _) ?_; intro w6 hb6 hg6 hs6))
            refine bodyPost_ret (results_box2 aggLine Tryz.results161 rfl rfl rfl hb6) rfl ?_
            exact hfin.out w6 hg6 hb6
          · rw [hdrop] at hpd; cases hpd
        · have hi9 : i = 3 := by omega
          subst hi9
          clear hend
          go_wp2_with (first
            | (refine wpList_load_box aggLine rfl _ rfl _ rfl _ rfl HBL.out ?_)
            | (refine wpList_store_box aggLine rfl _ _ rfl _ rfl _ _ rfl HB.out rfl rfl (one_line _) ?_; intro w6 hb6 hg6 hs6))
          refine bodyPost_ret (results_box2 aggLine Tryz.results161 rfl rfl rfl hb6) rfl ?_
          exact hfin.out w6 hg6 hb6
      · have hi3 : i < 3 := by
          have := hip
          omega
        obtain ⟨p, hp4, hp, hpd⟩ := parts_at hk10 hi3 hip
        rcases hpd with ⟨_, h⟩ | ⟨hp0, hpd⟩
        · exact absurd (.inr h) hend
        · have hidx : PV[i]? = some (.int .i64 (p : Int)) := by
            rw [← HPV.out]
            simp [nums, hp]
          have hrun := run_index_parts hi3 hidx
          clear hidx hend
          by_cases hn0 : n = 0
          · subst hn0
            have hno : Hid (fillG tg (partsOf k) L' ⟨k, noVer, [], 0, []⟩ = none) := by
              show _ = _
              have hd : L'.drop i = [] := List.drop_eq_nil_of_le (by have := HN.out; omega)
              rw [hfill.out, hpd, hd]
              rfl
            go_wp2_with (first | (refine wpList_store_box aggLine rfl _ _ rfl _ rfl _ zLine rfl HB.out rfl rfl one_zLine ?_; intro w6 hb6 hg6 hs6))
            refine bodyPost_ret (results_box2 aggLine Tryz.results161 rfl rfl rfl hb6) rfl ?_
            exact ⟨⟨_, by rw [hno.out]; rfl, isLine_z, fun l h => by rw [hno.out] at h; cases h⟩, hbel.out.trans (hg6.below hszr (fun k hk => by omega))⟩
          · obtain ⟨x, r, hx⟩ : ∃ x r, L'.drop i = x :: r := by
              cases hd : L'.drop i with
              | nil => have := List.drop_eq_nil_iff.1 hd; have := HN.out; omega
              | cons x r => exact ⟨x, r, rfl⟩
            have hr : Hid (L'.drop (i + 1) = r) := by
              show _ = _
              rw [← List.drop_drop, hx]
              rfl
            obtain ⟨g, off, rfl, hglt, hcell⟩ := hcell (by omega)
            have cx : wr.cell? ⟨g, off, none⟩ = some (.string x) := hcell 0 _ (by rw [hx]; rfl)
            have hxs : x.size ≤ 4294967280 := HSZ.out x (List.mem_of_mem_drop (by rw [hx]; simp))
            have hR : Hid (RdT wr 9 1 (.slice (some ⟨g, off, none⟩) n cp) n (.string x :: strs r)) := by
              have := HF.out
              rw [hx] at this
              exact this
            have hfl : Hid (fillG tg (partsOf k) L' ⟨k, noVer, [], 0, []⟩ = match addPart tg p x l with | some l' => fillG tg ((partsOf k).drop (i + 1)) r l' | none => none) := by
              show _ = _
              rw [hfill.out, hpd, hx]
              rfl
            have HADD : Hid (Calls _ _ _ _ _) := add_any wr base0 (w.heap.size + 1) w1.heap.size tg htg l tv lv p (by omega) x hxs (HE.out.keep (hbel.out.mono HE.out.size)) (by have := HL.out.le; have := blk_lt HL.out.box; omega) HL.out (by omega)
            clear hcell HF hfill hx
            have hn1 : (0 : Int) < (n : Int) := by omega
            cases hadd : addPart tg p x l with
            | none =>
              have hno : Hid (fillG tg (partsOf k) L' ⟨k, noVer, [], 0, []⟩ = none) := by
                show _ = _
                rw [hfl.out, hadd]
              rw [hadd] at HADD
              go_wp2_with (first
                | (go_at_call 189; refine HADD.out.mono ?_; rintro e w5 ⟨rfl, -, hb5, -⟩; have HB5 : Hid (BoxIn w5 w.heap.size 117 zLine) := HB.out.of_block (hb5.block _ (by omega)); have hbl5 : Hid (Below w.heap.size w w5) := hbel.out.trans (hb5.mono (by omega)); clear hb5)
                | (refine wpList_store_box aggLine rfl _ _ rfl _ rfl _ zLine rfl HB5.out rfl rfl one_zLine ?_; intro w6 hb6 hg6 hs6))
              refine bodyPost_ret (results_box2 aggLine Tryz.results161 rfl rfl rfl hb6) rfl ?_
              exact ⟨⟨_, by rw [hno.out]; rfl, isLine_z, fun l h => by rw [hno.out] at h; cases h⟩, hbl5.out.trans (hg6.below hbl5.out.size (fun k hk => by omega))⟩
            | some l2 =>
              rw [hadd] at HADD
              have hfl2 : Hid (fillG tg (partsOf k) L' ⟨k, noVer, [], 0, []⟩ = fillG tg ((partsOf k).drop (i + 1)) r l2) := by
                show _ = _
                rw [hfl.out, hadd]
              have hcnt : l2.takes.length ≤ i + 1 ∧ l2.leads.length ≤ i + 1 := addPart_count hadd ht hl
              have hip1 : i + 1 ≤ (partsOf k).length := by
                have := congrArg List.length hpd
                simp at this
                omega
              go_wp2_with (first
                | (go_at_call 189; refine HADD.out.mono ?_; rintro e w5 ⟨rfl, hl5, hb5, hk5⟩; obtain ⟨tv5, lv5, hl5⟩ := hl5 l2 rfl; have HL5 : Hid (LineIn w5 (w.heap.size + 1) w1.heap.size l2 tv5 lv5) := hl5; have HB5 : Hid (BoxIn w5 w.heap.size 117 zLine) := HB.out.of_block (hb5.block _ (by omega)); have hbl5 : Hid (Below w.heap.size w w5) := hbel.out.trans (hb5.mono (by omega)); have hR5 : Hid (RdT w5 9 1 (.slice (some ⟨g, off, none⟩) n cp) n (.string x :: strs r)) := hR.out.keep hk5; clear hb5 hk5 hl5))
              all_goals (obtain ⟨m, rfl⟩ : ∃ m, n = m + 1 := ⟨n - 1, by omega⟩)
              · have hm0 : m = 0 := by omega
                subst hm0
                go_roundg (3 - (i + 1))
                case measure => omega
                case rel =>
                  refine ⟨i + 1, l2, tv5, lv5, 0, by omega, by go_num, by omega, ?_, HL5, HB5, hbl5, ?_, hip1, hcnt.1, hcnt.2⟩
                  · have hd : r = [] := by
                      have := hR5.out.1
                      simpa [strs] using this
                    show RdT _ _ _ _ _ _
                    rw [hr.out, hd]
                    exact RdT.zero _ _ _ _
                  · show _ = _
                    rw [hr.out]
                    exact hfl2.out
              · go_roundg (3 - (i + 1))
                case measure => omega
                case rel =>
                  refine ⟨i + 1, l2, tv5, lv5, m, by omega, by go_num, by omega, ?_, HL5, HB5, hbl5, ?_, hip1, hcnt.1, hcnt.2⟩
                  · show RdT _ _ _ _ _ _
                    rw [hr.out]
                    exact hR5.out.tail
                  · show _ = _
                    rw [hr.out]
                    exact hfl2.out

set_option maxRecDepth 100000 in
set_option maxHeartbeats 8000000 in
theorem read_none (w : World) (base0 : Nat) (tg : Nat) (s : BA) (hs : s.size ≤ 4294967280) (hE : Env base0 w) (x0 : BA) (L' : List BA) (hL : cutsN 32 5 s = x0 :: L') (hk : kindOf x0 = none) :
    Calls Tryz.prog 161 #[.string s, .int .i64 (tg : Int)] w fun e w' => (∃ v, e = .returned (.tuple #[v, .bool false]) ∧ IsLine v) ∧ Below w.heap.size w w' := by
  have HE : Hid (Env base0 w) := hE
  obtain ⟨N, hN⟩ : ∃ N, N = L'.length := ⟨_, rfl⟩
  have HC : Hid (∀ w1, Env base0 w1 → Calls Tryz.prog 158 #[.string s, .int .i64 3] w1 fun e w' => ∃ cap, e = .returned (.slice (some ⟨w1.heap.size, 0, none⟩) (N + 1) cap) ∧ RdT w' 9 1 (.slice (some ⟨w1.heap.size, 0, none⟩) (N + 1) cap) (N + 1) (strs (x0 :: L')) ∧ Below w1.heap.size w1 w' ∧ w1.heap.size < w'.heap.size) := by
    intro w1 h
    have := split_words w1 base0 s 3 (by omega) hs h
    rw [show 3 + 2 = 5 from rfl, hL, List.length_cons, ← hN] at this
    exact this
  clear hL hE hN
  go_enter Tryz.func161, Tryz.ntmps161
  go_wp2_with (first
    | (go_at_call 158; refine (HC.out _ (HE.out.below ((Below.refl _ _).alloc (Nat.le_refl _) _))).mono ?_; rintro e w1 ⟨cap, rfl, hrd0, hb0, hlt0⟩; obtain ⟨c0, hcap, hrd1, HB0, hsz, hbel0⟩ := words_after (zs := zLine) hrd0 hb0 hlt0; have HB1 : Hid (BoxIn w1 w.heap.size 117 zLine) := HB0; have hbel1 : Hid (Below w.heap.size w w1) := hbel0; clear hrd0 hb0 hlt0 hrd1 HB0 hbel0)
    | (go_at_call 187; refine (find_any _ _).mono ?_; rintro e w1 ⟨rfl, rfl⟩; rw [hk])
    | (refine wpList_store_box aggLine rfl _ _ rfl _ rfl _ zLine rfl HB1.out rfl rfl one_zLine ?_; intro w6 hb6 hg6 hs6))
  refine bodyPost_ret (results_box2 aggLine Tryz.results161 rfl rfl rfl hb6) rfl ?_
  exact ⟨⟨_, rfl, isLine_z⟩, hbel1.out.trans (hg6.below hbel1.out.size (fun k hk => by omega))⟩

/-- A line within a block. -/
theorem read_any (w : World) (base0 : Nat) (tg : Nat) (htg : tg = 0 ∨ tg = 1) (s : BA) (hs : s.size ≤ 4294967280) (hE : Env base0 w) :
    Calls Tryz.prog 161 #[.string s, .int .i64 (tg : Int)] w fun e w' => (∃ v, e = .returned (.tuple #[v, .bool (lineOf tg (cuts 32 s)).isSome]) ∧ IsLine v ∧ ∀ l, lineOf tg (cuts 32 s) = some l → ∃ tv lv, LineOut w' (w.heap.size + 1) l v tv lv) ∧ Below w.heap.size w w' := by
  rw [← lineOf_cutsN]
  have hlen := cutsN_len 5 s (by omega)
  cases hL : cutsN 32 5 s with
  | nil => rw [hL] at hlen; simp at hlen
  | cons x0 L' =>
    cases hk : kindOf x0 with
    | some k =>
      have e : lineOf tg (x0 :: L') = fillG tg (partsOf k) L' ⟨k, noVer, [], 0, []⟩ := by simp only [lineOf, hk]
      rw [e]
      exact read_some w base0 tg htg s hs hE x0 L' hL k hk
    | none =>
      have e : lineOf tg (x0 :: L') = none := by simp only [lineOf, hk]
      rw [e]
      refine (read_none w base0 tg s hs hE x0 L' hL hk).mono ?_
      rintro e' w' ⟨⟨v, rfl, hv⟩, hb⟩
      exact ⟨⟨v, rfl, hv, fun l h => by cases h⟩, hb⟩

end Go.Proofs.YtbddcodljmglfaaGreatDoor
