/- The document's graph: over; a new graph, an edge put in. And what follows on it. -/
import Derived.Test.YtbddcodljmglfaaGreatDoorGraphE
import Derived.Test.YtbddcodljmglfaaGreatDoorGraphC
import Derived.Deep.LoopGhost
import Derived.Test.YtbddcodljmglfaaGreatDoorDocA
import Derived.Deep.RegionHeld3
set_option linter.unusedSimpArgs false
set_option linter.unusedVariables false
namespace Go.Proofs.YtbddcodljmglfaaGreatDoor
open Go.RowKit

set_option maxRecDepth 100000 in
set_option maxHeartbeats 1000000 in
theorem refOver_in (w : World) (g n : Nat) (L : List (Nat × Nat)) (D : List Bool) (h : RefIn w g n L D) (a b : Nat) (ha : a < n) (hb : b < n) :
    Calls Tryz.prog 132 #[.pointer (some ⟨g, 0, none⟩), .int .i64 a, .int .i64 b] w fun e w' => ∃ r : Bool, e = .returned (.bool r) ∧ (r = true ↔ HeldF L a b) ∧ Below w.heap.size w w' := by
  have HR : Hid (RefIn w g n L D) := h
  have hle := h.le
  clear h
  go_enter Tryz.func132, Tryz.ntmps132
  go_wp2_with fail
  refine (refFrom_any w g n L D HR.out 0 HR.out.pos (-1)).mono ?_
  rintro e w1 ⟨S1, rfl, hl1, hs1, hB1⟩
  go_wp2_with (first | (refine wpList_keep_arr rfl rfl rfl _ _ rfl S1 hl1 rfl rfl ?_; intro w2 hA2 hB2 hS2))
  have HB2 : Hid (Below w.heap.size w w2) := hB1.trans (hB2.mono hB1.size)
  refine (refFrom_any w2 g n L D (HR.out.below HB2.out) 0 HR.out.pos a).mono ?_
  rintro e w3 ⟨S2, rfl, hl2, hs2, hB3⟩
  have hA3 := hA2.below hB3
  have HB3 : Hid (Below w.heap.size w w3) := HB2.out.trans (hB3.mono HB2.out.size)
  have hlt1 := blk_lt hA3.blk
  obtain ⟨r1, hr1⟩ : ∃ r1, S1.getD b false = r1 := ⟨_, rfl⟩
  obtain ⟨r2, hr2⟩ : ∃ r2, S2.getD b false = r2 := ⟨_, rfl⟩
  have H1 : Hid (S1.getD b false = r1) := hr1
  have H2 : Hid (S2.getD b false = r2) := hr2
  have HFIN : Hid ((r1 && !r2) = true ↔ HeldF L a b) := by
    show _ ↔ _
    rw [← hr1, ← hr2]
    unfold HeldF
    rw [show Fwd L (-1) b ↔ S1.getD b false = true from (hs1 b).symm, show Fwd L a b ↔ S2.getD b false = true from (hs2 b).symm]
    simp only [Bool.and_eq_true, Bool.not_eq_true', Bool.not_eq_true]
  clear hB1 hB2 hB3 hA2 hr1 hr2 hs1 hs2
  generalize w1.heap.size = k1 at hA3 hlt1 ⊢
  cases r1 <;> cases r2
  all_goals
    go_wp2_with (first | (refine wpList_keep_arr rfl rfl rfl _ _ rfl S2 hl2 rfl rfl ?_; intro w4 hA4 hB4 hS4; have hA34 := hA3.below hB4; have c1 := (hA34.cell (k := b) (by omega)).1; rw [H1.out] at c1; have c2 := (hA4.cell (k := b) (by omega)).1; rw [H2.out] at c2; have HB4 : Hid (Below w.heap.size w w4) := HB3.out.trans (hB4.mono HB3.out.size)))
    go_ret
    exact ⟨_, rfl, HFIN.out, HB4.out⟩

def isF : Value → Bool
  | .bool false => true
  | _ => false
def isZ : Value → Bool
  | .int .i64 0 => true
  | _ => false
def okZero : Value → Bool
  | .agg cs => (match cs.toList with | x :: r => isZ x && r.all isF && r.length == 1640 | [] => false)
  | _ => false
theorem isF_iff {v : Value} (h : isF v = true) : v = .bool false := by
  unfold isF at h
  split at h
  · rfl
  · simp at h
theorem zeroRef : ((Tryz.prog.info? 89).bind (·.zero)).map okZero = some true := by kernel_rfl
theorem sizeRef : (Tryz.prog.info? 87).map (·.size) = some 1600 := by kernel_rfl
theorem sizeI : (Tryz.prog.info? 3).map (·.size) = some 1 := by kernel_rfl

theorem zero_ref : ∃ i cs, Tryz.prog.info? 89 = some i ∧ i.zero = some (.agg cs) ∧ cs.size = 1641 ∧ ∀ j, 1 ≤ j → j < 1641 → cs[j]? = some (.bool false) := by
  have h := zeroRef
  cases hi : Tryz.prog.info? 89 with
  | none => rw [hi] at h; simp at h
  | some i =>
    rw [hi] at h
    cases hz : i.zero with
    | none => simp [hz] at h
    | some z =>
      simp [hz] at h
      unfold okZero at h
      split at h
      · rename_i cs
        split at h
        · rename_i x r hx
          simp only [Bool.and_eq_true, beq_iff_eq, List.all_eq_true] at h
          obtain ⟨⟨_, h2⟩, h3⟩ := h
          refine ⟨i, cs, rfl, hz, ?_, fun j h4 h5 => ?_⟩
          · have : cs.toList.length = 1641 := by rw [hx]; simp [h3]
            simpa using this
          · rw [← Array.getElem?_toList, hx]
            obtain ⟨j, rfl⟩ : ∃ k, j = k + 1 := ⟨j - 1, by omega⟩
            have hj : j < r.length := by omega
            simp only [List.getElem?_cons_succ, List.getElem?_eq_getElem hj]
            rw [isF_iff (h2 _ (List.getElem_mem hj))]
        · simp at h
      · simp at h

theorem run_build_ref (n : Int) (w : World) : ∃ C : Array Value, (Instr.build 89 #[(0, .int .i64 n)]).run Tryz.prog w = .ok (.agg C) w ∧ C.size = 1641 ∧ C[0]? = some (.int .i64 n) ∧ ∀ j, 1 ≤ j → j < 1641 → C[j]? = some (.bool false) := by
  obtain ⟨i, cs, hi, hz, hs, hc⟩ := zero_ref
  obtain ⟨i1, h1, h1'⟩ : ∃ i, Tryz.prog.info? 87 = some i ∧ i.size = 1600 := by
    have := sizeRef
    cases h : Tryz.prog.info? 87 with
    | none => rw [h] at this; simp at this
    | some i => rw [h] at this; exact ⟨i, rfl, by simpa using this⟩
  obtain ⟨i2, h2, h2'⟩ : ∃ i, Tryz.prog.info? 3 = some i ∧ i.size = 1 := by
    have := sizeI
    cases h : Tryz.prog.info? 3 with
    | none => rw [h] at this; simp at this
    | some i => rw [h] at this; exact ⟨i, rfl, by simpa using this⟩
  obtain ⟨i3, h3, h3'⟩ : ∃ i, Tryz.prog.info? 81 = some i ∧ i.size = 40 := by
    have := info40
    cases h : Tryz.prog.info? 81 with
    | none => rw [h] at this; simp at this
    | some i => rw [h] at this; exact ⟨i, rfl, by simpa using this⟩
  refine ⟨cs.setIfInBounds 0 (.int .i64 n), ?_, by simpa using hs, by simp [hs], fun j h4 h5 => ?_⟩
  · have hne : ¬ cs = #[] := fun e => by rw [e] at hs; simp at hs
    simp [hne, Instr.build, zeroValue, typeInfo, hi, hz, run_underlying Tryz.underlying89, sizeOf, h1, h1', h2, h2', h3, h3', Instr.fill, Value.cells, Sem.run_bind, hs]
  · rw [Array.getElem?_setIfInBounds_ne (by omega)]
    exact hc j h4 h5

theorem getD_falsesN (n b : Nat) : (List.replicate n false).getD b false = false := by
  simp only [List.getD, List.getElem?_replicate]
  split <;> simp

theorem wpList_new_ref {ops : Array Oper} {rest : List Oper} {op1 op2 : Oper} {a : Act} {w : World} {Q : Exit → Act → World → Prop} (hg1 : op1.guard = none) (x y : Operand) (ho1 : op1.op = .build 89 #[(0, x)]) (hg2 : op2.guard = none) (ho2 : op2.op = .box 89 y) (n : Nat) (hn1 : 1 ≤ n) (hn : n ≤ 40) (hx : a.eval x = .int .i64 n)
    (hy : ∀ C, (a.put op1.dst (.agg C)).eval y = .agg C)
    (h : ∀ C w', RefIn w' w.heap.size n [] (List.replicate n false) → Below w.heap.size w w' → wpList Tryz.prog ops Q rest ((a.put op1.dst (.agg C)).put op2.dst (.pointer (some ⟨w.heap.size, 0, none⟩))) w') : wpList Tryz.prog ops Q (op1 :: op2 :: rest) a w := by
  obtain ⟨C, hrun, hs, h0, hC⟩ := run_build_ref (n : Int) w
  refine wpList_plain hg1 fun _ hK => ?_
  unfold Oper.wp execOp
  simp only [ho1, List.map_toArray, List.map_cons, List.map_nil, hx, Sem.run_bind, Sem.run_pure, Result.andThen_ok, hrun]
  refine hK _ _ (wpList_plain hg2 fun _ hK2 => ?_)
  have hrun2 : (Instr.box 89 (.agg C)).run Tryz.prog w = .ok (.pointer (some ⟨w.heap.size, 0, none⟩)) (w.alloc (.cells C 89)) := by
    simp [Instr.box, newVar, newRow, Value.cells, Sem.run_bind]
  unfold Oper.wp execOp
  simp only [ho2, hy, Sem.run_bind, Sem.run_pure, Result.andThen_ok, hrun2]
  refine hK2 _ _ (h C _ ⟨⟨C, heap_alloc_new w _, hs, h0, fun x y hx hy => ?_, fun a ha => ?_⟩, hn, hn1, by simp, by simp⟩ ((Below.refl _ _).alloc (Nat.le_refl _) _))
  · rw [hC _ (by omega) (by omega)]
    simp
  · rw [hC _ (by omega) (by omega), getD_falsesN]

section
variable {w : World} {g n : Nat} {L : List (Nat × Nat)} {D : List Bool}
theorem RefIn.setE (h : RefIn w g n L D) {x y : Nat} (hx : x < n) (hy : y < n) (v : Bool) {L' : List (Nat × Nat)} (hlt : ∀ z ∈ L', z.1 < n ∧ z.2 < n) (hL : ∀ a b, (a, b) ∈ L' ↔ if (a, b) = (x, y) then v = true else (a, b) ∈ L) : RefIn (w.setCell ⟨g, 1 + x * 40 + y, none⟩ (.bool v)) g n L' D := by
  obtain ⟨C, h1, h2, h3, h4, h5⟩ := h.blk
  have hle := h.le
  have hmul : x * 40 ≤ 39 * 40 := Nat.mul_le_mul_right _ (by omega)
  refine ⟨⟨C.setIfInBounds (1 + x * 40 + y) (.bool v), by simp [World.setCell, Array.getElem?_modify, h1], by simpa using h2, ?_, fun a b ha hb => ?_, fun a ha => ?_⟩, h.le, h.pos, hlt, h.len⟩
  · rw [Array.getElem?_setIfInBounds_ne (by omega)]; exact h3
  · by_cases e : (a, b) = (x, y)
    · obtain ⟨rfl, rfl⟩ : a = x ∧ b = y := by simpa using e
      rw [Array.getElem?_setIfInBounds_self_of_lt (by rw [h2]; omega)]
      have := hL a b
      rw [if_pos rfl] at this
      cases v <;> simp [this]
    · have hne : 1 + x * 40 + y ≠ 1 + a * 40 + b := by
        intro e2
        apply e
        have : x = a := by omega
        subst this
        simp
        omega
      rw [Array.getElem?_setIfInBounds_ne hne, h4 a b ha hb]
      have := hL a b
      rw [if_neg e] at this
      simp [this]
  · rw [Array.getElem?_setIfInBounds_ne (by omega)]; exact h5 a ha

end

end Go.Proofs.YtbddcodljmglfaaGreatDoor

namespace Go.Proofs.YtbddcodljmglfaaGreatDoor
open Go.RowKit

section
variable (w : World) (tb : Nat) (T : List BA) (lv bv : Value) (bs : List BlockG) (hT : TextO w tb T lv bv) (hF : FormT T bs) (gp : Nat) (D : List Bool)
include hT hF
set_option maxRecDepth 100000 in
set_option maxHeartbeats 4000000 in
theorem mayO (hG : RefIn w gp bs.length (edgesG 0 [] bs) D) (s : BA) (u : Ver) (hu : readVer 1 s = some u) (hs : s.size ≤ 4294967280) (b i : Nat) (hi : i < T.length) (hb : b < bs.length) (hbi : bCnt (blkIdx 0 T) i = b + 1) (whole : Bool) :
    Calls Tryz.prog 95 #[.pointer (some ⟨tb, 0, none⟩), .pointer (some ⟨gp, 0, none⟩), .string s, .int .i64 (i : Int), .bool whole] w fun e w' => e = .returned (.bool (mayD (itsFrom 0 bs) (edgesG 0 [] bs) u b i whole)) ∧ Below w.heap.size w w' := by
  have hlen := hF.len
  have hn := hF.n40
  have HFI : Hid (∀ m, Calls Tryz.prog 46 #[.string s] (w.drewN m) fun e w' => e = .returned (.bool (zeroV s)) ∧ ∃ n, w' = w.drewN n) := fun m => (first_any (w.drewN m) s hs).mono (by rintro e w' ⟨h1, n, rfl⟩; exact ⟨h1, _, World.drewN_drewN _ _ _⟩)
  have HFI0 : Hid (Calls Tryz.prog 46 #[.string s] w fun e w' => e = .returned (.bool (zeroV s)) ∧ ∃ n, w' = w.drewN n) := first_any w s hs
  have HWH : Hid (∀ m, Calls Tryz.prog 45 #[.pointer (some ⟨tb, 0, none⟩), .string s] (w.drewN m) fun e w' => e = .returned (.int .i64 (whereN (itsFrom 0 bs) u)) ∧ ∃ n, w' = w.drewN n) := fun m => (whereO (w.drewN m) tb T lv bv bs (hT.below (below_drewN (Below.refl _ _) m)) hF s u hu).mono (by rintro e w' ⟨h1, n, rfl⟩; exact ⟨h1, _, World.drewN_drewN _ _ _⟩)
  have HBL : Hid (∀ m (j k : Nat), j < T.length → bCnt (blkIdx 0 T) j = k + 1 → Calls Tryz.prog 77 #[.pointer (some ⟨tb, 0, none⟩), .int .i64 (j : Int)] (w.drewN m) fun e w' => e = .returned (.int .i64 (k : Int)) ∧ w' = w.drewN m) := fun m j k hj hk => (blockO (w.drewN m) tb T lv bv bs (hT.below (below_drewN (Below.refl _ _) m)) hF j hj).mono (by rintro e w' ⟨h1, h2⟩; rw [hk] at h1; refine ⟨?_, h2⟩; rw [h1]; congr 2; omega)
  have HB1' : Hid (∀ m, Calls Tryz.prog 77 #[.pointer (some ⟨tb, 0, none⟩), .int .i64 (i : Int)] (w.drewN m) fun e w' => e = .returned (.int .i64 (b : Int)) ∧ w' = w.drewN m) := fun m => HBL.out m i b hi hbi
  have hz := ver_zero hu
  by_cases h0 : u.2 = 0
  · have hz' : zeroV s = true := hz.2 h0
    have HE : Hid (mayD (itsFrom 0 bs) (edgesG 0 [] bs) u b i whole = true) := by show _ = _; unfold mayD; rw [if_pos h0]
    rw [hz'] at HFI HFI0
    clear hT hF hG hu hbi hz hz' HWH HBL HB1' h0
    go_enter Tryz.func95, Tryz.ntmps95
    go_wp2_with (first | (go_at_call 46; refine Calls.mono HFI0.out ?_; rintro e w1 ⟨rfl, n1, rfl⟩))
    go_ret
    exact ⟨by rw [HE.out]; rfl, below_drewN (Below.refl _ _) _⟩
  · have hz' : zeroV s = false := by
      cases hq : zeroV s with
      | false => rfl
      | true => exact absurd (hz.1 hq) h0
    rw [hz'] at HFI HFI0
    cases hw : whereI (itsFrom 0 bs) u with
    | none =>
      have HE : Hid (mayD (itsFrom 0 bs) (edgesG 0 [] bs) u b i whole = false) := by show _ = _; unfold mayD; rw [if_neg h0, hw]
      have hwn : whereN (itsFrom 0 bs) u = -1 := by unfold whereN; rw [hw]
      rw [hwn] at HWH
      clear hT hF hG hu hbi hz hz' HBL HB1' h0 hw hwn
      go_enter Tryz.func95, Tryz.ntmps95
      go_wp2_with (first
        | (go_at_call 46; refine Calls.mono HFI0.out ?_; rintro e w1 ⟨rfl, n1, rfl⟩)
        | (go_at_call 45; refine Calls.mono (HWH.out _) ?_; rintro e w2 ⟨rfl, n2, rfl⟩))
      go_ret
      exact ⟨by rw [HE.out]; rfl, below_drewN (Below.refl _ _) _⟩
    | some y =>
      obtain ⟨a, ha⟩ : ∃ a, a = y.blk := ⟨_, rfl⟩
      obtain ⟨k, hk⟩ : ∃ k, k = y.at_ := ⟨_, rfl⟩
      obtain ⟨i1, i2, x, i3, -⟩ := hF.item y (whereI_mem hw).1
      have hal := (its_blk bs 0 y (whereI_mem hw).1).2
      rw [← ha] at i2 hal
      rw [← hk] at i1 i2 i3
      have hkl := (List.getElem?_eq_some_iff.1 i3).1
      have hwn : whereN (itsFrom 0 bs) u = (k : Int) := by unfold whereN; rw [hw, hk]
      rw [hwn] at HWH
      have HB2 : Hid (∀ m, Calls Tryz.prog 77 #[.pointer (some ⟨tb, 0, none⟩), .int .i64 (k : Int)] (w.drewN m) fun e w' => e = .returned (.int .i64 (a : Int)) ∧ w' = w.drewN m) := fun m => HBL.out m k a hkl i2
      have HE0 : Hid (mayD (itsFrom 0 bs) (edgesG 0 [] bs) u b i whole = if a = b then whole || decide (k < i) else heldB (edgesG 0 [] bs) a b) := by show _ = _; unfold mayD; rw [if_neg h0, hw, ha, hk]
      have hk0 : ¬ (k : Int) < 0 := by omega
      rw [Nat.zero_add] at hal
      by_cases hab : a = b
      · have hab' : ((a : Int) == (b : Int)) = true := by simp [hab]
        by_cases hki : k < i
        · have HE : Hid (mayD (itsFrom 0 bs) (edgesG 0 [] bs) u b i whole = true) := by show _ = _; rw [HE0.out, if_pos hab]; simp [hki]
          have hki' : (k : Int) < (i : Int) := by omega
          clear hT hF hG hu hbi hz hz' HBL h0 hw hwn HE0 hk ha i3 i2 hab
          cases whole
          all_goals
            go_enter Tryz.func95, Tryz.ntmps95
            go_wp2_with (first
              | (go_at_call 46; refine Calls.mono HFI0.out ?_; rintro e w1 ⟨rfl, n1, rfl⟩)
              | (go_at_call 45; refine Calls.mono (HWH.out _) ?_; rintro e w2 ⟨rfl, n2, rfl⟩)
              | (go_at_call 77; have HX := HB2; clear HB2; refine Calls.mono (HX.out _) ?_; clear HX; rintro e w3 ⟨rfl, rfl⟩)
              | (go_at_call 77; refine Calls.mono (HB1'.out _) ?_; rintro e w4 ⟨rfl, rfl⟩))
            go_ret
            exact ⟨by rw [HE.out]; rfl, below_drewN (Below.refl _ _) _⟩
        · have hki' : ¬ (k : Int) < (i : Int) := by omega
          have HE : Hid (mayD (itsFrom 0 bs) (edgesG 0 [] bs) u b i whole = whole) := by show _ = _; rw [HE0.out, if_pos hab]; simp [hki]
          clear hT hF hG hu hbi hz hz' HBL h0 hw hwn HE0 hk ha i3 i2 hab
          cases whole
          all_goals
            go_enter Tryz.func95, Tryz.ntmps95
            go_wp2_with (first
              | (go_at_call 46; refine Calls.mono HFI0.out ?_; rintro e w1 ⟨rfl, n1, rfl⟩)
              | (go_at_call 45; refine Calls.mono (HWH.out _) ?_; rintro e w2 ⟨rfl, n2, rfl⟩)
              | (go_at_call 77; have HX := HB2; clear HB2; refine Calls.mono (HX.out _) ?_; clear HX; rintro e w3 ⟨rfl, rfl⟩)
              | (go_at_call 77; refine Calls.mono (HB1'.out _) ?_; rintro e w4 ⟨rfl, rfl⟩))
            go_ret
            exact ⟨by rw [HE.out]; rfl, below_drewN (Below.refl _ _) _⟩
      · have hab' : ((a : Int) == (b : Int)) = false := by simp; omega
        have HOV : Hid (∀ m, Calls Tryz.prog 132 #[.pointer (some ⟨gp, 0, none⟩), .int .i64 (a : Int), .int .i64 (b : Int)] (w.drewN m) fun e w' => e = .returned (.bool (mayD (itsFrom 0 bs) (edgesG 0 [] bs) u b i whole)) ∧ Below w.heap.size w w') := fun m => (refOver_in (w.drewN m) gp bs.length _ D (hG.below (below_drewN (Below.refl _ _) m)) a b hal hb).mono (by
          rintro e w' ⟨r, rfl, h2, h3⟩
          refine ⟨?_, (below_drewN (Below.refl _ _) m).trans h3⟩
          rw [HE0.out, if_neg hab]
          congr 2
          unfold heldB
          rw [Bool.eq_iff_iff, h2]
          simp)
        generalize mayD (itsFrom 0 bs) (edgesG 0 [] bs) u b i whole = res at *
        clear hT hF hG hu hbi hz hz' HBL h0 hw hwn HE0 hk ha i3 i2 hab
        go_enter Tryz.func95, Tryz.ntmps95
        go_wp2_with (first
              | (go_at_call 46; refine Calls.mono HFI0.out ?_; rintro e w1 ⟨rfl, n1, rfl⟩)
              | (go_at_call 45; refine Calls.mono (HWH.out _) ?_; rintro e w2 ⟨rfl, n2, rfl⟩)
              | (go_at_call 77; have HX := HB2; clear HB2; refine Calls.mono (HX.out _) ?_; clear HX; rintro e w3 ⟨rfl, rfl⟩)
              | (go_at_call 77; refine Calls.mono (HB1'.out _) ?_; rintro e w4 ⟨rfl, rfl⟩)
              | (go_at_call 132; refine Calls.mono (HOV.out _) ?_; rintro e w5 ⟨rfl, hb5⟩; have HB5 : Hid (Below w.heap.size w w5) := hb5; clear hb5))
        go_ret
        exact ⟨rfl, HB5.out⟩
end

end Go.Proofs.YtbddcodljmglfaaGreatDoor

namespace Go.Proofs.YtbddcodljmglfaaGreatDoor
open Go.RowKit

theorem RefIn.congrL {w : World} {g n : Nat} {L L' : List (Nat × Nat)} {D : List Bool} (h : RefIn w g n L D) (hL : ∀ q, q ∈ L' ↔ q ∈ L) : RefIn w g n L' D := by
  obtain ⟨C, h1, h2, h3, h4, h5⟩ := h.blk
  refine ⟨⟨C, h1, h2, h3, fun x y hx hy => ?_, h5⟩, h.le, h.pos, fun z hz => h.lt z ((hL z).1 hz), h.len⟩
  rw [h4 x y hx hy]
  congr 3
  exact propext (hL (x, y)).symm

section
variable (w : World) (tb : Nat) (T : List BA) (lv bv : Value) (bs : List BlockG) (hT : TextO w tb T lv bv) (hF : FormT T bs)
include hT hF
set_option maxRecDepth 100000 in
set_option maxHeartbeats 4000000 in
theorem graphO : Calls Tryz.prog 47 #[.pointer (some ⟨tb, 0, none⟩)] w fun e w' => (∃ gp, e = .returned (.pointer (some ⟨gp, 0, none⟩)) ∧ ∃ D, RefIn w' gp bs.length (edgesG 0 [] bs) D) ∧ Below w.heap.size w w' := by
  have HT : Hid (TextO w tb T lv bv) := hT
  have hn := hF.n40
  have hn1 := hF.n1
  have hlen := hF.len
  have HF : Hid (FormT T bs) := hF
  have HED : Hid (∀ z ∈ edgesG 0 [] bs, z.1 < bs.length ∧ z.2 < bs.length) := hF.edges
  have HLA : Hid (∀ b, b < bs.length → lastD T b < T.length ∧ ∃ x, T[lastD T b]? = some x ∧ ∀ k, k ∈ leadsS x ↔ (b, k) ∈ edgesG 0 [] bs) := fun b hb => ⟨(hF.last b hb).1, (hF.last b hb).2.2⟩
  obtain ⟨bo, cb, hbv, htb, t1⟩ : ∃ bo cb, bv = .slice bo bs.length cb ∧ tb < w.heap.size ∧ w.cell? ⟨tb, 1, none⟩ = some (.slice bo bs.length cb) := by
    obtain ⟨base, vals, h1⟩ := hT.ok
    obtain ⟨bo, cb, h2, -, -⟩ := h1.blkAt
    rw [hF.bl] at h2
    refine ⟨bo, cb, h2, h1.box.lt, ?_⟩
    have := h1.box.cell (k := 1) rfl
    rw [h2] at this
    exact this
  obtain ⟨N, hN⟩ : ∃ N, N = bs.length := ⟨_, rfl⟩
  have HN : Hid (N = bs.length) := hN
  generalize edgesG 0 [] bs = E at *
  rw [← hN] at hn hn1 HED HLA t1 ⊢
  clear hT hF hN hbv
  go_enter Tryz.func47, Tryz.ntmps47
  go_wp2_with (first | (refine wpList_new_ref rfl _ _ rfl rfl rfl N hn1 hn rfl (fun _ => rfl) ?_; intro C w1 hR1 hB1))
  have HB1 : Hid (Below w.heap.size w w1) := hB1
  have HR1 : Hid (RefIn w1 w.heap.size N [] (List.replicate N false)) := hR1
  clear hB1 hR1
  go_loopg [4] N (fun g v4 wr => ∃ (b : Nat) (L : List (Nat × Nat)), b + g = N ∧ v4 = .int .i64 b ∧ Hid (RefIn wr w.heap.size N L (List.replicate N false)) ∧ Hid (∀ q, q ∈ L ↔ q.1 < b ∧ q ∈ E) ∧ Hid (Below w.heap.size w wr))
  case atStart => exact ⟨0, [], by omega, rfl, HR1.out, (by show ∀ q, _; intro q; simp), HB1.out⟩
  case round =>
    obtain ⟨b, L, hbg, rfl, hRe, hL, hbel⟩ := hrel
    clear HR1 HB1
    have t1' : wr.cell? ⟨tb, 1, none⟩ = some (.slice bo N cb) := (hbel.out.cell (p := ⟨tb, 1, none⟩) htb).trans t1
    by_cases hbN : b < N
    · have hbN' : (b : Int) < (N : Int) := by omega
      obtain ⟨hll, x, hx, hled⟩ := HLA.out b hbN
      have HLE : Hid (∀ k, k ∈ leadsS x ↔ (b, k) ∈ E) := hled
      have HLS : Hid (Calls Tryz.prog 93 #[.pointer (some ⟨tb, 0, none⟩), .int .i64 (b : Int)] wr fun e w' => e = .returned (.int .i64 (lastD T b : Int)) ∧ w' = wr) := lastO wr tb T lv bv bs (HT.out.below hbel.out) HF.out b (HN.out ▸ hbN)
      have HLD : Hid (Calls Tryz.prog 72 #[.pointer (some ⟨tb, 0, none⟩), .int .i64 (lastD T b : Int)] wr fun e w' => (∃ v, e = .returned v ∧ OwnS w' wr.heap.size 3 1 v (leadsS x).length (nums (leadsS x))) ∧ Below wr.heap.size wr w') := leadsO wr tb T lv bv bs (HT.out.below hbel.out) HF.out _ x hx
      have hl3 := leadsS_len x
      generalize lastD T b = la at *
      obtain ⟨ls, hls⟩ : ∃ ls, ls = leadsS x := ⟨_, rfl⟩
      rw [← hls] at HLE HLD hl3
      clear hled hx hls
      obtain ⟨K, hK⟩ : ∃ K, K = ls.length := ⟨_, rfl⟩
      have HK : Hid (K = ls.length) := hK
      rw [← hK] at HLD hl3
      clear hK
      go_wp2_with (first
        | (go_at_call 93; refine Calls.mono HLS.out ?_; rintro e w2 ⟨rfl, hw2⟩; replace hw2 := hw2.symm; subst hw2)
        | (go_at_call 72; refine Calls.mono HLD.out ?_; rintro e w3 ⟨⟨v, rfl, hv⟩, hb3⟩; obtain ⟨ao, cp, rfl⟩ := hv.len; have HV : Hid (OwnS w3 _ _ _ _ _ _) := hv; have HB3 : Hid (Below w.heap.size w w3) := hbel.out.trans (hb3.mono hbel.out.size); have HR3 : Hid (RefIn w3 w.heap.size N L (List.replicate N false)) := hRe.out.below hb3; clear hv hb3))
      go_loopg [6] K (fun g v6 wr2 => ∃ (k : Nat) (L2 : List (Nat × Nat)), k + g = K ∧ v6 = .int .i64 k ∧ Hid (RefIn wr2 w.heap.size N L2 (List.replicate N false)) ∧ Hid (∀ q, q ∈ L2 ↔ (q.1 < b ∧ q ∈ E) ∨ (q.1 = b ∧ q.2 ∈ ls.take k)) ∧ Hid (Below w.heap.size w wr2) ∧ Hid (RdT wr2 3 1 (.slice ao K cp) K (nums ls)))
      case atStart => exact ⟨0, L, by omega, rfl, HR3.out, (by show ∀ q, _; intro q; rw [hL.out q]; simp), HB3.out, HV.out.rdT⟩
      case round =>
        obtain ⟨k, L2, hkg, rfl, hR2, hL2, hbel2, hrd⟩ := hrel
        clear HR3 HV HB3 HLS HLD hRe hbel
        have t12 : wr.cell? ⟨tb, 1, none⟩ = some (.slice bo N cb) := (hbel2.out.cell (p := ⟨tb, 1, none⟩) htb).trans t1
        by_cases hkK : k < K
        · have hlt : k < ls.length := HK.out ▸ hkK
          have hkK' : (k : Int) < (K : Int) := by omega
          obtain ⟨z, hz⟩ : ∃ z, ls[k]? = some z := ⟨_, List.getElem?_eq_getElem hlt⟩
          have hzE : (b, z) ∈ E := (HLE.out z).1 (List.mem_of_getElem? hz)
          have hzN : z < N := (HED.out _ hzE).2
          obtain ⟨gl, ol, rfl, hgl, hcl⟩ := hrd.out.at (by omega)
          have cz : wr.cell? ⟨gl, ol + k, none⟩ = some (.int .i64 (z : Int)) := hcl k _ (by simp [nums, hz])
          obtain ⟨cE, fE⟩ := hR2.out.cE (x := b) (y := z) (by omega) (by omega)
          generalize decide ((b, z) ∈ L2) = old at cE
          have HR4 : Hid (RefIn (wr.setCell ⟨w.heap.size, 1 + b * 40 + z, none⟩ (.bool true)) w.heap.size N ((b, z) :: L2) (List.replicate N false)) := hR2.out.setE hbN hzN true (fun q hq => by
            rcases List.mem_cons.1 hq with rfl | hq
            · exact ⟨hbN, hzN⟩
            · exact hR2.out.lt q hq) (fun a c => by
            rw [List.mem_cons]
            split
            · rename_i e; simp [e]
            · rename_i e; simp [e])
          have HL4 : Hid (∀ q, q ∈ (b, z) :: L2 ↔ (q.1 < b ∧ q ∈ E) ∨ (q.1 = b ∧ q.2 ∈ ls.take (k + 1))) := by
            intro q
            rw [List.mem_cons, hL2.out q, List.take_add_one, hz, List.mem_append]
            simp only [Option.toList_some, List.mem_singleton]
            constructor
            · rintro (rfl | h | h)
              · exact .inr ⟨rfl, .inr rfl⟩
              · exact .inl h
              · exact .inr ⟨h.1, .inl h.2⟩
            · rintro (h | ⟨h1, h2 | h2⟩)
              · exact .inr (.inl h)
              · exact .inr (.inr ⟨h1, h2⟩)
              · exact .inl (Prod.ext h1 h2)
          have HB4 : Hid (Below w.heap.size w (wr.setCell ⟨w.heap.size, 1 + b * 40 + z, none⟩ (.bool true))) := hbel2.out.setCell (by simp) _
          have HRD4 : Hid (RdT (wr.setCell ⟨w.heap.size, 1 + b * 40 + z, none⟩ (.bool true)) 3 1 (.slice (some ⟨gl, ol, none⟩) K cp) K (nums ls)) := by
            obtain ⟨C, h1, -⟩ := hR2.out.blk
            exact hrd.out.keep ((Keeps.refl _ _).setCell h1 (by decide) _)
          clear hcl hz hzE hR2 hL2 hbel2 hrd HLE
          go_wp2_with fail
          go_region
          go_wp2_with fail
          go_roundg (K - (k + 1))
          case measure => omega
          case rel => exact ⟨k + 1, _, by omega, by go_num, HR4.out.of_block rfl, HL4, HB4.out.drew, HRD4.out.below (Below.refl _ _).drew⟩
        · have hkK' : ¬ (k : Int) < (K : Int) := by omega
          have HL5 : Hid (∀ q, q ∈ L2 ↔ q.1 < b + 1 ∧ q ∈ E) := by
            intro q
            rw [hL2.out q, List.take_of_length_le (by have := HK.out; omega), HLE.out]
            constructor
            · rintro (h | ⟨h1, h2⟩)
              · exact ⟨by omega, h.2⟩
              · rw [← h1] at h2
                exact ⟨by omega, h2⟩
            · rintro ⟨h1, h2⟩
              by_cases h3 : q.1 < b
              · exact .inl ⟨h3, h2⟩
              · have : q.1 = b := by omega
                refine .inr ⟨this, ?_⟩
                rw [← this]
                exact h2
          clear hL2 HLE
          go_wp2_with fail
          go_roundg (N - (b + 1))
          case measure => omega
          case rel => exact ⟨b + 1, L2, by omega, by go_num, hR2, HL5, hbel2⟩
    · have hbN' : ¬ (b : Int) < (N : Int) := by omega
      have HR9 : Hid (RefIn wr w.heap.size N E (List.replicate N false)) := hRe.out.congrL (fun q => by
        rw [hL.out q]
        exact ⟨fun h => ⟨by have := (HED.out q h).1; omega, h⟩, fun h => h.2⟩)
      clear hRe hL
      go_wp2_with fail
      go_ret
      exact ⟨⟨_, rfl, _, HR9.out⟩, hbel.out⟩
end

end Go.Proofs.YtbddcodljmglfaaGreatDoor
