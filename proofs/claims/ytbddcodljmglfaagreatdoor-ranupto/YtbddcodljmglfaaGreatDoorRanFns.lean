/- The statement's own small functions: lent, still, same. -/
import Derived.Test.YtbddcodljmglfaaGreatDoorRunMem
import Derived.Test.YtbddcodljmglfaaGreatDoorRT3
import Derived.Laws.CopyOwn
import Derived.Deep.RegionHeld3
set_option linter.unusedSimpArgs false
set_option linter.unusedVariables false
namespace Go.Proofs.YtbddcodljmglfaaGreatDoor
open Go.RowKit

theorem sizeI64 : (Tryz.prog.info? 2).map (·.size) = some 1 := by kernel_rfl

theorem makeNums (n : Nat) (hn : n ≤ 10000000) (w : World) :
    (Instr.makeSlice 24 (.int .i64 ((n : Int) + 2)) (.int .i64 ((n : Int) + 2))).run Tryz.prog w = .ok (.slice (some ⟨w.heap.size, 0, none⟩) (n + 2) (n + 2)) (w.alloc (.cells (Array.replicate (n + 2) (.int .i64 0)) 2)) := by
  obtain ⟨i, hi, hz0, hz1, hz2⟩ := info_parts infoInt64
  have hr := run_make (P := Tryz.prog) w 24 2 i _ Tryz.underlying24 hi hz0 .i64 .i64 ((n : Int) + 2) ((n : Int) + 2) (by omega) (Int.le_refl _) (by rw [hz2]; omega) (by omega)
  rw [hr]
  have e0 : ((n : Int) + 2).toNat = n + 2 := by omega
  have e1 : madeCells (Value.cells (.int .i64 0)) (((n : Int) + 2).toNat * i.size) = Array.replicate (n + 2) (.int .i64 0) := by
    apply Array.toList_inj.1
    rw [hz1, e0, Nat.mul_one, show Value.cells (.int .i64 0) = #[.int .i64 0] from rfl, toList_madeCells_one]
    simp
  rw [e1, e0]

theorem front_nums (g off len cap N : Nat) (h : N ≤ cap) (hc : 0 < cap) (hl : N < cap) (w : World) : (Instr.slice 24 (.slice (some ⟨g, off, none⟩) len cap) none (some (.int .i64 (N : Int))) none).run Tryz.prog w = .ok (.slice (some ⟨g, off, none⟩) N cap) w := by
  have h1 : (0 : Int) ≤ (N : Int) ∧ (N : Int) ≤ (cap : Int) := by omega
  have h2 : ¬ cap = 0 := by omega
  have h3 : ((N : Nat) : Int).toNat = N := by omega
  simp [Instr.slice, run_underlying Tryz.underlying24, Instr.sliceBounds, Instr.sliceBound, asIntOf, Result.andThen, sizeOf, typeInfo, h1, h2, h3]
  have h5 : N ≤ cap := by omega
  obtain ⟨i, hi, hz0, hz1, hz2⟩ := info_parts infoInt64
  simp [Addr.add, h5, hi, hz1]
theorem front_nil (w : World) : (Instr.slice 24 (.slice none 0 0) none (some (.int .i64 0)) none).run Tryz.prog w = .ok (.slice none 0 0) w := by
  simp [Instr.slice, run_underlying Tryz.underlying24, Instr.sliceBounds, Instr.sliceBound, asIntOf, Result.andThen, sizeOf, typeInfo]
  obtain ⟨i, hi, hz0, hz1, hz2⟩ := info_parts infoInt64
  simp [hi]

theorem eqlNil64 (ao : Option Addr) (l c : Nat) (w : World) : (binOp .eql 24 (.slice ao l c) (.slice none 0 0)).run Tryz.prog w = .ok (.bool ao.isNone) w := by
  simp only [binOp]
  simp [run_equal_slice_nil w 24 2 ao l c Tryz.underlying24]

def lentOut (zs : List Int) : List Value := ints zs ++ [.int .i64 (-99), .int .i64 (-99)]

theorem intsOne (zs : List Int) : ∀ u ∈ ints zs, u.oneCell' = true := by
  intro u hu
  simp only [ints, List.mem_map] at hu
  obtain ⟨_, _, rfl⟩ := hu
  rfl

/-- The row of x behind the copy and the two marks. -/
theorem lent_row {zs : List Int} : ((splice (List.replicate (zs.length + 2) (Value.int .i64 0)) 0 (ints zs)).set zs.length (.int .i64 (-99))).set (zs.length + 1) (.int .i64 (-99)) = lentOut zs := by
  have hl : (ints zs).length = zs.length := by simp [ints]
  have e1 : splice (List.replicate (zs.length + 2) (Value.int .i64 0)) 0 (ints zs) = ints zs ++ [.int .i64 0, .int .i64 0] := by
    unfold splice
    rw [List.take_zero, List.nil_append, Nat.zero_add, hl, List.drop_replicate]
    congr 1
    rw [show zs.length + 2 - zs.length = 2 by omega]
    rfl
  rw [e1]
  unfold lentOut
  rw [List.set_append_right _ _ (by omega), hl, Nat.sub_self]
  rw [List.set_append_right _ _ (by omega), hl, show zs.length + 1 - zs.length = 1 by omega]
  rfl

theorem copy_nums (w : World) (ao : Option Addr) (cp : Nat) (zs : List Int) (M : Nat) (hM : M = zs.length) (hr : M = 0 ∨ ∃ g off, ao = some ⟨g, off, none⟩ ∧ ∀ j u, (ints zs)[j]? = some u → w.cell? ⟨g, off + j, none⟩ = some u) :
    ∃ w2, (Builtin.copy_ #[24, 24] 3 #[.slice (some ⟨w.heap.size, 0, none⟩) (M + 2) (M + 2), .slice ao M cp]).run Tryz.prog (w.alloc (.cells (Array.replicate (M + 2) (.int .i64 0)) 2)) = .ok (.int .i64 (M : Int)) w2 ∧
      w2.heap[w.heap.size]? = some (.cells (splice (List.replicate (M + 2) (.int .i64 0)) 0 (ints zs)).toArray 2 (0, 0)) ∧ Below w.heap.size w w2 ∧ w2.heap.size = w.heap.size + 1 := by
  have hl : (ints zs).length = M := by simp [ints, hM]
  by_cases h0 : M = 0
  · have hz : ints zs = [] := List.eq_nil_of_length_eq_zero (by omega)
    subst h0
    refine ⟨_, run_copy_none (P := Tryz.prog) _ 24 24 3 2 _ _ _ _ _ _ Tryz.underlying24 sizeI64 (by simp), ?_, (Below.refl _ _).alloc (Nat.le_refl _) _, by simp⟩
    rw [heap_new rfl, hz]
    rfl
  · rcases hr with hr | ⟨g, off, rfl, hr⟩
    · omega
    refine ⟨(w.alloc (.cells (Array.replicate (M + 2) (.int .i64 0)) 2)).setRow w.heap.size (splice (List.replicate (M + 2) (.int .i64 0)) 0 (ints zs)).toArray, ?_, setRow_heap _ _ _ _ 2 _ (heap_new rfl), below_setRow ((Below.refl _ _).alloc (Nat.le_refl _) _) (Nat.le_refl _) _, by simp [World.setRow]⟩
    · have hrun := run_copy_row (P := Tryz.prog) (w.alloc (.cells (Array.replicate (M + 2) (.int .i64 0)) 2)) 24 24 3 2 w.heap.size 0 (M + 2) (M + 2) ⟨g, off, none⟩ M cp (Array.replicate (M + 2) (.int .i64 0)) 2 (ints zs) Tryz.underlying24 sizeI64 (heap_new rfl) (by rw [hl]; exact (Nat.min_eq_left (by omega)).symm) (fun j v hj => by
          rw [Addr.add_lit]
          have := hr j v hj
          rw [World.cell?_alloc_lt _ _ _ (World.block_lt_of_cell? w _ this)]
          exact this) (by simp [hl]) (intsOne zs)
      rw [hrun, hl]
      simp [splice, goInt]
      rw [show M + 2 - (ints zs).length = 2 by omega]
      rfl

/-- A list as it is lent: nil, or a copy with two more behind it. -/
def LentIn (w : World) (x : Value) (zs : List Int) : Prop := (x = .slice none 0 0 ∧ zs = []) ∨ ∃ g, x = .slice (some ⟨g, 0, none⟩) (zs.length + 2) (zs.length + 2) ∧ w.heap[g]? = some (.cells (lentOut zs).toArray 2 (0, 0))
theorem LentIn.below {w w' : World} {x : Value} {zs : List Int} (h : LentIn w x zs) (hb : Below w.heap.size w w') : LentIn w' x zs := by
  rcases h with h | ⟨g, hx, hg⟩
  · exact .inl h
  · exact .inr ⟨g, hx, (hb.block g (blk_lt hg)).trans hg⟩

set_option maxRecDepth 100000 in
set_option maxHeartbeats 4000000 in
theorem lent_any (w : World) (v : Value) (zs : List Int) (hv : RdS w 1 v zs.length (ints zs)) (hzl : zs.length ≤ 10000000) :
    Calls Tryz.prog 25 #[v] w fun e w' => (∃ x, e = .returned x ∧ LentIn w' x zs) ∧ Below w.heap.size w w' := by
  obtain ⟨-, ao, cp, rfl, hr⟩ := hv
  obtain ⟨M, hM⟩ : ∃ M, M = zs.length := ⟨_, rfl⟩
  have HM : Hid (M = zs.length) := hM
  rw [← hM] at hr hzl ⊢
  have heqn := eqlNil64 ao M cp
  cases hao : ao with
  | none =>
    subst hao
    have hz : zs = [] := by
      rcases hr with hr | ⟨g, off, h, -⟩
      · exact List.eq_nil_of_length_eq_zero (by omega)
      · cases h
    have HZ : Hid (zs = []) := hz
    clear hr hM hz
    simp only [Option.isNone_none] at heqn
    go_enter Tryz.func25, Tryz.ntmps25
    go_wp2_with fail
    go_ret
    exact ⟨⟨_, rfl, .inl ⟨rfl, HZ.out⟩⟩, Below.refl _ _⟩
  | some a =>
    rw [← hao]
    have hmk := makeNums M (by omega)
    obtain ⟨w2, hcopy, hX2, hB2, hS2⟩ := copy_nums w ao cp zs M hM hr
    have HX2 : Hid (w2.heap[w.heap.size]? = some (.cells (splice (List.replicate (M + 2) (.int .i64 0)) 0 (ints zs)).toArray 2 (0, 0))) := hX2
    have hspl : (splice (List.replicate (M + 2) (Value.int .i64 0)) 0 (ints zs)).length = M + 2 := by rw [length_splice _ _ _ (by simp [ints, hM])]; simp
    obtain ⟨u1, cu1⟩ : ∃ u, w2.cell? ⟨w.heap.size, M, none⟩ = some u := ⟨_, by simp [World.cell?, hX2]; exact List.getElem?_eq_getElem (by omega)⟩
    obtain ⟨u2, cu2⟩ : ∃ u, w2.cell? ⟨w.heap.size, M + 1, none⟩ = some u := ⟨_, by simp [World.cell?, hX2]; exact List.getElem?_eq_getElem (by omega)⟩
    have fu1 : w2.frozen? ⟨w.heap.size, M, none⟩ = false := by simp [World.frozen?, hX2]
    have fu2 : w2.frozen? ⟨w.heap.size, M + 1, none⟩ = false := by simp [World.frozen?, hX2]
    have HW3 : Hid (((w2.setCell ⟨w.heap.size, M, none⟩ (.int .i64 (-99))).setCell ⟨w.heap.size, M + 1, none⟩ (.int .i64 (-99))).heap[w.heap.size]? = some (.cells (lentOut zs).toArray 2 (0, 0)) ∧ Below w.heap.size w ((w2.setCell ⟨w.heap.size, M, none⟩ (.int .i64 (-99))).setCell ⟨w.heap.size, M + 1, none⟩ (.int .i64 (-99)))) := by
      refine ⟨?_, (hB2.setCell (by simp) _).setCell (by simp) _⟩
      have := HM.out
      subst this
      rw [← lent_row]
      simp [World.setCell, Array.getElem?_modify, HX2.out]
    have hisn : ao.isNone = false := by rw [hao]; rfl
    rw [hisn] at heqn
    clear hX2 hB2 hspl hao hr hM hS2 hisn
    go_enter Tryz.func25, Tryz.ntmps25
    go_wp2_with fail
    go_ret
    exact ⟨⟨_, rfl, .inr ⟨_, by rw [← HM.out]; rfl, HW3.out.1⟩⟩, HW3.out.2⟩

set_option maxRecDepth 100000 in
set_option maxHeartbeats 4000000 in
theorem still_any (w : World) (x v : Value) (zs : List Int) (hL : LentIn w x zs) (hv : RdS w 1 v zs.length (ints zs)) (hzl : zs.length ≤ 10000000) :
    Calls Tryz.prog 28 #[x, v] w fun e w' => e = .returned (.bool true) ∧ Below w.heap.size w w' := by
  have HV : Hid (∀ W, Below w.heap.size w W → RdS W 1 v zs.length (ints zs)) := fun W hb => hv.below hb
  have HL : Hid (∀ W, Below w.heap.size w W → LentIn W x zs) := fun W hb => hL.below hb
  obtain ⟨ao, cp, rfl, hcl⟩ := hv.cells
  obtain ⟨M, hM⟩ : ∃ M, M = zs.length := ⟨_, rfl⟩
  have HM : Hid (M = zs.length) := hM
  rw [← hM] at hcl hzl ⊢
  rcases hL with ⟨rfl, hz⟩ | ⟨g, rfl, hg⟩
  · clear hcl hM
    go_enter Tryz.func28, Tryz.ntmps28
    go_wp2_with fail
    go_loopg [5] 0 (fun gk v3 wr => v3 = .int .i64 0 ∧ wr = w)
    case atStart => exact ⟨rfl, rfl⟩
    case round =>
      obtain ⟨rfl, rfl⟩ := hrel
      go_wp2_with fail
      go_ret
      exact ⟨rfl, Below.refl _ _⟩
  · rw [← hM]
    clear hM hg hcl
    go_enter Tryz.func28, Tryz.ntmps28
    go_wp2_with fail
    go_loopg [5] (M + 2) (fun gk v3 wr => ∃ k : Nat, k + gk = M + 2 ∧ v3 = .int .i64 k ∧ Hid (Below w.heap.size w wr))
    case atStart => exact ⟨0, by omega, rfl, Below.refl _ _⟩
    case round =>
      obtain ⟨k, hkg, rfl, hbel⟩ := hrel
      have hX : wr.heap[g]? = some (.cells (lentOut zs).toArray 2 (0, 0)) := by
        rcases HL.out wr hbel.out with ⟨h, -⟩ | ⟨g', h, h'⟩
        · simp at h
        · have : g = g' := by simpa using h
          subst this
          exact h'
      by_cases hk2 : k < M + 2
      · by_cases hk : k < M
        · have hlt : k < zs.length := by have := HM.out; omega
          obtain ⟨ao5, cp5, he5, hc5⟩ := (HV.out wr hbel.out).cells
          obtain ⟨g5, off5, rfl, -, hc5⟩ := hc5 (by omega)
          simp only [Value.slice.injEq] at he5
          obtain ⟨rfl, -, -⟩ := he5
          have c1 : wr.cell? ⟨g5, off5 + k, none⟩ = some (.int .i64 zs[k]) := hc5 k _ (by simp [ints, hlt])
          have c2 : wr.cell? ⟨g, k, none⟩ = some (.int .i64 zs[k]) := by
            simp only [World.cell?, hX, List.getElem?_toArray, lentOut, ints]
            rw [List.getElem?_append_left (by simpa using hlt)]
            simp [hlt]
          generalize zs[k] = z at c1 c2
          clear hX hc5 hlt
          have hkM : (k : Int) < (M : Int) := by omega
          have hkM2 : (k : Int) < (M : Int) + 2 := by omega
          have hkn : ¬ (M : Int) ≤ (k : Int) := by omega
          go_wp2_with fail
          go_region_held3 (fun w' => w'.cell? ⟨g, k, none⟩ = some (.int .i64 z) ∧ w'.cell? ⟨g5, off5 + k, none⟩ = some (.int .i64 z)) (go_keep) (fail)
          go_wp2_with fail
          go_roundg (M + 2 - (k + 1))
          case measure => omega
          case rel => exact ⟨k + 1, by omega, by go_num, hbel.out.drew⟩
        · have c2 : wr.cell? ⟨g, k, none⟩ = some (.int .i64 (-99)) := by
            have hz := HM.out
            simp only [World.cell?, hX, List.getElem?_toArray, lentOut]
            rw [List.getElem?_append_right (by simp [ints]; omega)]
            rcases (by omega : k = M ∨ k = M + 1) with rfl | rfl
            · rw [show k - (ints zs).length = 0 by simp [ints, hz]]; rfl
            · rw [show M + 1 - (ints zs).length = 1 by simp [ints, hz]]; rfl
          clear hX
          have hkM : ¬ (k : Int) < (M : Int) := by omega
          have hkM2 : (k : Int) < (M : Int) + 2 := by omega
          have hkn : (M : Int) ≤ (k : Int) := by omega
          go_wp2_with fail
          go_quiet (fail)
          go_wp2_with fail
          go_roundg (M + 2 - (k + 1))
          case measure => omega
          case rel => exact ⟨k + 1, by omega, by go_num, ⟨hbel.out.os, hbel.out.tape, hbel.out.output, hbel.out.size, hbel.out.block⟩⟩
      · clear hX
        go_wp2_with fail
        go_ret
        exact ⟨rfl, hbel.out⟩

set_option maxRecDepth 100000 in
set_option maxHeartbeats 4000000 in
theorem same_any (w : World) (R : RunR) : Calls Tryz.prog 27 #[resV R, resV R] w fun e w' => e = .returned (.bool true) ∧ Below w.heap.size w w' := by
  obtain ⟨re, rv, rt⟩ := R
  unfold resV resCells
  generalize traceB rt = tt
  go_enter Tryz.func27, Tryz.ntmps27
  go_wp2_with fail
  go_ret
  exact ⟨rfl, ((Below.refl _ _).alloc (Nat.le_refl _) _).alloc (by simp) _⟩

end Go.Proofs.YtbddcodljmglfaaGreatDoor
