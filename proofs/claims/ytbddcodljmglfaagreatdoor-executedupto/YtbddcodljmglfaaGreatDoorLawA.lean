/- The statement's own small functions: lent, still, same. And what follows on it. -/
import Derived.Test.YtbddcodljmglfaaGreatDoorRunB
import Derived.Test.YtbddcodljmglfaaGreatDoorTextZ
import Derived.Laws.CopyOwn
import Derived.Deep.RegionHeld3
import Derived.Test.YtbddcodljmglfaaGreatDoorExecD
set_option linter.unusedSimpArgs false
set_option linter.unusedVariables false
namespace Go.Proofs.YtbddcodljmglfaaGreatDoor
open Go.RowKit

theorem sizeI64 : (Tryz.prog.info? 2).map (·.size) = some 1 := by kernel_rfl

theorem makeNums (n : Nat) (hn : n ≤ 10000000) (w : World) :
    (Instr.makeSlice 24 (.int .i64 ((n : Int) + 2)) (.int .i64 ((n : Int) + 2))).run Tryz.prog w = .ok (.slice (some ⟨w.heap.size, 0, none⟩) (n + 2) (n + 2)) (w.alloc (.cells (Array.replicate (n + 2) (.int .i64 0)) 2)) := by
  obtain ⟨i, hi, hz0, hz1, hz2⟩ := info_parts infoInt64
  have hr := run_make (P := Tryz.prog) w 24 2 i _ Tryz.underlying24 hi hz0 .i64 .i64 ((n : Int) + 2) ((n : Int) + 2) (by omega) (Int.le_refl _) (by rw [hz2]; omega) (by omega)
  rw [hr]
  have e0 : ((n : Int) + 2).toNat = n + 2 := by omega
  have e1 : madeCells (Value.cells (.int .i64 0)) (((n : Int) + 2).toNat * i.size) = Array.replicate (n + 2) (.int .i64 0) := by
    apply Array.toList_inj.1
    rw [hz1, e0, Nat.mul_one, show Value.cells (.int .i64 0) = #[.int .i64 0] from rfl, toList_madeCells_one]
    simp
  rw [e1, e0]

theorem front_nums (g off len cap N : Nat) (h : N ≤ cap) (hc : 0 < cap) (hl : N < cap) (w : World) : (Instr.slice 24 (.slice (some ⟨g, off, none⟩) len cap) none (some (.int .i64 (N : Int))) none).run Tryz.prog w = .ok (.slice (some ⟨g, off, none⟩) N cap) w := by
  have h1 : (0 : Int) ≤ (N : Int) ∧ (N : Int) ≤ (cap : Int) := by omega
  have h2 : ¬ cap = 0 := by omega
  have h3 : ((N : Nat) : Int).toNat = N := by omega
  simp [Instr.slice, run_underlying Tryz.underlying24, Instr.sliceBounds, Instr.sliceBound, asIntOf, Result.andThen, sizeOf, typeInfo, h1, h2, h3]
  have h5 : N ≤ cap := by omega
  obtain ⟨i, hi, hz0, hz1, hz2⟩ := info_parts infoInt64
  simp [Addr.add, h5, hi, hz1]
theorem front_nil (w : World) : (Instr.slice 24 (.slice none 0 0) none (some (.int .i64 0)) none).run Tryz.prog w = .ok (.slice none 0 0) w := by
  simp [Instr.slice, run_underlying Tryz.underlying24, Instr.sliceBounds, Instr.sliceBound, asIntOf, Result.andThen, sizeOf, typeInfo]
  obtain ⟨i, hi, hz0, hz1, hz2⟩ := info_parts infoInt64
  simp [hi]

theorem eqlNil64 (ao : Option Addr) (l c : Nat) (w : World) : (binOp .eql 24 (.slice ao l c) (.slice none 0 0)).run Tryz.prog w = .ok (.bool ao.isNone) w := by
  simp only [binOp]
  simp [run_equal_slice_nil w 24 2 ao l c Tryz.underlying24]

def lentOut (zs : List Int) : List Value := ints zs ++ [.int .i64 (-99), .int .i64 (-99)]

theorem intsOne (zs : List Int) : ∀ u ∈ ints zs, u.oneCell' = true := by
  intro u hu
  simp only [ints, List.mem_map] at hu
  obtain ⟨_, _, rfl⟩ := hu
  rfl

/-- The row of x behind the copy and the two marks. -/
theorem lent_row {zs : List Int} : ((splice (List.replicate (zs.length + 2) (Value.int .i64 0)) 0 (ints zs)).set zs.length (.int .i64 (-99))).set (zs.length + 1) (.int .i64 (-99)) = lentOut zs := by
  have hl : (ints zs).length = zs.length := by simp [ints]
  have e1 : splice (List.replicate (zs.length + 2) (Value.int .i64 0)) 0 (ints zs) = ints zs ++ [.int .i64 0, .int .i64 0] := by
    unfold splice
    rw [List.take_zero, List.nil_append, Nat.zero_add, hl, List.drop_replicate]
    congr 1
    rw [show zs.length + 2 - zs.length = 2 by omega]
    rfl
  rw [e1]
  unfold lentOut
  rw [List.set_append_right _ _ (by omega), hl, Nat.sub_self]
  rw [List.set_append_right _ _ (by omega), hl, show zs.length + 1 - zs.length = 1 by omega]
  rfl

theorem copy_nums (w : World) (ao : Option Addr) (cp : Nat) (zs : List Int) (M : Nat) (hM : M = zs.length) (hr : M = 0 ∨ ∃ g off, ao = some ⟨g, off, none⟩ ∧ ∀ j u, (ints zs)[j]? = some u → w.cell? ⟨g, off + j, none⟩ = some u) :
    ∃ w2, (Builtin.copy_ #[24, 24] 3 #[.slice (some ⟨w.heap.size, 0, none⟩) (M + 2) (M + 2), .slice ao M cp]).run Tryz.prog (w.alloc (.cells (Array.replicate (M + 2) (.int .i64 0)) 2)) = .ok (.int .i64 (M : Int)) w2 ∧
      w2.heap[w.heap.size]? = some (.cells (splice (List.replicate (M + 2) (.int .i64 0)) 0 (ints zs)).toArray 2 (0, 0)) ∧ Below w.heap.size w w2 ∧ w2.heap.size = w.heap.size + 1 := by
  have hl : (ints zs).length = M := by simp [ints, hM]
  by_cases h0 : M = 0
  · have hz : ints zs = [] := List.eq_nil_of_length_eq_zero (by omega)
    subst h0
    refine ⟨_, run_copy_none (P := Tryz.prog) _ 24 24 3 2 _ _ _ _ _ _ Tryz.underlying24 sizeI64 (by simp), ?_, (Below.refl _ _).alloc (Nat.le_refl _) _, by simp⟩
    rw [heap_new rfl, hz]
    rfl
  · rcases hr with hr | ⟨g, off, rfl, hr⟩
    · omega
    refine ⟨(w.alloc (.cells (Array.replicate (M + 2) (.int .i64 0)) 2)).setRow w.heap.size (splice (List.replicate (M + 2) (.int .i64 0)) 0 (ints zs)).toArray, ?_, setRow_heap _ _ _ _ 2 _ (heap_new rfl), below_setRow ((Below.refl _ _).alloc (Nat.le_refl _) _) (Nat.le_refl _) _, by simp [World.setRow]⟩
    · have hrun := run_copy_row (P := Tryz.prog) (w.alloc (.cells (Array.replicate (M + 2) (.int .i64 0)) 2)) 24 24 3 2 w.heap.size 0 (M + 2) (M + 2) ⟨g, off, none⟩ M cp (Array.replicate (M + 2) (.int .i64 0)) 2 (ints zs) Tryz.underlying24 sizeI64 (heap_new rfl) (by rw [hl]; exact (Nat.min_eq_left (by omega)).symm) (fun j v hj => by
          rw [Addr.add_lit]
          have := hr j v hj
          rw [World.cell?_alloc_lt _ _ _ (World.block_lt_of_cell? w _ this)]
          exact this) (by simp [hl]) (intsOne zs)
      rw [hrun, hl]
      simp [splice, goInt]
      rw [show M + 2 - (ints zs).length = 2 by omega]
      rfl

/-- A list as it is lent: nil, or a copy with two more behind it. -/
def LentIn (w : World) (x : Value) (zs : List Int) : Prop := (x = .slice none 0 0 ∧ zs = []) ∨ ∃ g, x = .slice (some ⟨g, 0, none⟩) (zs.length + 2) (zs.length + 2) ∧ w.heap[g]? = some (.cells (lentOut zs).toArray 2 (0, 0))
theorem LentIn.below {w w' : World} {x : Value} {zs : List Int} (h : LentIn w x zs) (hb : Below w.heap.size w w') : LentIn w' x zs := by
  rcases h with h | ⟨g, hx, hg⟩
  · exact .inl h
  · exact .inr ⟨g, hx, (hb.block g (blk_lt hg)).trans hg⟩

set_option maxRecDepth 100000 in
set_option maxHeartbeats 4000000 in
theorem lent_any (w : World) (v : Value) (zs : List Int) (hv : RdS w 1 v zs.length (ints zs)) (hzl : zs.length ≤ 10000000) :
    Calls Tryz.prog 25 #[v] w fun e w' => (∃ x, e = .returned x ∧ LentIn w' x zs) ∧ Below w.heap.size w w' := by
  obtain ⟨-, ao, cp, rfl, hr⟩ := hv
  obtain ⟨M, hM⟩ : ∃ M, M = zs.length := ⟨_, rfl⟩
  have HM : Hid (M = zs.length) := hM
  rw [← hM] at hr hzl ⊢
  have heqn := eqlNil64 ao M cp
  cases hao : ao with
  | none =>
    subst hao
    have hz : zs = [] := by
      rcases hr with hr | ⟨g, off, h, -⟩
      · exact List.eq_nil_of_length_eq_zero (by omega)
      · cases h
    have HZ : Hid (zs = []) := hz
    clear hr hM hz
    simp only [Option.isNone_none] at heqn
    go_enter Tryz.func25, Tryz.ntmps25
    go_wp2_with fail
    go_ret
    exact ⟨⟨_, rfl, .inl ⟨rfl, HZ.out⟩⟩, Below.refl _ _⟩
  | some a =>
    rw [← hao]
    have hmk := makeNums M (by omega)
    obtain ⟨w2, hcopy, hX2, hB2, hS2⟩ := copy_nums w ao cp zs M hM hr
    have HX2 : Hid (w2.heap[w.heap.size]? = some (.cells (splice (List.replicate (M + 2) (.int .i64 0)) 0 (ints zs)).toArray 2 (0, 0))) := hX2
    have hspl : (splice (List.replicate (M + 2) (Value.int .i64 0)) 0 (ints zs)).length = M + 2 := by rw [length_splice _ _ _ (by simp [ints, hM])]; simp
    obtain ⟨u1, cu1⟩ : ∃ u, w2.cell? ⟨w.heap.size, M, none⟩ = some u := ⟨_, by simp [World.cell?, hX2]; exact List.getElem?_eq_getElem (by omega)⟩
    obtain ⟨u2, cu2⟩ : ∃ u, w2.cell? ⟨w.heap.size, M + 1, none⟩ = some u := ⟨_, by simp [World.cell?, hX2]; exact List.getElem?_eq_getElem (by omega)⟩
    have fu1 : w2.frozen? ⟨w.heap.size, M, none⟩ = false := by simp [World.frozen?, hX2]
    have fu2 : w2.frozen? ⟨w.heap.size, M + 1, none⟩ = false := by simp [World.frozen?, hX2]
    have HW3 : Hid (((w2.setCell ⟨w.heap.size, M, none⟩ (.int .i64 (-99))).setCell ⟨w.heap.size, M + 1, none⟩ (.int .i64 (-99))).heap[w.heap.size]? = some (.cells (lentOut zs).toArray 2 (0, 0)) ∧ Below w.heap.size w ((w2.setCell ⟨w.heap.size, M, none⟩ (.int .i64 (-99))).setCell ⟨w.heap.size, M + 1, none⟩ (.int .i64 (-99)))) := by
      refine ⟨?_, (hB2.setCell (by simp) _).setCell (by simp) _⟩
      have := HM.out
      subst this
      rw [← lent_row]
      simp [World.setCell, Array.getElem?_modify, HX2.out]
    have hisn : ao.isNone = false := by rw [hao]; rfl
    rw [hisn] at heqn
    clear hX2 hB2 hspl hao hr hM hS2 hisn
    go_enter Tryz.func25, Tryz.ntmps25
    go_wp2_with fail
    go_ret
    exact ⟨⟨_, rfl, .inr ⟨_, by rw [← HM.out]; rfl, HW3.out.1⟩⟩, HW3.out.2⟩

set_option maxRecDepth 100000 in
set_option maxHeartbeats 4000000 in
theorem still_any (w : World) (x v : Value) (zs : List Int) (hL : LentIn w x zs) (hv : RdS w 1 v zs.length (ints zs)) (hzl : zs.length ≤ 10000000) :
    Calls Tryz.prog 28 #[x, v] w fun e w' => e = .returned (.bool true) ∧ Below w.heap.size w w' := by
  have HV : Hid (∀ W, Below w.heap.size w W → RdS W 1 v zs.length (ints zs)) := fun W hb => hv.below hb
  have HL : Hid (∀ W, Below w.heap.size w W → LentIn W x zs) := fun W hb => hL.below hb
  obtain ⟨ao, cp, rfl, hcl⟩ := hv.cells
  obtain ⟨M, hM⟩ : ∃ M, M = zs.length := ⟨_, rfl⟩
  have HM : Hid (M = zs.length) := hM
  rw [← hM] at hcl hzl ⊢
  rcases hL with ⟨rfl, hz⟩ | ⟨g, rfl, hg⟩
  · clear hcl hM
    go_enter Tryz.func28, Tryz.ntmps28
    go_wp2_with fail
    go_loopg [5] 0 (fun gk v3 wr => v3 = .int .i64 0 ∧ wr = w)
    case atStart => exact ⟨rfl, rfl⟩
    case round =>
      obtain ⟨rfl, rfl⟩ := hrel
      go_wp2_with fail
      go_ret
      exact ⟨rfl, Below.refl _ _⟩
  · rw [← hM]
    clear hM hg hcl
    go_enter Tryz.func28, Tryz.ntmps28
    go_wp2_with fail
    go_loopg [5] (M + 2) (fun gk v3 wr => ∃ k : Nat, k + gk = M + 2 ∧ v3 = .int .i64 k ∧ Hid (Below w.heap.size w wr))
    case atStart => exact ⟨0, by omega, rfl, Below.refl _ _⟩
    case round =>
      obtain ⟨k, hkg, rfl, hbel⟩ := hrel
      have hX : wr.heap[g]? = some (.cells (lentOut zs).toArray 2 (0, 0)) := by
        rcases HL.out wr hbel.out with ⟨h, -⟩ | ⟨g', h, h'⟩
        · simp at h
        · have : g = g' := by simpa using h
          subst this
          exact h'
      by_cases hk2 : k < M + 2
      · by_cases hk : k < M
        · have hlt : k < zs.length := by have := HM.out; omega
          obtain ⟨ao5, cp5, he5, hc5⟩ := (HV.out wr hbel.out).cells
          obtain ⟨g5, off5, rfl, -, hc5⟩ := hc5 (by omega)
          simp only [Value.slice.injEq] at he5
          obtain ⟨rfl, -, -⟩ := he5
          have c1 : wr.cell? ⟨g5, off5 + k, none⟩ = some (.int .i64 zs[k]) := hc5 k _ (by simp [ints, hlt])
          have c2 : wr.cell? ⟨g, k, none⟩ = some (.int .i64 zs[k]) := by
            simp only [World.cell?, hX, List.getElem?_toArray, lentOut, ints]
            rw [List.getElem?_append_left (by simpa using hlt)]
            simp [hlt]
          generalize zs[k] = z at c1 c2
          clear hX hc5 hlt
          have hkM : (k : Int) < (M : Int) := by omega
          have hkM2 : (k : Int) < (M : Int) + 2 := by omega
          have hkn : ¬ (M : Int) ≤ (k : Int) := by omega
          go_wp2_with fail
          go_region_held3 (fun w' => w'.cell? ⟨g, k, none⟩ = some (.int .i64 z) ∧ w'.cell? ⟨g5, off5 + k, none⟩ = some (.int .i64 z)) (go_keep) (fail)
          go_wp2_with fail
          go_roundg (M + 2 - (k + 1))
          case measure => omega
          case rel => exact ⟨k + 1, by omega, by go_num, hbel.out.drew⟩
        · have c2 : wr.cell? ⟨g, k, none⟩ = some (.int .i64 (-99)) := by
            have hz := HM.out
            simp only [World.cell?, hX, List.getElem?_toArray, lentOut]
            rw [List.getElem?_append_right (by simp [ints]; omega)]
            rcases (by omega : k = M ∨ k = M + 1) with rfl | rfl
            · rw [show k - (ints zs).length = 0 by simp [ints, hz]]; rfl
            · rw [show M + 1 - (ints zs).length = 1 by simp [ints, hz]]; rfl
          clear hX
          have hkM : ¬ (k : Int) < (M : Int) := by omega
          have hkM2 : (k : Int) < (M : Int) + 2 := by omega
          have hkn : (M : Int) ≤ (k : Int) := by omega
          go_wp2_with fail
          go_quiet (fail)
          go_wp2_with fail
          go_roundg (M + 2 - (k + 1))
          case measure => omega
          case rel => exact ⟨k + 1, by omega, by go_num, ⟨hbel.out.os, hbel.out.tape, hbel.out.output, hbel.out.size, hbel.out.block⟩⟩
      · clear hX
        go_wp2_with fail
        go_ret
        exact ⟨rfl, hbel.out⟩

set_option maxRecDepth 100000 in
set_option maxHeartbeats 4000000 in
theorem same_any (w : World) (R : RunR) : Calls Tryz.prog 27 #[resV R, resV R] w fun e w' => e = .returned (.bool true) ∧ Below w.heap.size w w' := by
  obtain ⟨re, rv, rt⟩ := R
  unfold resV resCells
  generalize traceB rt = tt
  go_enter Tryz.func27, Tryz.ntmps27
  go_wp2_with fail
  go_ret
  exact ⟨rfl, ((Below.refl _ _).alloc (Nat.le_refl _) _).alloc (by simp) _⟩

end Go.Proofs.YtbddcodljmglfaaGreatDoor

namespace Go.Proofs.YtbddcodljmglfaaGreatDoor
open Go.RowKit

/-- What the document's Exec does. -/
def ExecsDoc : Prop := ∀ (w : World) (s : BA), s.size ≤ 4294967280 → ∀ (argv : Value) (xs : List Int), RdS w 1 argv xs.length (ints xs) → (∀ x ∈ xs, fits64 x) → ∀ (fuel : Int),
  Calls Tryz.prog 32 #[.string s, argv, .int .i64 fuel] w fun e w' => e = .returned (.tuple #[resV (resF s xs fuel).1, .int .i64 ((resF s xs fuel).2.1 : Int), .int .i64 ((resF s xs fuel).2.2 : Int)]) ∧ Below w.heap.size w w'

theorem numX_any (w : World) (n : Nat) : Calls Tryz.prog 24 #[.int .i64 (n : Int)] w fun e w' => e = .returned (.int .i64 (n : Int)) ∧ w' = w := by
  go_enter Tryz.func24, Tryz.ntmps24
  go_wp2
  go_ret
  exact ⟨rfl, rfl⟩

theorem lent_shapeX {w : World} {x : Value} {zs : List Int} (h : LentIn w x zs) : ∃ a l c y b d, x = .slice a l c ∧ y = .slice b zs.length d ∧ RdS w 1 y zs.length (ints zs) ∧ ∀ W, (Instr.slice 24 x none (some (.int .i64 (zs.length : Int))) none).run Tryz.prog W = .ok y W := by
  rcases h with ⟨rfl, rfl⟩ | ⟨g, rfl, hg⟩
  · exact ⟨_, _, _, _, _, _, rfl, rfl, ⟨rfl, none, 0, rfl, .inl rfl⟩, fun W => front_nil W⟩
  · refine ⟨_, _, _, _, _, _, rfl, rfl, ⟨by simp [ints], _, _, rfl, .inr ⟨_, _, rfl, fun j u hj => ?_⟩⟩, fun W => front_nums g 0 _ _ zs.length (by omega) (by omega) (by omega) W⟩
    have hjl : j < zs.length := by have := (List.getElem?_eq_some_iff.1 hj).1; simpa [ints] using this
    simp only [World.cell?, hg, List.getElem?_toArray, Nat.zero_add, lentOut]
    rw [List.getElem?_append_left (by simpa [ints] using hjl)]
    exact hj

set_option maxRecDepth 100000 in
set_option maxHeartbeats 8000000 in
theorem lexec_any (hD : ExecsDoc) (w : World) (base0 : Nat) (s : BA) (hs : s.size ≤ 4294967280) (hE : Env base0 w) (v : Value) (zs : List Int) (hv : RdS w 1 v zs.length (ints zs)) (hz64 : ∀ z ∈ zs, fits64 z) (hzl : zs.length ≤ 10000000) (fuel : Int) :
    Calls Tryz.prog 17 #[.string s, v, .int .i64 fuel] w fun e w' => e = .returned (.bool true) ∧ Below w.heap.size w w' := by
  have HLN : Hid (∀ W, Below w.heap.size w W → Calls Tryz.prog 25 #[v] W fun e w' => (∃ x, e = .returned x ∧ LentIn w' x zs) ∧ Below W.heap.size W w') := fun W hb => lent_any W v zs (hv.below hb) hzl
  have HR : Hid (∀ W y, Below w.heap.size w W → RdS W 1 y zs.length (ints zs) → Calls Tryz.prog 22 #[.string s, y, .int .i64 fuel] W fun e w' => e = .returned (.tuple #[resV (resF s zs fuel).1, .int .i64 ((resF s zs fuel).2.1 : Int), .int .i64 ((resF s zs fuel).2.2 : Int)]) ∧ Below W.heap.size W w') := fun W y hb hy => rExec_any W base0 s hs (hE.below hb) y zs hy hz64 fuel
  have HDR : Hid (∀ W, Below w.heap.size w W → Calls Tryz.prog 32 #[.string s, v, .int .i64 fuel] W fun e w' => e = .returned (.tuple #[resV (resF s zs fuel).1, .int .i64 ((resF s zs fuel).2.1 : Int), .int .i64 ((resF s zs fuel).2.2 : Int)]) ∧ Below W.heap.size W w') := fun W hb => hD W s hs v zs (hv.below hb) hz64 fuel
  have HSA : Hid (∀ W R, Calls Tryz.prog 27 #[resV R, resV R] W fun e w' => e = .returned (.bool true) ∧ Below W.heap.size W w') := fun W R => same_any W R
  have HST : Hid (∀ W x, Below w.heap.size w W → LentIn W x zs → Calls Tryz.prog 28 #[x, v] W fun e w' => e = .returned (.bool true) ∧ Below W.heap.size W w') := fun W x hb hx => still_any W x v zs hx (hv.below hb) hzl
  have HNM : Hid (∀ W (n : Nat), Calls Tryz.prog 24 #[.int .i64 (n : Int)] W fun e w' => e = .returned (.int .i64 (n : Int)) ∧ w' = W) := fun W n => numX_any W n
  have HLS : Hid (∀ W x, LentIn W x zs → ∃ a l c y b d, x = .slice a l c ∧ y = .slice b zs.length d ∧ RdS W 1 y zs.length (ints zs) ∧ ∀ W', (Instr.slice 24 x none (some (.int .i64 (zs.length : Int))) none).run Tryz.prog W' = .ok y W') := fun W x h => lent_shapeX h
  clear hD hE hz64
  obtain ⟨ao, cp, rfl, -⟩ := hv.cells
  generalize resF s zs fuel = q at *
  clear hv
  obtain ⟨⟨re, rv, rt⟩, q1, q2⟩ := q
  have HSA' : Hid (∀ W, Calls Tryz.prog 27 #[.agg #[.bool re, .int .i64 rv, .string (traceB rt)], .agg #[.bool re, .int .i64 rv, .string (traceB rt)]] W fun e w' => e = .returned (.bool true) ∧ Below W.heap.size W w') := fun W => HSA.out W ⟨re, rv, rt⟩
  clear HSA
  unfold resV resCells at *
  generalize traceB rt = tt at *
  obtain ⟨M, hM⟩ : ∃ M, M = zs.length := ⟨_, rfl⟩
  rw [← hM] at HLN HR HDR HST HLS hzl ⊢
  clear hM
  go_enter Tryz.func17, Tryz.ntmps17
  go_wp2_with (first
    | (go_at_call 25; refine (HLN.out _ (Below.refl _ _)).mono ?_; rintro e w1 ⟨⟨x, rfl, hL⟩, hb1⟩; have HL1 : Hid (LentIn w1 x zs) := hL; have HB1 : Hid (Below w.heap.size w w1) := hb1; obtain ⟨ax, lx, cx, y, bx, dx, rfl, rfl, hry, hsl⟩ := HLS.out w1 x hL; have HRY : Hid _ := hry; clear hL hb1 hry)
    | (go_at_call 22; refine (HR.out _ _ HB1.out HRY.out).mono ?_; rintro e w2 ⟨rfl, hb2⟩; have HB2 : Hid (Below w1.heap.size w1 w2) := hb2; clear hb2)
    | (go_at_call 32; refine (HDR.out _ ((HB1.out.trans (HB2.out.mono HB1.out.size)).alloc (Nat.le_trans HB1.out.size HB2.out.size) _)).mono ?_; rintro e w4 ⟨rfl, hb4⟩; have HB4 : Hid (Below w2.heap.size w2 w4) := ((Below.refl _ _).alloc (Nat.le_refl _) _).trans (hb4.mono (by simp)); have HX4 : Hid (BoxIn w4 w2.heap.size 30 [.bool re, .int .i64 rv, .string tt]) := (BoxIn.new w2 30 [.bool re, .int .i64 rv, .string tt]).below hb4; clear hb4)
    | (refine wpList_load_box aggRes rfl _ rfl _ rfl _ rfl (HX4.out.below ((Below.refl _ _).alloc (Nat.le_refl _) _)) ?_)
    | (go_at_call 27; refine (HSA'.out _).mono ?_; rintro e w5 ⟨rfl, hb5⟩; have HB5 : Hid (Below w1.heap.size w1 w5) := (HB2.out.trans (HB4.out.mono HB2.out.size)).trans (((Below.refl _ _).alloc (Nat.le_refl _) _).trans (hb5.mono (by simp)) |>.mono (Nat.le_trans HB2.out.size HB4.out.size)); clear hb5)
    | (go_at_call 28; refine (HST.out _ _ (HB1.out.trans (HB5.out.mono HB1.out.size)) (HL1.out.below HB5.out)).mono ?_; rintro e w6 ⟨rfl, hb6⟩; have HB6 : Hid (Below w.heap.size w w6) := (HB1.out.trans (HB5.out.mono HB1.out.size)).trans (hb6.mono (Nat.le_trans HB1.out.size HB5.out.size)); clear hb6)
    | (go_at_call 24; refine (HNM.out _ _).mono ?_; rintro e w3 ⟨rfl, hw3⟩; rw [hw3]; clear hw3))
  go_ret
  exact ⟨by simp, HB6.out⟩

set_option maxRecDepth 100000 in
set_option maxHeartbeats 1000000 in
theorem executed_any (hD : ExecsDoc) (w : World) (base0 : Nat) (s t : BA) (hs : s.size ≤ 4294967280) (ht : t.size ≤ 4294967280) (hE : Env base0 w) (v v2 : Value) (zs zs2 : List Int) (hv : RdS w 1 v zs.length (ints zs)) (hz64 : ∀ z ∈ zs, fits64 z) (hzl : zs.length ≤ 10000000) (hv2 : RdS w 1 v2 zs2.length (ints zs2)) (hz64' : ∀ z ∈ zs2, fits64 z) (hzl2 : zs2.length ≤ 10000000) (fuel less : Int) :
    Calls Tryz.prog 7 #[.string s, v, .int .i64 fuel, .string t, v2, .int .i64 less] w fun e w' => e = .returned (.bool true) ∧ Below w.heap.size w w' := by
  have HC1 : Hid (∀ W x f, Below w.heap.size w W → x.size ≤ 4294967280 → Calls Tryz.prog 17 #[.string x, v, .int .i64 f] W fun e w' => e = .returned (.bool true) ∧ Below w.heap.size w w') := fun W x f hb hx => (lexec_any hD W base0 x hx (hE.below hb) v zs (hv.below hb) hz64 hzl f).mono (by rintro e w' ⟨h1, h2⟩; exact ⟨h1, hb.trans (h2.mono hb.size)⟩)
  have HC2 : Hid (∀ W x f, Below w.heap.size w W → x.size ≤ 4294967280 → Calls Tryz.prog 17 #[.string x, v2, .int .i64 f] W fun e w' => e = .returned (.bool true) ∧ Below w.heap.size w w') := fun W x f hb hx => (lexec_any hD W base0 x hx (hE.below hb) v2 zs2 (hv2.below hb) hz64' hzl2 f).mono (by rintro e w' ⟨h1, h2⟩; exact ⟨h1, hb.trans (h2.mono hb.size)⟩)
  have HC3 : Hid (∀ W W0 x f, W = W0.alloc (.cells #[.int .i64 2] 2) → Below w.heap.size w W0 → x.size ≤ 4294967280 → Calls Tryz.prog 17 #[.string x, .slice (some ⟨W0.heap.size, 0, none⟩) 1 1, .int .i64 f] W fun e w' => e = .returned (.bool true) ∧ Below w.heap.size w w') := by
    intro W W0 x f hW hb hx
    have hb' : Below w.heap.size w W := by rw [hW]; exact hb.alloc hb.size _
    refine (lexec_any hD W base0 x hx (hE.below hb') _ [2] ?_ (by simp [fits64]) (by simp) f).mono (by rintro e w' ⟨h1, h2⟩; exact ⟨h1, hb'.trans (h2.mono hb'.size)⟩)
    rw [hW]
    exact ⟨rfl, _, _, rfl, .inr ⟨W0.heap.size, 0, rfl, fun j u hj => by rw [Nat.zero_add]; exact (BoxIn.new W0 2 [.int .i64 2]).cell hj⟩⟩
  obtain ⟨ao, cp, rfl, -⟩ := hv.cells
  obtain ⟨ao2, cp2, rfl, -⟩ := hv2.cells
  clear hD hE hv hz64 hv2 hz64'
  have HB0 : Hid (Below w.heap.size w w) := Below.refl _ _
  go_enter Tryz.func7, Tryz.ntmps7
  go_wp2_with (first
    | (go_at_call_of 17 (Value.slice ao zs.length cp); refine (HC1.out _ _ _ HB0.out (by first | exact hs | exact ht)).mono ?_; rintro e w1 ⟨rfl, hb1⟩; clear HB0; have HB0 : Hid (Below w.heap.size w w1) := hb1; clear hb1)
    | (go_at_call_of 17 (Value.slice ao2 zs2.length cp2); refine (HC2.out _ _ _ HB0.out (by first | exact hs | exact ht)).mono ?_; rintro e w1 ⟨rfl, hb1⟩; clear HB0; have HB0 : Hid (Below w.heap.size w w1) := hb1; clear hb1)
    | (go_at_call 17; refine (HC3.out _ _ _ _ rfl HB0.out (by decide)).mono ?_; rintro e w1 ⟨rfl, hb1⟩; clear HB0; have HB0 : Hid (Below w.heap.size w w1) := hb1; clear hb1))
  go_ret
  exact ⟨by simp, HB0.out⟩

end Go.Proofs.YtbddcodljmglfaaGreatDoor
