/- The document's own New, Add, Cut, End, Meets. -/
import Derived.Test.YtbddcodljmglfaaRefMeet
set_option linter.unusedSimpArgs false
set_option linter.unusedVariables false
namespace Go.Proofs.Ytbddcodljmglfaa
open Go.RowKit

def isF : Value → Bool
  | .bool false => true
  | _ => false
def isZ : Value → Bool
  | .int .i64 0 => true
  | _ => false
def okZero : Value → Bool
  | .agg cs => (match cs.toList with | x :: r => isZ x && r.all isF && r.length == 1640 | [] => false)
  | _ => false
theorem isF_iff {v : Value} (h : isF v = true) : v = .bool false := by
  unfold isF at h
  split at h
  · rfl
  · simp at h
theorem zeroRef : ((Try.prog.info? 61).bind (·.zero)).map okZero = some true := by kernel_rfl
theorem sizeRef : (Try.prog.info? 59).map (·.size) = some 1600 := by kernel_rfl
theorem sizeI : (Try.prog.info? 3).map (·.size) = some 1 := by kernel_rfl

theorem zero_ref : ∃ i cs, Try.prog.info? 61 = some i ∧ i.zero = some (.agg cs) ∧ cs.size = 1641 ∧ ∀ j, 1 ≤ j → j < 1641 → cs[j]? = some (.bool false) := by
  have h := zeroRef
  cases hi : Try.prog.info? 61 with
  | none => rw [hi] at h; simp at h
  | some i =>
    rw [hi] at h
    cases hz : i.zero with
    | none => simp [hz] at h
    | some z =>
      simp [hz] at h
      unfold okZero at h
      split at h
      · rename_i cs
        split at h
        · rename_i x r hx
          simp only [Bool.and_eq_true, beq_iff_eq, List.all_eq_true] at h
          obtain ⟨⟨_, h2⟩, h3⟩ := h
          refine ⟨i, cs, rfl, hz, ?_, fun j h4 h5 => ?_⟩
          · have : cs.toList.length = 1641 := by rw [hx]; simp [h3]
            simpa using this
          · rw [← Array.getElem?_toList, hx]
            obtain ⟨j, rfl⟩ : ∃ k, j = k + 1 := ⟨j - 1, by omega⟩
            have hj : j < r.length := by omega
            simp only [List.getElem?_cons_succ, List.getElem?_eq_getElem hj]
            rw [isF_iff (h2 _ (List.getElem_mem hj))]
        · simp at h
      · simp at h

theorem run_build_ref (n : Int) (w : World) : ∃ C : Array Value, (Instr.build 61 #[(0, .int .i64 n)]).run Try.prog w = .ok (.agg C) w ∧ C.size = 1641 ∧ C[0]? = some (.int .i64 n) ∧ ∀ j, 1 ≤ j → j < 1641 → C[j]? = some (.bool false) := by
  obtain ⟨i, cs, hi, hz, hs, hc⟩ := zero_ref
  obtain ⟨i1, h1, h1'⟩ : ∃ i, Try.prog.info? 59 = some i ∧ i.size = 1600 := by
    have := sizeRef
    cases h : Try.prog.info? 59 with
    | none => rw [h] at this; simp at this
    | some i => rw [h] at this; exact ⟨i, rfl, by simpa using this⟩
  obtain ⟨i2, h2, h2'⟩ : ∃ i, Try.prog.info? 3 = some i ∧ i.size = 1 := by
    have := sizeI
    cases h : Try.prog.info? 3 with
    | none => rw [h] at this; simp at this
    | some i => rw [h] at this; exact ⟨i, rfl, by simpa using this⟩
  obtain ⟨i3, h3, h3'⟩ : ∃ i, Try.prog.info? 58 = some i ∧ i.size = 40 := by
    have := info40
    cases h : Try.prog.info? 58 with
    | none => rw [h] at this; simp at this
    | some i => rw [h] at this; exact ⟨i, rfl, by simpa using this⟩
  refine ⟨cs.setIfInBounds 0 (.int .i64 n), ?_, by simpa using hs, by simp [hs], fun j h4 h5 => ?_⟩
  · have hne : ¬ cs = #[] := fun e => by rw [e] at hs; simp at hs
    simp [hne, Instr.build, zeroValue, typeInfo, hi, hz, run_underlying Try.underlying61, sizeOf, h1, h1', h2, h2', h3, h3', Instr.fill, Value.cells, Sem.run_bind, hs]
  · rw [Array.getElem?_setIfInBounds_ne (by omega)]
    exact hc j h4 h5

theorem getD_falsesN (n b : Nat) : (List.replicate n false).getD b false = false := by
  simp only [List.getD, List.getElem?_replicate]
  split <;> simp

theorem wpList_new_ref {ops : Array Oper} {rest : List Oper} {op1 op2 : Oper} {a : Act} {w : World} {Q : Exit → Act → World → Prop} (hg1 : op1.guard = none) (x y : Operand) (ho1 : op1.op = .build 61 #[(0, x)]) (hg2 : op2.guard = none) (ho2 : op2.op = .box 61 y) (n : Nat) (hn1 : 1 ≤ n) (hn : n ≤ 40) (hx : a.eval x = .int .i64 n)
    (hy : ∀ C, (a.put op1.dst (.agg C)).eval y = .agg C)
    (h : ∀ C w', RefIn w' w.heap.size n [] (List.replicate n false) → Below w.heap.size w w' → wpList Try.prog ops Q rest ((a.put op1.dst (.agg C)).put op2.dst (.pointer (some ⟨w.heap.size, 0, none⟩))) w') : wpList Try.prog ops Q (op1 :: op2 :: rest) a w := by
  obtain ⟨C, hrun, hs, h0, hC⟩ := run_build_ref (n : Int) w
  refine wpList_plain hg1 fun _ hK => ?_
  unfold Oper.wp execOp
  simp only [ho1, List.map_toArray, List.map_cons, List.map_nil, hx, Sem.run_bind, Sem.run_pure, Result.andThen_ok, hrun]
  refine hK _ _ (wpList_plain hg2 fun _ hK2 => ?_)
  have hrun2 : (Instr.box 61 (.agg C)).run Try.prog w = .ok (.pointer (some ⟨w.heap.size, 0, none⟩)) (w.alloc (.cells C 61)) := by
    simp [Instr.box, newVar, newRow, Value.cells, Sem.run_bind]
  unfold Oper.wp execOp
  simp only [ho2, hy, Sem.run_bind, Sem.run_pure, Result.andThen_ok, hrun2]
  refine hK2 _ _ (h C _ ⟨⟨C, heap_alloc_new w _, hs, h0, fun x y hx hy => ?_, fun a ha => ?_⟩, hn, hn1, by simp, by simp⟩ ((Below.refl _ _).alloc (Nat.le_refl _) _))
  · rw [hC _ (by omega) (by omega)]
    simp
  · rw [hC _ (by omega) (by omega), getD_falsesN]

theorem refNew_no (w : World) (n : Int) (h : n < 1 ∨ 40 < n) :
    Calls Try.prog 41 #[.int .i64 n] w fun e w' => e = .returned (.tuple #[.pointer none, .int .i64 1]) ∧ w' = w := by
  rcases h with h | h
  · go_enter Try.func41, Try.ntmps41
    go_wp2
    go_ret2
    exact ⟨rfl, rfl⟩
  · have h' : ¬ n < 1 := by omega
    go_enter Try.func41, Try.ntmps41
    go_wp2
    go_ret2
    exact ⟨rfl, rfl⟩

theorem refNew_yes (w : World) (n : Nat) (h1 : 1 ≤ n) (h2 : n ≤ 40) :
    Calls Try.prog 41 #[.int .i64 n] w fun e w' => e = .returned (.tuple #[.pointer (some ⟨w.heap.size, 0, none⟩), .int .i64 0]) ∧ RefIn w' w.heap.size n [] (List.replicate n false) ∧ Below w.heap.size w w' := by
  have q1 : ¬ ((n : Int) < 1) := by omega
  have q2 : ¬ ((40 : Int) < (n : Int)) := by omega
  go_enter Try.func41, Try.ntmps41
  go_wp2_with (first | (refine wpList_new_ref rfl _ _ rfl rfl rfl n h1 h2 rfl (fun _ => rfl) ?_; intro C w1 hR1 hB1))
  go_ret2
  exact ⟨rfl, hR1, hB1⟩

section
variable {w : World} {g n : Nat} {L : List (Nat × Nat)} {D : List Bool}
theorem RefIn.setE (h : RefIn w g n L D) {x y : Nat} (hx : x < n) (hy : y < n) (v : Bool) {L' : List (Nat × Nat)} (hlt : ∀ z ∈ L', z.1 < n ∧ z.2 < n) (hL : ∀ a b, (a, b) ∈ L' ↔ if (a, b) = (x, y) then v = true else (a, b) ∈ L) : RefIn (w.setCell ⟨g, 1 + x * 40 + y, none⟩ (.bool v)) g n L' D := by
  obtain ⟨C, h1, h2, h3, h4, h5⟩ := h.blk
  have hle := h.le
  have hmul : x * 40 ≤ 39 * 40 := Nat.mul_le_mul_right _ (by omega)
  refine ⟨⟨C.setIfInBounds (1 + x * 40 + y) (.bool v), by simp [World.setCell, Array.getElem?_modify, h1], by simpa using h2, ?_, fun a b ha hb => ?_, fun a ha => ?_⟩, h.le, h.pos, hlt, h.len⟩
  · rw [Array.getElem?_setIfInBounds_ne (by omega)]; exact h3
  · by_cases e : (a, b) = (x, y)
    · obtain ⟨rfl, rfl⟩ : a = x ∧ b = y := by simpa using e
      rw [Array.getElem?_setIfInBounds_self_of_lt (by rw [h2]; omega)]
      have := hL a b
      rw [if_pos rfl] at this
      cases v <;> simp [this]
    · have hne : 1 + x * 40 + y ≠ 1 + a * 40 + b := by
        intro e2
        apply e
        have : x = a := by omega
        subst this
        simp
        omega
      rw [Array.getElem?_setIfInBounds_ne hne, h4 a b ha hb]
      have := hL a b
      rw [if_neg e] at this
      simp [this]
  · rw [Array.getElem?_setIfInBounds_ne (by omega)]; exact h5 a ha

theorem RefIn.setD (h : RefIn w g n L D) {x : Nat} (hx : x < n) (v : Bool) : RefIn (w.setCell ⟨g, 1601 + x, none⟩ (.bool v)) g n L (D.set x v) := by
  obtain ⟨C, h1, h2, h3, h4, h5⟩ := h.blk
  have hle := h.le
  refine ⟨⟨C.setIfInBounds (1601 + x) (.bool v), by simp [World.setCell, Array.getElem?_modify, h1], by simpa using h2, ?_, fun a b ha hb => ?_, fun a ha => ?_⟩, h.le, h.pos, h.lt, by simpa using h.len⟩
  · rw [Array.getElem?_setIfInBounds_ne (by omega)]; exact h3
  · have hmul : a * 40 ≤ 39 * 40 := Nat.mul_le_mul_right _ (by omega)
    rw [Array.getElem?_setIfInBounds_ne (by omega)]; exact h4 a b ha hb
  · by_cases e : a = x
    · subst e
      rw [Array.getElem?_setIfInBounds_self_of_lt (by rw [h2]; omega)]
      simp [List.getD, List.getElem?_set, h.len, hx]
    · rw [Array.getElem?_setIfInBounds_ne (by omega), h5 a ha]
      simp [List.getD, List.getElem?_set, show ¬ x = a from fun h => e h.symm]
end

theorem grew_set {w : World} {g o : Nat} {v : Value} : Grew w (w.setCell ⟨g, o, none⟩ v) (fun k => k = g) := ⟨rfl, rfl, rfl, by simp [World.setCell], fun k hk _ => Below.heap_setCell _ _ _ _ hk⟩

section
variable (w : World) (g n : Nat) (L : List (Nat × Nat)) (D : List Bool)
theorem refAdd_no (h : RefIn w g n L D) (a b : Int) (hn : isNode n a = false ∨ isNode n b = false) :
    Calls Try.prog 44 #[.pointer (some ⟨g, 0, none⟩), .int .i64 a, .int .i64 b] w fun e w' => e = .returned (.int .i64 2) ∧ w' = w := by
  have c0 := h.c0
  clear h
  go_enter Try.func44, Try.ntmps44
  go_wp2_with fail
  refine (refIs_any w g n c0 a).mono ?_
  rintro e w' ⟨rfl, h9⟩
  replace h9 := h9.symm
  subst h9
  go_wp2_with fail
  refine (refIs_any w g n c0 b).mono ?_
  rintro e w' ⟨rfl, h9⟩
  replace h9 := h9.symm
  subst h9
  generalize isNode n a = r1 at hn
  generalize isNode n b = r2 at hn
  cases r1 <;> cases r2
  case true.true => simp at hn
  all_goals
    clear hn
    go_wp2_with fail
    go_ret
    exact ⟨rfl, rfl⟩

theorem refAdd_twice (h : RefIn w g n L D) (a b : Nat) (ha : a < n) (hb : b < n) (hm : (a, b) ∈ L) :
    Calls Try.prog 44 #[.pointer (some ⟨g, 0, none⟩), .int .i64 a, .int .i64 b] w fun e w' => e = .returned (.int .i64 3) ∧ w' = w := by
  have c0 := h.c0
  have hle := h.le
  have cE := (h.cE (x := a) (y := b) (by omega) (by omega)).1
  rw [show decide ((a, b) ∈ L) = true from by simp [hm]] at cE
  clear h hm
  go_enter Try.func44, Try.ntmps44
  go_wp2_with fail
  refine (refIs_any w g n c0 a).mono ?_
  rintro e w' ⟨rfl, h9⟩
  replace h9 := h9.symm
  subst h9
  go_wp2_with fail
  refine (refIs_any w g n c0 b).mono ?_
  rintro e w' ⟨rfl, h9⟩
  replace h9 := h9.symm
  subst h9
  rw [isNode_nat ha, isNode_nat hb]
  go_wp2_with fail
  go_ret
  exact ⟨rfl, rfl⟩

theorem refAdd_ok (h : RefIn w g n L D) (a b : Nat) (ha : a < n) (hb : b < n) (hm : (a, b) ∉ L) :
    Calls Try.prog 44 #[.pointer (some ⟨g, 0, none⟩), .int .i64 a, .int .i64 b] w fun e w' => e = .returned (.int .i64 0) ∧ RefIn w' g n (L ++ [(a, b)]) D ∧ Grew w w' (fun k => k = g) := by
  have c0 := h.c0
  have hle := h.le
  obtain ⟨cE, fE⟩ := h.cE (x := a) (y := b) (by omega) (by omega)
  rw [show decide ((a, b) ∈ L) = false from by simp [hm]] at cE
  have HFIN : Hid (RefIn (w.setCell ⟨g, 1 + a * 40 + b, none⟩ (.bool true)) g n (L ++ [(a, b)]) D) := h.setE ha hb true (fun z hz => by
    rcases List.mem_append.1 hz with hz | hz
    · exact h.lt z hz
    · rw [List.mem_singleton.1 hz]; exact ⟨ha, hb⟩) (fun x y => by
    by_cases e : (x, y) = (a, b)
    · rw [if_pos e, e]; simp
    · rw [if_neg e]; simp only [List.mem_append, List.mem_singleton]; exact ⟨fun h => h.resolve_right e, .inl⟩)
  clear h hm
  go_enter Try.func44, Try.ntmps44
  go_wp2_with fail
  refine (refIs_any w g n c0 a).mono ?_
  rintro e w' ⟨rfl, h9⟩
  replace h9 := h9.symm
  subst h9
  go_wp2_with fail
  refine (refIs_any w g n c0 b).mono ?_
  rintro e w' ⟨rfl, h9⟩
  replace h9 := h9.symm
  subst h9
  rw [isNode_nat ha, isNode_nat hb]
  go_wp2_with fail
  go_ret
  exact ⟨rfl, HFIN.out, grew_set⟩
theorem refCut_no (h : RefIn w g n L D) (a b : Int) (hn : isNode n a = false ∨ isNode n b = false) :
    Calls Try.prog 45 #[.pointer (some ⟨g, 0, none⟩), .int .i64 a, .int .i64 b] w fun e w' => e = .returned (.int .i64 2) ∧ w' = w := by
  have c0 := h.c0
  clear h
  go_enter Try.func45, Try.ntmps45
  go_wp2_with fail
  refine (refIs_any w g n c0 a).mono ?_
  rintro e w' ⟨rfl, h9⟩
  replace h9 := h9.symm
  subst h9
  go_wp2_with fail
  refine (refIs_any w g n c0 b).mono ?_
  rintro e w' ⟨rfl, h9⟩
  replace h9 := h9.symm
  subst h9
  generalize isNode n a = r1 at hn
  generalize isNode n b = r2 at hn
  cases r1 <;> cases r2
  case true.true => simp at hn
  all_goals
    clear hn
    go_wp2_with fail
    go_ret
    exact ⟨rfl, rfl⟩

theorem refCut_none (h : RefIn w g n L D) (a b : Nat) (ha : a < n) (hb : b < n) (hm : (a, b) ∉ L) :
    Calls Try.prog 45 #[.pointer (some ⟨g, 0, none⟩), .int .i64 a, .int .i64 b] w fun e w' => e = .returned (.int .i64 4) ∧ w' = w := by
  have c0 := h.c0
  have hle := h.le
  have cE := (h.cE (x := a) (y := b) (by omega) (by omega)).1
  rw [show decide ((a, b) ∈ L) = false from by simp [hm]] at cE
  clear h hm
  go_enter Try.func45, Try.ntmps45
  go_wp2_with fail
  refine (refIs_any w g n c0 a).mono ?_
  rintro e w' ⟨rfl, h9⟩
  replace h9 := h9.symm
  subst h9
  go_wp2_with fail
  refine (refIs_any w g n c0 b).mono ?_
  rintro e w' ⟨rfl, h9⟩
  replace h9 := h9.symm
  subst h9
  rw [isNode_nat ha, isNode_nat hb]
  go_wp2_with fail
  go_ret
  exact ⟨rfl, rfl⟩

theorem refCut_ok (h : RefIn w g n L D) (a b : Nat) (ha : a < n) (hb : b < n) (hm : (a, b) ∈ L) (L' : List (Nat × Nat)) (hL' : ∀ z, z ∈ L' ↔ z ∈ L ∧ z ≠ (a, b)) :
    Calls Try.prog 45 #[.pointer (some ⟨g, 0, none⟩), .int .i64 a, .int .i64 b] w fun e w' => e = .returned (.int .i64 0) ∧ RefIn w' g n L' D ∧ Grew w w' (fun k => k = g) := by
  have c0 := h.c0
  have hle := h.le
  obtain ⟨cE, fE⟩ := h.cE (x := a) (y := b) (by omega) (by omega)
  rw [show decide ((a, b) ∈ L) = true from by simp [hm]] at cE
  have HFIN : Hid (RefIn (w.setCell ⟨g, 1 + a * 40 + b, none⟩ (.bool false)) g n L' D) := h.setE ha hb false (fun z hz => h.lt z ((hL' z).1 hz).1) (fun x y => by
    rw [hL' (x, y)]
    by_cases e : (x, y) = (a, b)
    · rw [if_pos e]; simp [e]
    · rw [if_neg e]; exact ⟨fun h => h.1, fun h => ⟨h, e⟩⟩)
  clear hL'
  clear h hm
  go_enter Try.func45, Try.ntmps45
  go_wp2_with fail
  refine (refIs_any w g n c0 a).mono ?_
  rintro e w' ⟨rfl, h9⟩
  replace h9 := h9.symm
  subst h9
  go_wp2_with fail
  refine (refIs_any w g n c0 b).mono ?_
  rintro e w' ⟨rfl, h9⟩
  replace h9 := h9.symm
  subst h9
  rw [isNode_nat ha, isNode_nat hb]
  go_wp2_with fail
  go_ret
  exact ⟨rfl, HFIN.out, grew_set⟩

theorem refEnd_no (h : RefIn w g n L D) (a : Int) (y : Bool) (hn : isNode n a = false) :
    Calls Try.prog 46 #[.pointer (some ⟨g, 0, none⟩), .int .i64 a, .bool y] w fun e w' => e = .returned (.int .i64 2) ∧ w' = w := by
  have c0 := h.c0
  clear h
  go_enter Try.func46, Try.ntmps46
  go_wp2_with fail
  refine (refIs_any w g n c0 a).mono ?_
  rintro e w' ⟨rfl, h9⟩
  replace h9 := h9.symm
  subst h9
  rw [hn]
  go_wp2_with fail
  go_ret
  exact ⟨rfl, rfl⟩

theorem refEnd_ok (h : RefIn w g n L D) (a : Nat) (y : Bool) (ha : a < n) :
    Calls Try.prog 46 #[.pointer (some ⟨g, 0, none⟩), .int .i64 a, .bool y] w fun e w' => e = .returned (.int .i64 0) ∧ RefIn w' g n L (D.set a y) ∧ Grew w w' (fun k => k = g) := by
  have c0 := h.c0
  have hle := h.le
  obtain ⟨cD, fD⟩ := h.cD (a := a) (by omega)
  have HFIN : Hid (RefIn (w.setCell ⟨g, 1601 + a, none⟩ (.bool y)) g n L (D.set a y)) := h.setD ha y
  clear h
  go_enter Try.func46, Try.ntmps46
  go_wp2_with fail
  refine (refIs_any w g n c0 a).mono ?_
  rintro e w' ⟨rfl, h9⟩
  replace h9 := h9.symm
  subst h9
  rw [isNode_nat ha]
  go_wp2_with fail
  go_ret
  exact ⟨rfl, HFIN.out, grew_set⟩

def nodesOf (zs : List Int) : List Nat := zs.map Int.toNat

set_option maxRecDepth 100000 in
set_option maxHeartbeats 4000000 in
theorem refMeets_any (h : RefIn w g n L D) (v : Value) (zs : List Int) (hv : RdS w 1 v zs.length (zs.map (Value.int .i64))) (hzl : zs.length ≤ 1152921504606846976) :
    Calls Try.prog 73 #[.pointer (some ⟨g, 0, none⟩), v] w fun e w' => ((zs.all (isNode n) = false ∧ e = .returned (.tuple #[.slice none 0 0, .int .i64 2])) ∨ (zs.all (isNode n) = true ∧ ∃ (v' : Value) (S : List Bool), e = .returned (.tuple #[v', .int .i64 0]) ∧ OwnS w' w.heap.size 3 1 v' (idxTo S 40).length (nums (idxTo S 40)) ∧ ∀ y, S.getD y false = true ↔ Met L (nodesOf zs) y)) ∧ Below w.heap.size w w' := by
  have HR : Hid (RefIn w g n L D) := h
  have hle := h.le
  obtain ⟨hl, ao, cp, rfl, hr⟩ := hv
  obtain ⟨N, hN⟩ : ∃ N, N = zs.length := ⟨_, rfl⟩
  have HN : Hid (N = zs.length) := hN
  rw [← hN] at hzl hr ⊢
  clear h hl hN
  go_enter Try.func73, Try.ntmps73
  go_wp2_with (first | (refine wpList_alloc_arr rfl rfl ?_; intro w1 hA1 hB1 hS1))
  have HA1 : Hid (ArrIn w1 w.heap.size (List.replicate 40 false)) := hA1
  have HB1 : Hid (Below w.heap.size w w1) := hB1
  clear hA1 hB1 hS1
  go_loopg [7] N (fun gk s7 wr => ∃ (k : Nat) (FB : List Bool), k + gk = N ∧ s7 = .int .i64 k ∧ Hid (ArrIn wr w.heap.size FB) ∧ Hid (Below w.heap.size w wr) ∧ Hid (∀ a, FB.getD a false = true ↔ a ∈ nodesOf (zs.take k)) ∧ Hid ((zs.take k).all (isNode n) = true))
  case atStart => exact ⟨0, _, by omega, rfl, HA1.out, HB1.out, fun a => by rw [getD_falses]; simp [nodesOf], by simp [Hid]⟩
  case round =>
    clear HA1 HB1
    obtain ⟨k, FB, hkg, rfl, hA, hbel, hfb, hall⟩ := hrel
    have HRR : Hid (RefIn wr g n L D) := HR.out.below hbel.out
    have c0 := HRR.out.c0
    by_cases hlt : k < N
    · rcases hr with hr | ⟨gF, offF, rfl, hr⟩
      · omega
      have hlt' : k < zs.length := HN.out ▸ hlt
      have d0 := hr k (.int .i64 zs[k]) (by simp [hlt'])
      have c1 : wr.cell? ⟨gF, offF + k, none⟩ = some (.int .i64 zs[k]) := by rw [hbel.out.cell (World.block_lt_of_cell? w _ d0)]; exact d0
      have HT : Hid (zs.take (k + 1) = zs.take k ++ [zs[k]]) := by show _ = _; rw [List.take_add_one, List.getElem?_eq_getElem hlt']; rfl
      have HM : Hid (zs[k] ∈ zs) := List.getElem_mem hlt'
      generalize zs[k] = z at c1 HT HM
      clear hr d0 hlt'
      go_wp2_with fail
      refine (refIs_any wr g n c0 z).mono ?_
      rintro e w' ⟨rfl, h9⟩
      replace h9 := h9.symm
      subst h9
      cases hz : isNode n z
      · have hfin : Hid (zs.all (isNode n) = false) := by
          show _ = _
          rw [List.all_eq_false]
          exact ⟨z, HM.out, by rw [hz]; simp⟩
        clear hz
        go_wp2_with fail
        try rw [Exit.noGoto_ret]
        go_ret2
        first | exact ⟨.inl ⟨hfin.out, rfl⟩, hbel.out⟩ | simpa [hfin.out] using hbel.out
      · obtain ⟨z0, z1⟩ := isNode_iff.1 hz
        obtain ⟨a, rfl⟩ : ∃ a : Nat, z = (a : Int) := ⟨z.toNat, by omega⟩
        have han : a < n := by omega
        obtain ⟨cF, fF⟩ := hA.out.cell (k := a) (by omega)
        have hFl := hA.out.len
        have HA2 : Hid (ArrIn (wr.setCell ⟨w.heap.size, a, none⟩ (.bool true)) w.heap.size (FB.set a true)) := hA.out.set a true
        have HB2 : Hid (Below w.heap.size w (wr.setCell ⟨w.heap.size, a, none⟩ (.bool true))) := hbel.out.setCell (by simp) _
        have HF2 : Hid (∀ b, (FB.set a true).getD b false = true ↔ b ∈ nodesOf (zs.take (k + 1))) := by
          intro b
          rw [getD_set (by omega), Bool.or_eq_true, decide_eq_true_eq, hfb.out b, HT.out]
          simp [nodesOf]
        have HALL2 : Hid ((zs.take (k + 1)).all (isNode n) = true) := by
          show _ = _
          rw [HT.out, List.all_append, hall.out]
          simp [hz]
        generalize FB.getD a false = rF at cF
        clear hz z0 z1 hFl hA hbel hfb hall
        go_wp2_with fail
        go_roundg (N - (k + 1))
        case measure => omega
        case rel => exact ⟨k + 1, FB.set a true, by omega, by go_num, HA2, HB2, HF2, HALL2⟩
    · have hall2 : Hid (zs.all (isNode n) = true) := by
        have := hall.out
        rw [List.take_of_length_le (by have := HN.out; omega)] at this
        exact this
      have hfb2 : Hid (∀ a, FB.getD a false = true ↔ a ∈ nodesOf zs) := by
        have := hfb.out
        rw [List.take_of_length_le (by have := HN.out; omega)] at this
        exact this
      have hFl := hA.out.len
      have hA' := hA.out
      clear hall hfb hr
      go_wp2_with (first | (refine wpList_load_arr rfl _ rfl _ rfl _ hA' ?_))
      refine (refMeets_in wr g n L D HRR.out FB hFl (nodesOf zs) hfb2.out).mono ?_
      rintro e w2 ⟨S, rfl, hSl, hS, hB2⟩
      have HS : Hid (∀ y, S.getD y false = true ↔ Met L (nodesOf zs) y) := hS
      have HB2 : Hid (Below w.heap.size w w2) := hbel.out.trans (hB2.mono hbel.out.size)
      clear hS hB2 hA' c0
      go_wp2_with (first
        | (have hq := hA6; refine wpList_load_arr rfl _ rfl _ rfl _ hA6 ?_)
        | (refine wpList_keep_arr rfl rfl rfl _ _ rfl S hSl rfl rfl ?_; intro w6 hA6 hB6 hS6; have HB6 : Hid (Below w.heap.size w w6) := HB2.out.trans (hB6.mono HB2.out.size)))
      refine (refListed_any w6 S hSl).mono ?_
      rintro e w7 ⟨v, rfl, hown, hB7⟩
      have hs6 := HB6.out.size
      have HFIN : Hid (((zs.all (isNode n) = false ∧ Ending.returned (.tuple #[v, .int .i64 0]) = .returned (.tuple #[.slice none 0 0, .int .i64 2])) ∨ (zs.all (isNode n) = true ∧ ∃ (v' : Value) (S : List Bool), Ending.returned (.tuple #[v, .int .i64 0]) = .returned (.tuple #[v', .int .i64 0]) ∧ OwnS w7 w.heap.size 3 1 v' (idxTo S 40).length (nums (idxTo S 40)) ∧ ∀ y, S.getD y false = true ↔ Met L (nodesOf zs) y)) ∧ Below w.heap.size w w7) :=
        ⟨.inr ⟨hall2.out, v, S, rfl, hown.mono hs6, HS.out⟩, HB6.out.trans (hB7.mono hs6)⟩
      clear hown hB7 hA6 hB6 hS6
      go_wp2_with fail
      go_ret2
      exact HFIN.out
end

end Go.Proofs.Ytbddcodljmglfaa
