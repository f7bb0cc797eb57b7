/- Arrays of 40 bools in memory, made, read and written whole; the document's own graph in memory. -/
import Derived.Test.YtbddcodljmglfaaReached
import Derived.Test.YtbddcodljmglfaaRefMath
import Derived.Deep.MidRow
set_option linter.unusedSimpArgs false
set_option linter.unusedVariables false
namespace Go.Proofs.Ytbddcodljmglfaa
open Go.RowKit

theorem info40 : (Try.prog.info? 58).map (·.size) = some 40 := by kernel_rfl
theorem zero40 : (Try.prog.info? 58).bind (·.zero) = some (.agg (bits (List.replicate 40 false)).toArray) := by kernel_rfl

/-- Block b is an array of 40 bools. -/
structure ArrIn (w : World) (b : Nat) (S : List Bool) : Prop where
  len : S.length = 40
  blk : w.heap[b]? = some (.cells (bits S).toArray 58 (0, 0))

theorem ArrIn.of_block {w w' : World} {b : Nat} {S : List Bool} (h : ArrIn w b S) (hb : w'.heap[b]? = w.heap[b]?) : ArrIn w' b S := ⟨h.len, hb.trans h.blk⟩
theorem ArrIn.below {w w' : World} {b : Nat} {S : List Bool} (h : ArrIn w b S) (hb : Below w.heap.size w w') : ArrIn w' b S := h.of_block (hb.block _ (blk_lt h.blk))
theorem ArrIn.cell {w : World} {b : Nat} {S : List Bool} (h : ArrIn w b S) {k : Nat} (hk : k < 40) : w.cell? ⟨b, k, none⟩ = some (.bool (S.getD k false)) ∧ w.frozen? ⟨b, k, none⟩ = false := by
  have hl : k < S.length := by rw [h.len]; exact hk
  constructor
  · simp [World.cell?, h.blk, bits, hl]
  · simp [World.frozen?, h.blk]
theorem ArrIn.range {w : World} {b : Nat} {S : List Bool} (h : ArrIn w b S) : w.rangeAt b 0 (bits S) := by
  intro j v hv
  simp [World.cell?, h.blk, hv]
theorem bits_length (S : List Bool) : (bits S).length = S.length := by simp [bits]

/-- The walk's own cell store. -/
theorem ArrIn.set {w : World} {b : Nat} {S : List Bool} (h : ArrIn w b S) (k : Nat) (y : Bool) : ArrIn (w.setCell ⟨b, k, none⟩ (.bool y)) b (S.set k y) := by
  refine ⟨by simpa using h.len, ?_⟩
  simp [World.setCell, Array.getElem?_modify, h.blk, bits, List.map_set]

theorem run_alloc_arr (w : World) : (Instr.alloc 58 true (.tuple #[])).run Try.prog w = .ok (.pointer (some ⟨w.heap.size, 0, none⟩)) (w.alloc (.cells (bits (List.replicate 40 false)).toArray 58)) := by
  obtain ⟨i, hi, hz⟩ : ∃ i, Try.prog.info? 58 = some i ∧ i.zero = some (.agg (bits (List.replicate 40 false)).toArray) := by
    have := zero40
    cases h : Try.prog.info? 58 with
    | none => rw [h] at this; simp at this
    | some i => rw [h] at this; exact ⟨i, rfl, this⟩
  generalize (bits (List.replicate 40 false)).toArray = Z at hz ⊢
  simp [Instr.alloc, zeroValue, typeInfo, hi, hz, newVar, newRow, Value.cells, Sem.run_bind]

theorem wpList_alloc_arr {ops : Array Oper} {rest : List Oper} {op : Oper} {a : Act} {w : World} {Q : Exit → Act → World → Prop} (hgd : op.guard = none) (ho : op.op = .alloc 58)
    (h : ∀ w', ArrIn w' w.heap.size (List.replicate 40 false) → Below w.heap.size w w' → w'.heap.size = w.heap.size + 1 → wpList Try.prog ops Q rest (a.put op.dst (.pointer (some ⟨w.heap.size, 0, none⟩))) w') : wpList Try.prog ops Q (op :: rest) a w := by
  refine wpList_plain hgd fun _ hK => ?_
  unfold Oper.wp execOp
  simp only [ho, Sem.run_bind, Sem.run_pure, Result.andThen_ok, run_alloc_arr]
  exact hK _ _ (h _ ⟨by simp, heap_alloc_new w _⟩ ((Below.refl _ _).alloc (Nat.le_refl _) _) (by simp))

theorem wpList_load_arr {ops : Array Oper} {rest : List Oper} {op : Oper} {a : Act} {w : World} {Q : Exit → Act → World → Prop} (hgd : op.guard = none) (x : Operand) (ho : op.op = .load 58 x)
    (b : Nat) (hx : a.eval x = .pointer (some ⟨b, 0, none⟩)) (S : List Bool) (hS : ArrIn w b S)
    (h : wpList Try.prog ops Q rest (a.put op.dst (.agg (bits S).toArray)) w) : wpList Try.prog ops Q (op :: rest) a w :=
  wpList_load_mid hgd 58 x ho b 0 hx (bits S) _ hS.range Try.underlying58 rfl (by rw [info40, bits_length, hS.len]) h

theorem one_bits (S : List Bool) : (bits S).toArray.all (·.oneCell') = true := by
  refine all_oneCell_toArray fun v hv => ?_
  simp only [bits, List.mem_map] at hv
  obtain ⟨_, _, rfl⟩ := hv
  rfl

theorem shape_setCells {b : Nat} {t : TypeId} : ∀ (vs : List Value) (o : Nat) (w : World) (C : Array Value), w.heap[b]? = some (.cells C t (0, 0)) → ∃ C', (w.setCells b o vs).heap[b]? = some (.cells C' t (0, 0)) ∧ C'.size = C.size
  | [], o, w, C, h => ⟨C, h, rfl⟩
  | v :: r, o, w, C, h => by
    have h1 : (w.setCell ⟨b, o, none⟩ v).heap[b]? = some (.cells (C.setIfInBounds o v) t (0, 0)) := by
      simp [World.setCell, Array.getElem?_modify, h]
    obtain ⟨C', h2, h3⟩ := shape_setCells r (o + 1) _ _ h1
    exact ⟨C', h2, by rw [h3]; simp⟩
theorem other_setCells {b : Nat} : ∀ (vs : List Value) (o : Nat) (w : World), (∀ k, k ≠ b → (w.setCells b o vs).heap[k]? = w.heap[k]?) ∧ (w.setCells b o vs).heap.size = w.heap.size ∧ (w.setCells b o vs).os = w.os ∧ (w.setCells b o vs).tape = w.tape ∧ (w.setCells b o vs).output = w.output
  | [], o, w => ⟨fun _ _ => rfl, rfl, rfl, rfl, rfl⟩
  | v :: r, o, w => by
    obtain ⟨h1, h2, h3, h4, h5⟩ := other_setCells (b := b) r (o + 1) (w.setCell ⟨b, o, none⟩ v)
    refine ⟨fun k hk => (h1 k hk).trans (Below.heap_setCell _ _ _ _ hk), ?_, h3, h4, h5⟩
    rw [World.setCells, h2]
    simp [World.setCell]

theorem wpList_store_arr {ops : Array Oper} {rest : List Oper} {op : Oper} {a : Act} {w : World} {Q : Exit → Act → World → Prop} (hgd : op.guard = none) (x y : Operand) (ho : op.op = .store 58 x y)
    (b : Nat) (hx : a.eval x = .pointer (some ⟨b, 0, none⟩)) (S0 S : List Bool) (hy : a.eval y = .agg (bits S).toArray) (h0 : ArrIn w b S0) (hl : S.length = 40)
    (h : ∀ w', ArrIn w' b S → Grew w w' (fun k => k = b) → w'.heap.size = w.heap.size → wpList Try.prog ops Q rest (a.put op.dst undef) w') : wpList Try.prog ops Q (op :: rest) a w := by
  have hth : w.there b 0 (bits S).toArray.size := by
    intro j hj
    have hj' : j < 40 := by simpa [bits, hl] using hj
    obtain ⟨h1, h2⟩ := h0.cell hj'
    rw [Nat.zero_add, h1]
    exact ⟨rfl, h2⟩
  obtain ⟨o1, o2, o3, o4, o5⟩ := other_setCells (b := b) (bits S) 0 w
  refine wpList_store_mid hgd 58 x y ho b 0 (bits S).toArray hx hy hth (by rw [info40]; simp [bits, hl]) (one_bits S) (h _ ⟨hl, ?_⟩ ⟨o3, o4, o5, by simp [o2], fun k hk _ => by simpa using o1 k hk⟩ (by simpa using o2))
  obtain ⟨C', h2, h3⟩ := shape_setCells (bits S) 0 w _ h0.blk
  have hsz : C'.size = 40 := by rw [h3]; simp [bits, h0.len]
  simp only [List.toList_toArray]
  rw [h2]
  congr 1
  congr 1
  apply Array.ext
  · rw [hsz]; simp [bits, hl]
  · intro j hj1 hj2
    have hj : j < (bits S).length := by simpa using hj2
    have := World.cell?_setCells_in b (bits S) 0 w (fun i hi => by simpa using (hth i (by simpa using hi)).1) j hj
    simp only [Nat.zero_add, World.cell?, h2] at this
    simpa [hj1] using this

/-- An array that is handed in. -/
theorem wpList_box_arr {ops : Array Oper} {rest : List Oper} {op : Oper} {a : Act} {w : World} {Q : Exit → Act → World → Prop} (hgd : op.guard = none) (x : Operand) (ho : op.op = .box 58 x) (S : List Bool) (hl : S.length = 40) (hx : a.eval x = .agg (bits S).toArray)
    (h : ∀ w', ArrIn w' w.heap.size S → Below w.heap.size w w' → w'.heap.size = w.heap.size + 1 → wpList Try.prog ops Q rest (a.put op.dst (.pointer (some ⟨w.heap.size, 0, none⟩))) w') : wpList Try.prog ops Q (op :: rest) a w := by
  refine wpList_plain hgd fun _ hK => ?_
  have hrun : (Instr.box 58 (.agg (bits S).toArray)).run Try.prog w = .ok (.pointer (some ⟨w.heap.size, 0, none⟩)) (w.alloc (.cells (bits S).toArray 58)) := by
    simp [Instr.box, newVar, newRow, Value.cells, Sem.run_bind]
  unfold Oper.wp execOp
  simp only [ho, hx, Sem.run_bind, Sem.run_pure, Result.andThen_ok, hrun]
  exact hK _ _ (h _ ⟨hl, heap_alloc_new w _⟩ ((Below.refl _ _).alloc (Nat.le_refl _) _) (by simp))

/-- A new array, with what a call gave. -/
theorem wpList_keep_arr {ops : Array Oper} {rest : List Oper} {op1 op2 : Oper} {a : Act} {w : World} {Q : Exit → Act → World → Prop} (hg1 : op1.guard = none) (ho1 : op1.op = .alloc 58) (hg2 : op2.guard = none) (x y : Operand) (ho2 : op2.op = .store 58 x y) (S : List Bool) (hl : S.length = 40)
    (hx : (a.put op1.dst (.pointer (some ⟨w.heap.size, 0, none⟩))).eval x = .pointer (some ⟨w.heap.size, 0, none⟩)) (hy : (a.put op1.dst (.pointer (some ⟨w.heap.size, 0, none⟩))).eval y = .agg (bits S).toArray)
    (h : ∀ w', ArrIn w' w.heap.size S → Below w.heap.size w w' → w'.heap.size = w.heap.size + 1 → wpList Try.prog ops Q rest ((a.put op1.dst (.pointer (some ⟨w.heap.size, 0, none⟩))).put op2.dst undef) w') : wpList Try.prog ops Q (op1 :: op2 :: rest) a w := by
  refine wpList_alloc_arr hg1 ho1 fun w1 hA1 hB1 hS1 => ?_
  refine wpList_store_arr hg2 x y ho2 _ hx _ S hy hA1 hl fun w2 hA2 hG2 hS2 => ?_
  exact h w2 hA2 (hB1.trans (hG2.below (by omega) (fun k hk => by omega))) (by omega)

/-- A result that is an array. -/
theorem results_arr {fn : Func} {tmps : Array Value} {t b : Nat} {S : List Bool} {w : World} (hr : fn.results = #[.cell t 58]) (ht : tmps.getD t undef = .pointer (some ⟨b, 0, none⟩)) (hA : ArrIn w b S) : (results fn tmps).run Try.prog w = .ok (.agg (bits S).toArray) w := by
  have hl := run_loadVar_mid (P := Try.prog) w b 0 58 (bits S) _ hA.range Try.underlying58 rfl (by rw [info40, bits_length, hA.len])
  have ht' : tmps[t]?.getD undef = .pointer (some ⟨b, 0, none⟩) := by simpa using ht
  simp [results, hr, ht', asAddr, Sem.run_bind, hl]

/-- The document's own graph: its number of nodes, its edges row by row, its ends. -/
structure RefIn (w : World) (g n : Nat) (L : List (Nat × Nat)) (D : List Bool) : Prop where
  blk : ∃ C : Array Value, w.heap[g]? = some (.cells C 61 (0, 0)) ∧ C.size = 1641 ∧ C[0]? = some (.int .i64 n) ∧ (∀ x y, x < 40 → y < 40 → C[1 + x * 40 + y]? = some (.bool (decide ((x, y) ∈ L)))) ∧ (∀ a, a < 40 → C[1601 + a]? = some (.bool (D.getD a false)))
  le : n ≤ 40
  pos : 1 ≤ n
  lt : ∀ x ∈ L, x.1 < n ∧ x.2 < n
  len : D.length = n

section
variable {w w' : World} {g n : Nat} {L : List (Nat × Nat)} {D : List Bool}
theorem RefIn.gLt (h : RefIn w g n L D) : g < w.heap.size := by
  obtain ⟨C, h1, _⟩ := h.blk
  exact blk_lt h1
theorem RefIn.of_block (h : RefIn w g n L D) (hb : w'.heap[g]? = w.heap[g]?) : RefIn w' g n L D := by
  obtain ⟨C, h1, h2⟩ := h.blk
  exact ⟨⟨C, hb.trans h1, h2⟩, h.le, h.pos, h.lt, h.len⟩
theorem RefIn.below (h : RefIn w g n L D) (hb : Below w.heap.size w w') : RefIn w' g n L D := h.of_block (hb.block _ h.gLt)
theorem RefIn.c0 (h : RefIn w g n L D) : w.cell? ⟨g, 0, none⟩ = some (.int .i64 n) := by
  obtain ⟨C, h1, _, h2, _⟩ := h.blk
  simp [World.cell?, h1, h2]
theorem RefIn.cE (h : RefIn w g n L D) {x y : Nat} (hx : x < 40) (hy : y < 40) : w.cell? ⟨g, 1 + x * 40 + y, none⟩ = some (.bool (decide ((x, y) ∈ L))) ∧ w.frozen? ⟨g, 1 + x * 40 + y, none⟩ = false := by
  obtain ⟨C, h1, _, _, h2, _⟩ := h.blk
  constructor
  · simp [World.cell?, h1, h2 x y hx hy]
  · simp [World.frozen?, h1]
theorem RefIn.cD (h : RefIn w g n L D) {a : Nat} (ha : a < 40) : w.cell? ⟨g, 1601 + a, none⟩ = some (.bool (D.getD a false)) ∧ w.frozen? ⟨g, 1601 + a, none⟩ = false := by
  obtain ⟨C, h1, _, _, _, h2⟩ := h.blk
  constructor
  · simp [World.cell?, h1, h2 a ha]
  · simp [World.frozen?, h1]
end

end Go.Proofs.Ytbddcodljmglfaa
