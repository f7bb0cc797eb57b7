/- The document's own search: what waits is taken from the end. Plain mathematics. And what follows on it. -/
import Derived.Test.YtbddcodljmglfaaGreatDoorGraphB
import Derived.Test.YtbddcodljmglfaaGreatDoorBox
import Derived.Deep.MidRow
set_option linter.unusedVariables false
set_option linter.unusedSimpArgs false
namespace Go.Proofs.YtbddcodljmglfaaGreatDoor

def outTo (L : List (Nat × Nat)) (u k : Nat) : List Nat := (List.range k).filter fun y => decide ((u, y) ∈ L)

theorem outTo_succ (L : List (Nat × Nat)) (u k : Nat) : outTo L u (k + 1) = outTo L u k ++ (if (u, k) ∈ L then [k] else []) := by
  unfold outTo
  rw [List.range_succ, List.filter_append]
  by_cases h : (u, k) ∈ L
  · simp [h]
  · simp [h]

def visTo (L : List (Nat × Nat)) (x : Int) (u k : Nat) (s : List Bool × List Nat) : List Bool × List Nat := vis x (outTo L u k) s

theorem visTo_zero (L : List (Nat × Nat)) (x : Int) (u : Nat) (s : List Bool × List Nat) : visTo L x u 0 s = s := rfl

theorem visTo_yes {L : List (Nat × Nat)} {x : Int} {u k : Nat} {s : List Bool × List Nat} (h : (u, k) ∈ L) : visTo L x u (k + 1) s = vis1 x (visTo L x u k s) k := by
  unfold visTo
  rw [outTo_succ, if_pos h]
  unfold vis
  rw [List.foldl_append]
  rfl

theorem visTo_no {L : List (Nat × Nat)} {x : Int} {u k : Nat} {s : List Bool × List Nat} (h : (u, k) ∉ L) : visTo L x u (k + 1) s = visTo L x u k s := by
  unfold visTo
  rw [outTo_succ, if_neg h, List.append_nil]

theorem mem_outTo {L : List (Nat × Nat)} {u k y : Nat} : y ∈ outTo L u k ↔ y < k ∧ (u, y) ∈ L := by
  simp [outTo]

/-- What holds all along. -/
structure Dfs (n : Nat) (L : List (Nat × Nat)) (a : Nat) (x : Int) (s : List Bool × List Nat) : Prop where
  len : s.1.length = 40
  sound : ∀ b, s.1.getD b false = true → RAr (· = a) (fun u v => (u, v) ∈ L) x b
  begun : s.1.getD a false = true
  shut : ∀ u, s.1.getD u false = true → u ∉ s.2 → ∀ v, (u, v) ∈ L → (v : Int) ≠ x → s.1.getD v false = true
  waits : ∀ u ∈ s.2, s.1.getD u false = true
  room : unseen s.1 + s.2.length ≤ 40
  lt : ∀ u ∈ s.2, u < n

theorem getD_falses (b : Nat) : (List.replicate 40 false).getD b false = false := by
  simp only [List.getD, List.getElem?_replicate]
  split <;> simp

theorem dfs_start {n : Nat} {L : List (Nat × Nat)} {a : Nat} {x : Int} (ha : a < n) (hn : n ≤ 40) (hx : (a : Int) ≠ x) : Dfs n L a x ((List.replicate 40 false).set a true, [a]) := by
  have hg : ∀ b, ((List.replicate 40 false).set a true).getD b false = true ↔ b = a := by
    intro b
    rw [getD_set (by simp; omega), getD_falses]
    simp
  refine ⟨by simp, fun b hb => ?_, (hg a).2 rfl, fun u hu hno => ?_, fun u hu => ?_, ?_, fun u hu => ?_⟩
  · rw [(hg b).1 hb]
    exact Reach.start ⟨rfl, hx⟩
  · rw [(hg u).1 hu] at hno
    simp at hno
  · simp at hu
    exact (hg u).2 hu
  · have := unseen_set (s := List.replicate 40 false) (a := a) (by simp; omega) (getD_falses a)
    simp [unseen] at this ⊢
    omega
  · simp at hu
    omega

theorem dfs_step {n : Nat} {L : List (Nat × Nat)} {a : Nat} {x : Int} {sn : List Bool} {l : List Nat} {u : Nat} (hL : ∀ z ∈ L, z.1 < n ∧ z.2 < n) (hn : n ≤ 40) (h : Dfs n L a x (sn, l ++ [u])) :
    Dfs n L a x (visTo L x u n (sn, l)) ∧ unseen (visTo L x u n (sn, l)).1 + (visTo L x u n (sn, l)).2.length = unseen sn + l.length := by
  obtain ⟨g1, g2, ⟨k, g3, g3'⟩, g4, g5⟩ := vis_props x 40 (outTo L u n) (sn, l) h.len (fun b hb => by have := (mem_outTo.1 hb).1; omega)
  have hu : sn.getD u false = true := h.waits u (by simp)
  have hs : ∀ b, (visTo L x u n (sn, l)).1.getD b false = true ↔ sn.getD b false = true ∨ ((u, b) ∈ L ∧ (b : Int) ≠ x) := by
    intro b
    show (vis x (outTo L u n) (sn, l)).1.getD b false = true ↔ _
    rw [g2]
    simp only [Bool.or_eq_true, Bool.and_eq_true, decide_eq_true_eq, mem_outTo]
    constructor
    · rintro (h1 | ⟨⟨_, h1⟩, h2⟩)
      · exact .inl h1
      · exact .inr ⟨h1, h2⟩
    · rintro (h1 | ⟨h1, h2⟩)
      · exact .inl h1
      · exact .inr ⟨⟨(hL _ h1).2, h1⟩, h2⟩
  refine ⟨⟨g1, fun b hb => ?_, (hs a).2 (.inl h.begun), fun b hb hno v hv hvx => ?_, fun b hb => ?_, ?_, fun b hb => ?_⟩, g4⟩
  · rcases (hs b).1 hb with h1 | ⟨h1, h2⟩
    · exact h.sound b h1
    · exact Reach.step (h.sound u hu) ⟨h1, h2⟩
  · by_cases hb' : sn.getD b false = true
    · by_cases e : b = u
      · rw [e] at hv
        exact (hs v).2 (.inr ⟨hv, hvx⟩)
      · refine (hs v).2 (.inl (h.shut b hb' (fun hm => ?_) v hv hvx))
        rcases List.mem_append.1 hm with hm | hm
        · exact hno (by show b ∈ (vis x (outTo L u n) (sn, l)).2; rw [g3]; exact List.mem_append.2 (.inl hm))
        · simp at hm
          exact e hm
    · exact absurd (g5 b hb (by simpa using hb')) hno
  · have hb' : b ∈ (vis x (outTo L u n) (sn, l)).2 := hb
    rw [g3] at hb'
    rcases List.mem_append.1 hb' with h1 | h1
    · exact (hs b).2 (.inl (h.waits b (List.mem_append.2 (.inl h1))))
    · have := g3' b h1
      exact (hs b).2 (.inr ⟨(mem_outTo.1 this.1).2, this.2⟩)
  · show unseen (vis x (outTo L u n) (sn, l)).1 + (vis x (outTo L u n) (sn, l)).2.length ≤ 40
    rw [g4]
    have := h.room
    simp only [List.length_append, List.length_cons, List.length_nil] at this
    show unseen sn + l.length ≤ 40
    omega
  · have hb' : b ∈ (vis x (outTo L u n) (sn, l)).2 := hb
    rw [g3] at hb'
    rcases List.mem_append.1 hb' with h1 | h1
    · exact h.lt b (List.mem_append.2 (.inl h1))
    · exact (mem_outTo.1 (g3' b h1).1).1

theorem dfs_end {n : Nat} {L : List (Nat × Nat)} {a : Nat} {x : Int} {sn : List Bool} (h : Dfs n L a x (sn, [])) (y : Nat) : sn.getD y false = true ↔ RAr (· = a) (fun u v => (u, v) ∈ L) x y := by
  refine ⟨h.sound y, fun hy => ?_⟩
  exact Reach.ind hy (fun b => sn.getD b false = true) (fun b hb => by rw [hb.1]; exact h.begun) (fun u v _ hu he => h.shut u hu (by simp) v he.1 he.2)

end Go.Proofs.YtbddcodljmglfaaGreatDoor

namespace Go.Proofs.YtbddcodljmglfaaGreatDoor
open Go.RowKit

theorem info40 : (Tryz.prog.info? 81).map (·.size) = some 40 := by kernel_rfl
theorem zero40 : (Tryz.prog.info? 81).bind (·.zero) = some (.agg (bits (List.replicate 40 false)).toArray) := by kernel_rfl

/-- Block b is an array of 40 bools. -/
structure ArrIn (w : World) (b : Nat) (S : List Bool) : Prop where
  len : S.length = 40
  blk : w.heap[b]? = some (.cells (bits S).toArray 81 (0, 0))

theorem ArrIn.of_block {w w' : World} {b : Nat} {S : List Bool} (h : ArrIn w b S) (hb : w'.heap[b]? = w.heap[b]?) : ArrIn w' b S := ⟨h.len, hb.trans h.blk⟩
theorem ArrIn.below {w w' : World} {b : Nat} {S : List Bool} (h : ArrIn w b S) (hb : Below w.heap.size w w') : ArrIn w' b S := h.of_block (hb.block _ (blk_lt h.blk))
theorem ArrIn.cell {w : World} {b : Nat} {S : List Bool} (h : ArrIn w b S) {k : Nat} (hk : k < 40) : w.cell? ⟨b, k, none⟩ = some (.bool (S.getD k false)) ∧ w.frozen? ⟨b, k, none⟩ = false := by
  have hl : k < S.length := by rw [h.len]; exact hk
  constructor
  · simp [World.cell?, h.blk, bits, hl]
  · simp [World.frozen?, h.blk]
theorem ArrIn.range {w : World} {b : Nat} {S : List Bool} (h : ArrIn w b S) : w.rangeAt b 0 (bits S) := by
  intro j v hv
  simp [World.cell?, h.blk, hv]
theorem bits_length (S : List Bool) : (bits S).length = S.length := by simp [bits]

/-- The walk's own cell store. -/
theorem ArrIn.set {w : World} {b : Nat} {S : List Bool} (h : ArrIn w b S) (k : Nat) (y : Bool) : ArrIn (w.setCell ⟨b, k, none⟩ (.bool y)) b (S.set k y) := by
  refine ⟨by simpa using h.len, ?_⟩
  simp [World.setCell, Array.getElem?_modify, h.blk, bits, List.map_set]

theorem run_alloc_arr (w : World) : (Instr.alloc 81 true (.tuple #[])).run Tryz.prog w = .ok (.pointer (some ⟨w.heap.size, 0, none⟩)) (w.alloc (.cells (bits (List.replicate 40 false)).toArray 81)) := by
  obtain ⟨i, hi, hz⟩ : ∃ i, Tryz.prog.info? 81 = some i ∧ i.zero = some (.agg (bits (List.replicate 40 false)).toArray) := by
    have := zero40
    cases h : Tryz.prog.info? 81 with
    | none => rw [h] at this; simp at this
    | some i => rw [h] at this; exact ⟨i, rfl, this⟩
  generalize (bits (List.replicate 40 false)).toArray = Z at hz ⊢
  simp [Instr.alloc, zeroValue, typeInfo, hi, hz, newVar, newRow, Value.cells, Sem.run_bind]

theorem wpList_alloc_arr {ops : Array Oper} {rest : List Oper} {op : Oper} {a : Act} {w : World} {Q : Exit → Act → World → Prop} (hgd : op.guard = none) (ho : op.op = .alloc 81)
    (h : ∀ w', ArrIn w' w.heap.size (List.replicate 40 false) → Below w.heap.size w w' → w'.heap.size = w.heap.size + 1 → wpList Tryz.prog ops Q rest (a.put op.dst (.pointer (some ⟨w.heap.size, 0, none⟩))) w') : wpList Tryz.prog ops Q (op :: rest) a w := by
  refine wpList_plain hgd fun _ hK => ?_
  unfold Oper.wp execOp
  simp only [ho, Sem.run_bind, Sem.run_pure, Result.andThen_ok, run_alloc_arr]
  exact hK _ _ (h _ ⟨by simp, heap_alloc_new w _⟩ ((Below.refl _ _).alloc (Nat.le_refl _) _) (by simp))

theorem wpList_load_arr {ops : Array Oper} {rest : List Oper} {op : Oper} {a : Act} {w : World} {Q : Exit → Act → World → Prop} (hgd : op.guard = none) (x : Operand) (ho : op.op = .load 81 x)
    (b : Nat) (hx : a.eval x = .pointer (some ⟨b, 0, none⟩)) (S : List Bool) (hS : ArrIn w b S)
    (h : wpList Tryz.prog ops Q rest (a.put op.dst (.agg (bits S).toArray)) w) : wpList Tryz.prog ops Q (op :: rest) a w :=
  wpList_load_mid hgd 81 x ho b 0 hx (bits S) _ hS.range Tryz.underlying81 rfl (by rw [info40, bits_length, hS.len]) h

theorem one_bits (S : List Bool) : (bits S).toArray.all (·.oneCell') = true := by
  refine all_oneCell_toArray fun v hv => ?_
  simp only [bits, List.mem_map] at hv
  obtain ⟨_, _, rfl⟩ := hv
  rfl

theorem wpList_store_arr {ops : Array Oper} {rest : List Oper} {op : Oper} {a : Act} {w : World} {Q : Exit → Act → World → Prop} (hgd : op.guard = none) (x y : Operand) (ho : op.op = .store 81 x y)
    (b : Nat) (hx : a.eval x = .pointer (some ⟨b, 0, none⟩)) (S0 S : List Bool) (hy : a.eval y = .agg (bits S).toArray) (h0 : ArrIn w b S0) (hl : S.length = 40)
    (h : ∀ w', ArrIn w' b S → Grew w w' (fun k => k = b) → w'.heap.size = w.heap.size → wpList Tryz.prog ops Q rest (a.put op.dst undef) w') : wpList Tryz.prog ops Q (op :: rest) a w := by
  have hth : w.there b 0 (bits S).toArray.size := by
    intro j hj
    have hj' : j < 40 := by simpa [bits, hl] using hj
    obtain ⟨h1, h2⟩ := h0.cell hj'
    rw [Nat.zero_add, h1]
    exact ⟨rfl, h2⟩
  obtain ⟨o1, o2, o3, o4, o5⟩ := other_setCells (b := b) (bits S) 0 w
  refine wpList_store_mid hgd 81 x y ho b 0 (bits S).toArray hx hy hth (by rw [info40]; simp [bits, hl]) (one_bits S) (h _ ⟨hl, ?_⟩ ⟨o3, o4, o5, by simp [o2], fun k hk _ => by simpa using o1 k hk⟩ (by simpa using o2))
  obtain ⟨C', h2, h3⟩ := shape_setCells (bits S) 0 w _ h0.blk
  have hsz : C'.size = 40 := by rw [h3]; simp [bits, h0.len]
  simp only [List.toList_toArray]
  rw [h2]
  congr 1
  congr 1
  apply Array.ext
  · rw [hsz]; simp [bits, hl]
  · intro j hj1 hj2
    have hj : j < (bits S).length := by simpa using hj2
    have := World.cell?_setCells_in b (bits S) 0 w (fun i hi => by simpa using (hth i (by simpa using hi)).1) j hj
    simp only [Nat.zero_add, World.cell?, h2] at this
    simpa [hj1] using this

/-- An array that is handed in. -/
theorem wpList_box_arr {ops : Array Oper} {rest : List Oper} {op : Oper} {a : Act} {w : World} {Q : Exit → Act → World → Prop} (hgd : op.guard = none) (x : Operand) (ho : op.op = .box 81 x) (S : List Bool) (hl : S.length = 40) (hx : a.eval x = .agg (bits S).toArray)
    (h : ∀ w', ArrIn w' w.heap.size S → Below w.heap.size w w' → w'.heap.size = w.heap.size + 1 → wpList Tryz.prog ops Q rest (a.put op.dst (.pointer (some ⟨w.heap.size, 0, none⟩))) w') : wpList Tryz.prog ops Q (op :: rest) a w := by
  refine wpList_plain hgd fun _ hK => ?_
  have hrun : (Instr.box 81 (.agg (bits S).toArray)).run Tryz.prog w = .ok (.pointer (some ⟨w.heap.size, 0, none⟩)) (w.alloc (.cells (bits S).toArray 81)) := by
    simp [Instr.box, newVar, newRow, Value.cells, Sem.run_bind]
  unfold Oper.wp execOp
  simp only [ho, hx, Sem.run_bind, Sem.run_pure, Result.andThen_ok, hrun]
  exact hK _ _ (h _ ⟨hl, heap_alloc_new w _⟩ ((Below.refl _ _).alloc (Nat.le_refl _) _) (by simp))

/-- A new array, with what a call gave. -/
theorem wpList_keep_arr {ops : Array Oper} {rest : List Oper} {op1 op2 : Oper} {a : Act} {w : World} {Q : Exit → Act → World → Prop} (hg1 : op1.guard = none) (ho1 : op1.op = .alloc 81) (hg2 : op2.guard = none) (x y : Operand) (ho2 : op2.op = .store 81 x y) (S : List Bool) (hl : S.length = 40)
    (hx : (a.put op1.dst (.pointer (some ⟨w.heap.size, 0, none⟩))).eval x = .pointer (some ⟨w.heap.size, 0, none⟩)) (hy : (a.put op1.dst (.pointer (some ⟨w.heap.size, 0, none⟩))).eval y = .agg (bits S).toArray)
    (h : ∀ w', ArrIn w' w.heap.size S → Below w.heap.size w w' → w'.heap.size = w.heap.size + 1 → wpList Tryz.prog ops Q rest ((a.put op1.dst (.pointer (some ⟨w.heap.size, 0, none⟩))).put op2.dst undef) w') : wpList Tryz.prog ops Q (op1 :: op2 :: rest) a w := by
  refine wpList_alloc_arr hg1 ho1 fun w1 hA1 hB1 hS1 => ?_
  refine wpList_store_arr hg2 x y ho2 _ hx _ S hy hA1 hl fun w2 hA2 hG2 hS2 => ?_
  exact h w2 hA2 (hB1.trans (hG2.below (by omega) (fun k hk => by omega))) (by omega)

/-- A result that is an array. -/
theorem results_arr {fn : Func} {tmps : Array Value} {t b : Nat} {S : List Bool} {w : World} (hr : fn.results = #[.cell t 81]) (ht : tmps.getD t undef = .pointer (some ⟨b, 0, none⟩)) (hA : ArrIn w b S) : (results fn tmps).run Tryz.prog w = .ok (.agg (bits S).toArray) w := by
  have hl := run_loadVar_mid (P := Tryz.prog) w b 0 81 (bits S) _ hA.range Tryz.underlying81 rfl (by rw [info40, bits_length, hA.len])
  have ht' : tmps[t]?.getD undef = .pointer (some ⟨b, 0, none⟩) := by simpa using ht
  simp [results, hr, ht', asAddr, Sem.run_bind, hl]

/-- The document's own graph: its number of nodes, its edges row by row, its ends. -/
structure RefIn (w : World) (g n : Nat) (L : List (Nat × Nat)) (D : List Bool) : Prop where
  blk : ∃ C : Array Value, w.heap[g]? = some (.cells C 89 (0, 0)) ∧ C.size = 1641 ∧ C[0]? = some (.int .i64 n) ∧ (∀ x y, x < 40 → y < 40 → C[1 + x * 40 + y]? = some (.bool (decide ((x, y) ∈ L)))) ∧ (∀ a, a < 40 → C[1601 + a]? = some (.bool (D.getD a false)))
  le : n ≤ 40
  pos : 1 ≤ n
  lt : ∀ x ∈ L, x.1 < n ∧ x.2 < n
  len : D.length = n

section
variable {w w' : World} {g n : Nat} {L : List (Nat × Nat)} {D : List Bool}
theorem RefIn.gLt (h : RefIn w g n L D) : g < w.heap.size := by
  obtain ⟨C, h1, _⟩ := h.blk
  exact blk_lt h1
theorem RefIn.of_block (h : RefIn w g n L D) (hb : w'.heap[g]? = w.heap[g]?) : RefIn w' g n L D := by
  obtain ⟨C, h1, h2⟩ := h.blk
  exact ⟨⟨C, hb.trans h1, h2⟩, h.le, h.pos, h.lt, h.len⟩
theorem RefIn.below (h : RefIn w g n L D) (hb : Below w.heap.size w w') : RefIn w' g n L D := h.of_block (hb.block _ h.gLt)
theorem RefIn.c0 (h : RefIn w g n L D) : w.cell? ⟨g, 0, none⟩ = some (.int .i64 n) := by
  obtain ⟨C, h1, _, h2, _⟩ := h.blk
  simp [World.cell?, h1, h2]
theorem RefIn.cE (h : RefIn w g n L D) {x y : Nat} (hx : x < 40) (hy : y < 40) : w.cell? ⟨g, 1 + x * 40 + y, none⟩ = some (.bool (decide ((x, y) ∈ L))) ∧ w.frozen? ⟨g, 1 + x * 40 + y, none⟩ = false := by
  obtain ⟨C, h1, _, _, h2, _⟩ := h.blk
  constructor
  · simp [World.cell?, h1, h2 x y hx hy]
  · simp [World.frozen?, h1]
theorem RefIn.cD (h : RefIn w g n L D) {a : Nat} (ha : a < 40) : w.cell? ⟨g, 1601 + a, none⟩ = some (.bool (D.getD a false)) ∧ w.frozen? ⟨g, 1601 + a, none⟩ = false := by
  obtain ⟨C, h1, _, _, _, h2⟩ := h.blk
  constructor
  · simp [World.cell?, h1, h2 a ha]
  · simp [World.frozen?, h1]
end

end Go.Proofs.YtbddcodljmglfaaGreatDoor
