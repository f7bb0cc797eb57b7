/- The document's own search: what waits is taken from the end. Plain mathematics. And what follows on it. -/
import Derived.Test.YtbddcodljmglfaaGreatDoorGraphB
import Derived.Test.YtbddcodljmglfaaGreatDoorLeafA
import Derived.Deep.MidRow
import Derived.BigQuiet
import Derived.Deep.LoopGhost
set_option linter.unusedVariables false
set_option linter.unusedSimpArgs false
namespace Go.Proofs.YtbddcodljmglfaaGreatDoor

def outTo (L : List (Nat × Nat)) (u k : Nat) : List Nat := (List.range k).filter fun y => decide ((u, y) ∈ L)

theorem outTo_succ (L : List (Nat × Nat)) (u k : Nat) : outTo L u (k + 1) = outTo L u k ++ (if (u, k) ∈ L then [k] else []) := by
  unfold outTo
  rw [List.range_succ, List.filter_append]
  by_cases h : (u, k) ∈ L
  · simp [h]
  · simp [h]

def visTo (L : List (Nat × Nat)) (x : Int) (u k : Nat) (s : List Bool × List Nat) : List Bool × List Nat := vis x (outTo L u k) s

theorem visTo_yes {L : List (Nat × Nat)} {x : Int} {u k : Nat} {s : List Bool × List Nat} (h : (u, k) ∈ L) : visTo L x u (k + 1) s = vis1 x (visTo L x u k s) k := by
  unfold visTo
  rw [outTo_succ, if_pos h]
  unfold vis
  rw [List.foldl_append]
  rfl

theorem visTo_no {L : List (Nat × Nat)} {x : Int} {u k : Nat} {s : List Bool × List Nat} (h : (u, k) ∉ L) : visTo L x u (k + 1) s = visTo L x u k s := by
  unfold visTo
  rw [outTo_succ, if_neg h, List.append_nil]

theorem mem_outTo {L : List (Nat × Nat)} {u k y : Nat} : y ∈ outTo L u k ↔ y < k ∧ (u, y) ∈ L := by
  simp [outTo]

/-- What holds all along. -/
structure Dfs (n : Nat) (L : List (Nat × Nat)) (a : Nat) (x : Int) (s : List Bool × List Nat) : Prop where
  len : s.1.length = 40
  sound : ∀ b, s.1.getD b false = true → RAr (· = a) (fun u v => (u, v) ∈ L) x b
  begun : s.1.getD a false = true
  shut : ∀ u, s.1.getD u false = true → u ∉ s.2 → ∀ v, (u, v) ∈ L → (v : Int) ≠ x → s.1.getD v false = true
  waits : ∀ u ∈ s.2, s.1.getD u false = true
  room : unseen s.1 + s.2.length ≤ 40
  lt : ∀ u ∈ s.2, u < n

theorem getD_falses (b : Nat) : (List.replicate 40 false).getD b false = false := by
  simp only [List.getD, List.getElem?_replicate]
  split <;> simp

theorem dfs_start {n : Nat} {L : List (Nat × Nat)} {a : Nat} {x : Int} (ha : a < n) (hn : n ≤ 40) (hx : (a : Int) ≠ x) : Dfs n L a x ((List.replicate 40 false).set a true, [a]) := by
  have hg : ∀ b, ((List.replicate 40 false).set a true).getD b false = true ↔ b = a := by
    intro b
    rw [getD_set (by simp; omega), getD_falses]
    simp
  refine ⟨by simp, fun b hb => ?_, (hg a).2 rfl, fun u hu hno => ?_, fun u hu => ?_, ?_, fun u hu => ?_⟩
  · rw [(hg b).1 hb]
    exact Reach.start ⟨rfl, hx⟩
  · rw [(hg u).1 hu] at hno
    simp at hno
  · simp at hu
    exact (hg u).2 hu
  · have := unseen_set (s := List.replicate 40 false) (a := a) (by simp; omega) (getD_falses a)
    simp [unseen] at this ⊢
    omega
  · simp at hu
    omega

theorem dfs_step {n : Nat} {L : List (Nat × Nat)} {a : Nat} {x : Int} {sn : List Bool} {l : List Nat} {u : Nat} (hL : ∀ z ∈ L, z.1 < n ∧ z.2 < n) (hn : n ≤ 40) (h : Dfs n L a x (sn, l ++ [u])) :
    Dfs n L a x (visTo L x u n (sn, l)) ∧ unseen (visTo L x u n (sn, l)).1 + (visTo L x u n (sn, l)).2.length = unseen sn + l.length := by
  obtain ⟨g1, g2, ⟨k, g3, g3'⟩, g4, g5⟩ := vis_props x 40 (outTo L u n) (sn, l) h.len (fun b hb => by have := (mem_outTo.1 hb).1; omega)
  have hu : sn.getD u false = true := h.waits u (by simp)
  have hs : ∀ b, (visTo L x u n (sn, l)).1.getD b false = true ↔ sn.getD b false = true ∨ ((u, b) ∈ L ∧ (b : Int) ≠ x) := by
    intro b
    show (vis x (outTo L u n) (sn, l)).1.getD b false = true ↔ _
    rw [g2]
    simp only [Bool.or_eq_true, Bool.and_eq_true, decide_eq_true_eq, mem_outTo]
    constructor
    · rintro (h1 | ⟨⟨_, h1⟩, h2⟩)
      · exact .inl h1
      · exact .inr ⟨h1, h2⟩
    · rintro (h1 | ⟨h1, h2⟩)
      · exact .inl h1
      · exact .inr ⟨⟨(hL _ h1).2, h1⟩, h2⟩
  refine ⟨⟨g1, fun b hb => ?_, (hs a).2 (.inl h.begun), fun b hb hno v hv hvx => ?_, fun b hb => ?_, ?_, fun b hb => ?_⟩, g4⟩
  · rcases (hs b).1 hb with h1 | ⟨h1, h2⟩
    · exact h.sound b h1
    · exact Reach.step (h.sound u hu) ⟨h1, h2⟩
  · by_cases hb' : sn.getD b false = true
    · by_cases e : b = u
      · rw [e] at hv
        exact (hs v).2 (.inr ⟨hv, hvx⟩)
      · refine (hs v).2 (.inl (h.shut b hb' (fun hm => ?_) v hv hvx))
        rcases List.mem_append.1 hm with hm | hm
        · exact hno (by show b ∈ (vis x (outTo L u n) (sn, l)).2; rw [g3]; exact List.mem_append.2 (.inl hm))
        · simp at hm
          exact e hm
    · exact absurd (g5 b hb (by simpa using hb')) hno
  · have hb' : b ∈ (vis x (outTo L u n) (sn, l)).2 := hb
    rw [g3] at hb'
    rcases List.mem_append.1 hb' with h1 | h1
    · exact (hs b).2 (.inl (h.waits b (List.mem_append.2 (.inl h1))))
    · have := g3' b h1
      exact (hs b).2 (.inr ⟨(mem_outTo.1 this.1).2, this.2⟩)
  · show unseen (vis x (outTo L u n) (sn, l)).1 + (vis x (outTo L u n) (sn, l)).2.length ≤ 40
    rw [g4]
    have := h.room
    simp only [List.length_append, List.length_cons, List.length_nil] at this
    show unseen sn + l.length ≤ 40
    omega
  · have hb' : b ∈ (vis x (outTo L u n) (sn, l)).2 := hb
    rw [g3] at hb'
    rcases List.mem_append.1 hb' with h1 | h1
    · exact h.lt b (List.mem_append.2 (.inl h1))
    · exact (mem_outTo.1 (g3' b h1).1).1

theorem dfs_end {n : Nat} {L : List (Nat × Nat)} {a : Nat} {x : Int} {sn : List Bool} (h : Dfs n L a x (sn, [])) (y : Nat) : sn.getD y false = true ↔ RAr (· = a) (fun u v => (u, v) ∈ L) x y := by
  refine ⟨h.sound y, fun hy => ?_⟩
  exact Reach.ind hy (fun b => sn.getD b false = true) (fun b hb => by rw [hb.1]; exact h.begun) (fun u v _ hu he => h.shut u hu (by simp) v he.1 he.2)

end Go.Proofs.YtbddcodljmglfaaGreatDoor

namespace Go.Proofs.YtbddcodljmglfaaGreatDoor
open Go.RowKit

theorem info40 : (Tryz.prog.info? 81).map (·.size) = some 40 := by kernel_rfl
theorem zero40 : (Tryz.prog.info? 81).bind (·.zero) = some (.agg (bits (List.replicate 40 false)).toArray) := by kernel_rfl

/-- Block b is an array of 40 bools. -/
structure ArrIn (w : World) (b : Nat) (S : List Bool) : Prop where
  len : S.length = 40
  blk : w.heap[b]? = some (.cells (bits S).toArray 81 (0, 0))

theorem ArrIn.of_block {w w' : World} {b : Nat} {S : List Bool} (h : ArrIn w b S) (hb : w'.heap[b]? = w.heap[b]?) : ArrIn w' b S := ⟨h.len, hb.trans h.blk⟩
theorem ArrIn.below {w w' : World} {b : Nat} {S : List Bool} (h : ArrIn w b S) (hb : Below w.heap.size w w') : ArrIn w' b S := h.of_block (hb.block _ (blk_lt h.blk))
theorem ArrIn.cell {w : World} {b : Nat} {S : List Bool} (h : ArrIn w b S) {k : Nat} (hk : k < 40) : w.cell? ⟨b, k, none⟩ = some (.bool (S.getD k false)) ∧ w.frozen? ⟨b, k, none⟩ = false := by
  have hl : k < S.length := by rw [h.len]; exact hk
  constructor
  · simp [World.cell?, h.blk, bits, hl]
  · simp [World.frozen?, h.blk]
theorem ArrIn.range {w : World} {b : Nat} {S : List Bool} (h : ArrIn w b S) : w.rangeAt b 0 (bits S) := by
  intro j v hv
  simp [World.cell?, h.blk, hv]
theorem bits_length (S : List Bool) : (bits S).length = S.length := by simp [bits]

/-- The walk's own cell store. -/
theorem ArrIn.set {w : World} {b : Nat} {S : List Bool} (h : ArrIn w b S) (k : Nat) (y : Bool) : ArrIn (w.setCell ⟨b, k, none⟩ (.bool y)) b (S.set k y) := by
  refine ⟨by simpa using h.len, ?_⟩
  simp [World.setCell, Array.getElem?_modify, h.blk, bits, List.map_set]

theorem run_alloc_arr (w : World) : (Instr.alloc 81 true (.tuple #[])).run Tryz.prog w = .ok (.pointer (some ⟨w.heap.size, 0, none⟩)) (w.alloc (.cells (bits (List.replicate 40 false)).toArray 81)) := by
  obtain ⟨i, hi, hz⟩ : ∃ i, Tryz.prog.info? 81 = some i ∧ i.zero = some (.agg (bits (List.replicate 40 false)).toArray) := by
    have := zero40
    cases h : Tryz.prog.info? 81 with
    | none => rw [h] at this; simp at this
    | some i => rw [h] at this; exact ⟨i, rfl, this⟩
  generalize (bits (List.replicate 40 false)).toArray = Z at hz ⊢
  simp [Instr.alloc, zeroValue, typeInfo, hi, hz, newVar, newRow, Value.cells, Sem.run_bind]

theorem wpList_alloc_arr {ops : Array Oper} {rest : List Oper} {op : Oper} {a : Act} {w : World} {Q : Exit → Act → World → Prop} (hgd : op.guard = none) (ho : op.op = .alloc 81)
    (h : ∀ w', ArrIn w' w.heap.size (List.replicate 40 false) → Below w.heap.size w w' → w'.heap.size = w.heap.size + 1 → wpList Tryz.prog ops Q rest (a.put op.dst (.pointer (some ⟨w.heap.size, 0, none⟩))) w') : wpList Tryz.prog ops Q (op :: rest) a w := by
  refine wpList_plain hgd fun _ hK => ?_
  unfold Oper.wp execOp
  simp only [ho, Sem.run_bind, Sem.run_pure, Result.andThen_ok, run_alloc_arr]
  exact hK _ _ (h _ ⟨by simp, heap_alloc_new w _⟩ ((Below.refl _ _).alloc (Nat.le_refl _) _) (by simp))

theorem wpList_load_arr {ops : Array Oper} {rest : List Oper} {op : Oper} {a : Act} {w : World} {Q : Exit → Act → World → Prop} (hgd : op.guard = none) (x : Operand) (ho : op.op = .load 81 x)
    (b : Nat) (hx : a.eval x = .pointer (some ⟨b, 0, none⟩)) (S : List Bool) (hS : ArrIn w b S)
    (h : wpList Tryz.prog ops Q rest (a.put op.dst (.agg (bits S).toArray)) w) : wpList Tryz.prog ops Q (op :: rest) a w :=
  wpList_load_mid hgd 81 x ho b 0 hx (bits S) _ hS.range Tryz.underlying81 rfl (by rw [info40, bits_length, hS.len]) h

theorem one_bits (S : List Bool) : (bits S).toArray.all (·.oneCell') = true := by
  refine all_oneCell_toArray fun v hv => ?_
  simp only [bits, List.mem_map] at hv
  obtain ⟨_, _, rfl⟩ := hv
  rfl

theorem wpList_store_arr {ops : Array Oper} {rest : List Oper} {op : Oper} {a : Act} {w : World} {Q : Exit → Act → World → Prop} (hgd : op.guard = none) (x y : Operand) (ho : op.op = .store 81 x y)
    (b : Nat) (hx : a.eval x = .pointer (some ⟨b, 0, none⟩)) (S0 S : List Bool) (hy : a.eval y = .agg (bits S).toArray) (h0 : ArrIn w b S0) (hl : S.length = 40)
    (h : ∀ w', ArrIn w' b S → Grew w w' (fun k => k = b) → w'.heap.size = w.heap.size → wpList Tryz.prog ops Q rest (a.put op.dst undef) w') : wpList Tryz.prog ops Q (op :: rest) a w := by
  have hth : w.there b 0 (bits S).toArray.size := by
    intro j hj
    have hj' : j < 40 := by simpa [bits, hl] using hj
    obtain ⟨h1, h2⟩ := h0.cell hj'
    rw [Nat.zero_add, h1]
    exact ⟨rfl, h2⟩
  obtain ⟨o1, o2, o3, o4, o5⟩ := other_setCells (b := b) (bits S) 0 w
  refine wpList_store_mid hgd 81 x y ho b 0 (bits S).toArray hx hy hth (by rw [info40]; simp [bits, hl]) (one_bits S) (h _ ⟨hl, ?_⟩ ⟨o3, o4, o5, by simp [o2], fun k hk _ => by simpa using o1 k hk⟩ (by simpa using o2))
  obtain ⟨C', h2, h3⟩ := shape_setCells (bits S) 0 w _ h0.blk
  have hsz : C'.size = 40 := by rw [h3]; simp [bits, h0.len]
  simp only [List.toList_toArray]
  rw [h2]
  congr 1
  congr 1
  apply Array.ext
  · rw [hsz]; simp [bits, hl]
  · intro j hj1 hj2
    have hj : j < (bits S).length := by simpa using hj2
    have := World.cell?_setCells_in b (bits S) 0 w (fun i hi => by simpa using (hth i (by simpa using hi)).1) j hj
    simp only [Nat.zero_add, World.cell?, h2] at this
    simpa [hj1] using this

/-- An array that is handed in. -/
theorem wpList_box_arr {ops : Array Oper} {rest : List Oper} {op : Oper} {a : Act} {w : World} {Q : Exit → Act → World → Prop} (hgd : op.guard = none) (x : Operand) (ho : op.op = .box 81 x) (S : List Bool) (hl : S.length = 40) (hx : a.eval x = .agg (bits S).toArray)
    (h : ∀ w', ArrIn w' w.heap.size S → Below w.heap.size w w' → w'.heap.size = w.heap.size + 1 → wpList Tryz.prog ops Q rest (a.put op.dst (.pointer (some ⟨w.heap.size, 0, none⟩))) w') : wpList Tryz.prog ops Q (op :: rest) a w := by
  refine wpList_plain hgd fun _ hK => ?_
  have hrun : (Instr.box 81 (.agg (bits S).toArray)).run Tryz.prog w = .ok (.pointer (some ⟨w.heap.size, 0, none⟩)) (w.alloc (.cells (bits S).toArray 81)) := by
    simp [Instr.box, newVar, newRow, Value.cells, Sem.run_bind]
  unfold Oper.wp execOp
  simp only [ho, hx, Sem.run_bind, Sem.run_pure, Result.andThen_ok, hrun]
  exact hK _ _ (h _ ⟨hl, heap_alloc_new w _⟩ ((Below.refl _ _).alloc (Nat.le_refl _) _) (by simp))

/-- A new array, with what a call gave. -/
theorem wpList_keep_arr {ops : Array Oper} {rest : List Oper} {op1 op2 : Oper} {a : Act} {w : World} {Q : Exit → Act → World → Prop} (hg1 : op1.guard = none) (ho1 : op1.op = .alloc 81) (hg2 : op2.guard = none) (x y : Operand) (ho2 : op2.op = .store 81 x y) (S : List Bool) (hl : S.length = 40)
    (hx : (a.put op1.dst (.pointer (some ⟨w.heap.size, 0, none⟩))).eval x = .pointer (some ⟨w.heap.size, 0, none⟩)) (hy : (a.put op1.dst (.pointer (some ⟨w.heap.size, 0, none⟩))).eval y = .agg (bits S).toArray)
    (h : ∀ w', ArrIn w' w.heap.size S → Below w.heap.size w w' → w'.heap.size = w.heap.size + 1 → wpList Tryz.prog ops Q rest ((a.put op1.dst (.pointer (some ⟨w.heap.size, 0, none⟩))).put op2.dst undef) w') : wpList Tryz.prog ops Q (op1 :: op2 :: rest) a w := by
  refine wpList_alloc_arr hg1 ho1 fun w1 hA1 hB1 hS1 => ?_
  refine wpList_store_arr hg2 x y ho2 _ hx _ S hy hA1 hl fun w2 hA2 hG2 hS2 => ?_
  exact h w2 hA2 (hB1.trans (hG2.below (by omega) (fun k hk => by omega))) (by omega)

/-- A result that is an array. -/
theorem results_arr {fn : Func} {tmps : Array Value} {t b : Nat} {S : List Bool} {w : World} (hr : fn.results = #[.cell t 81]) (ht : tmps.getD t undef = .pointer (some ⟨b, 0, none⟩)) (hA : ArrIn w b S) : (results fn tmps).run Tryz.prog w = .ok (.agg (bits S).toArray) w := by
  have hl := run_loadVar_mid (P := Tryz.prog) w b 0 81 (bits S) _ hA.range Tryz.underlying81 rfl (by rw [info40, bits_length, hA.len])
  have ht' : tmps[t]?.getD undef = .pointer (some ⟨b, 0, none⟩) := by simpa using ht
  simp [results, hr, ht', asAddr, Sem.run_bind, hl]

/-- The document's own graph: its number of nodes, its edges row by row, its ends. -/
structure RefIn (w : World) (g n : Nat) (L : List (Nat × Nat)) (D : List Bool) : Prop where
  blk : ∃ C : Array Value, w.heap[g]? = some (.cells C 89 (0, 0)) ∧ C.size = 1641 ∧ C[0]? = some (.int .i64 n) ∧ (∀ x y, x < 40 → y < 40 → C[1 + x * 40 + y]? = some (.bool (decide ((x, y) ∈ L)))) ∧ (∀ a, a < 40 → C[1601 + a]? = some (.bool (D.getD a false)))
  le : n ≤ 40
  pos : 1 ≤ n
  lt : ∀ x ∈ L, x.1 < n ∧ x.2 < n
  len : D.length = n

section
variable {w w' : World} {g n : Nat} {L : List (Nat × Nat)} {D : List Bool}
theorem RefIn.gLt (h : RefIn w g n L D) : g < w.heap.size := by
  obtain ⟨C, h1, _⟩ := h.blk
  exact blk_lt h1
theorem RefIn.of_block (h : RefIn w g n L D) (hb : w'.heap[g]? = w.heap[g]?) : RefIn w' g n L D := by
  obtain ⟨C, h1, h2⟩ := h.blk
  exact ⟨⟨C, hb.trans h1, h2⟩, h.le, h.pos, h.lt, h.len⟩
theorem RefIn.below (h : RefIn w g n L D) (hb : Below w.heap.size w w') : RefIn w' g n L D := h.of_block (hb.block _ h.gLt)
theorem RefIn.c0 (h : RefIn w g n L D) : w.cell? ⟨g, 0, none⟩ = some (.int .i64 n) := by
  obtain ⟨C, h1, _, h2, _⟩ := h.blk
  simp [World.cell?, h1, h2]
theorem RefIn.cE (h : RefIn w g n L D) {x y : Nat} (hx : x < 40) (hy : y < 40) : w.cell? ⟨g, 1 + x * 40 + y, none⟩ = some (.bool (decide ((x, y) ∈ L))) ∧ w.frozen? ⟨g, 1 + x * 40 + y, none⟩ = false := by
  obtain ⟨C, h1, _, _, h2, _⟩ := h.blk
  constructor
  · simp [World.cell?, h1, h2 x y hx hy]
  · simp [World.frozen?, h1]
end

end Go.Proofs.YtbddcodljmglfaaGreatDoor

namespace Go.Proofs.YtbddcodljmglfaaGreatDoor
open Go.RowKit

/-- The search under way: the result's own array, the array of those seen, those that wait. -/
structure FrIn (w wr : World) (b6 b7 : Nat) (v : Value) (s : List Bool × List Nat) : Prop where
  res : ArrIn wr b6 (List.replicate 40 false)
  seen : ArrIn wr b7 s.1
  own : OwnS wr (b7 + 1) 3 1 v s.2.length (nums s.2)
  bel : Below w.heap.size w wr
  o6 : w.heap.size ≤ b6
  o7 : b6 < b7

theorem FrIn.below {w wr wx : World} {b6 b7 : Nat} {v : Value} {s : List Bool × List Nat} (h : FrIn w wr b6 b7 v s) (hb : Below wr.heap.size wr wx) : FrIn w wx b6 b7 v s :=
  ⟨h.res.below hb, h.seen.below hb, h.own.of_block fun k hk => hb.block k (h.own.lt k hk).2, h.bel.trans (hb.mono h.bel.size), h.o6, h.o7⟩

theorem OwnS.popBack {w : World} {base : Nat} {ao : Option Addr} {n cap : Nat} {l : List Nat} {u : Nat} (h : OwnS w base 3 1 (.slice ao (n + 1) cap) (n + 1) (nums (l ++ [u]))) (hl : l.length = n) :
    ∃ g off, ao = some ⟨g, off, none⟩ ∧ w.cell? ⟨g, off + n, none⟩ = some (.int .i64 (u : Int)) ∧ n + 1 ≤ cap ∧ OwnS w base 3 1 (.slice ao n cap) n (nums l) := by
  rcases h.2 with ⟨h1, h2⟩ | ⟨g, off, cap', cur, h1, hb, hg, hnc, hcm, hcs, hc⟩
  · simp at h2
  · simp at h1
    obtain ⟨rfl, rfl⟩ := h1
    refine ⟨g, off, rfl, ?_, hnc, by simp [nums, hl], .inr ⟨g, off, cap, cur, rfl, hb, hg, by omega, hcm, hcs, fun j u' hj => ?_⟩⟩
    · have := hc n (.int .i64 (u : Int)) (by simp [nums, ← hl])
      simp [World.cell?, hg, this]
    · have hjl : j < (nums l).length := (List.getElem?_eq_some_iff.1 hj).1
      exact hc j u' (by rw [show nums (l ++ [u]) = nums l ++ nums [u] from by simp [nums], List.getElem?_append_left hjl]; exact hj)

theorem slice_back (g off N cap : Nat) (h : N + 1 ≤ cap) (w : World) : (Instr.slice 64 (.slice (some ⟨g, off, none⟩) (N + 1) cap) none (some (.int .i64 (N : Int))) none).run Tryz.prog w = .ok (.slice (some ⟨g, off, none⟩) N cap) w := by
  have h1 : (0 : Int) ≤ (N : Int) ∧ (N : Int) ≤ (cap : Int) := by omega
  have h2 : ¬ cap = 0 := by omega
  have h3 : ((N : Nat) : Int).toNat = N := by omega
  simp [Instr.slice, run_underlying Tryz.underlying64, Instr.sliceBounds, Instr.sliceBound, asIntOf, Result.andThen, sizeInt, h1, h2, h3]
  have h5 : N ≤ cap := by omega
  simp [Addr.add, h5]

theorem FrIn.push {w wr w3 : World} {b6 b7 : Nat} {v : Value} {s : List Bool × List Nat} {a g' off' cap' : Nat} {x : Int} {o : Obj} (h : FrIn w wr b6 b7 v s) (ha : a < 40) (hx : (a : Int) ≠ x) (hs : s.1.getD a false = false)
    (hown : OwnS w3 (b7 + 1) 3 1 (.slice (some ⟨g', off', none⟩) (s.2.length + 1) cap') (s.2.length + 1) (nums s.2 ++ [.int .i64 (a : Int)])) (hgrow : ((wr.setCell ⟨b7, a, none⟩ (.bool true)).alloc o).grownBy w3 v.ownBlock) :
    FrIn w w3 b6 b7 (.slice (some ⟨g', off', none⟩) (s.2.length + 1) cap') (vis1 x s a) := by
  have h6 := h.o6
  have h7 := h.o7
  have hb7 := blk_lt h.seen.blk
  have hv : vis1 x s a = (s.1.set a true, s.2 ++ [a]) := by
    simp [-List.getD_eq_getElem?_getD, vis1, hx, hs]
  have hkeep : ∀ k, k < wr.heap.size → v.ownBlock ≠ some k → w3.heap[k]? = (wr.setCell ⟨b7, a, none⟩ (.bool true)).heap[k]? := by
    intro k hk hne
    rw [hgrow.block k (by simp; omega) (fun e => hne e.symm)]
    exact Below.heap_alloc _ _ _ (by simpa using hk)
  have hlo : ∀ k, k < b7 + 1 → v.ownBlock ≠ some k := fun k hk e => by have := (h.own.lt k e).1; omega
  rw [hv]
  refine ⟨?_, ?_, by simpa [nums] using hown, ?_, h6, h7⟩
  · exact h.res.of_block ((hkeep b6 (by omega) (hlo _ (by omega))).trans (Below.heap_setCell _ _ _ _ (by simp; omega)))
  · exact (h.seen.set a true).of_block (hkeep b7 hb7 (hlo _ (by omega)))
  · exact ((h.bel.setCell (by simp; omega) _).alloc (by have := h.bel.size; simp; omega) _).grown hgrow (by have := h.bel.size; simp; omega) (fun k hk => by have := (h.own.lt k hk).1; omega)

set_option maxRecDepth 100000 in
set_option maxHeartbeats 4000000 in
theorem refFrom_any (w : World) (g n : Nat) (L : List (Nat × Nat)) (D : List Bool) (h : RefIn w g n L D) (a : Nat) (ha : a < n) (x : Int) :
    Calls Tryz.prog 49 #[.pointer (some ⟨g, 0, none⟩), .int .i64 a, .int .i64 x] w fun e w' => ∃ S : List Bool, e = .returned (.agg (bits S).toArray) ∧ S.length = 40 ∧ (∀ y, S.getD y false = true ↔ RAr (· = a) (fun u v => (u, v) ∈ L) x y) ∧ Below w.heap.size w w' := by
  have HR : Hid (RefIn w g n L D) := h
  have hle := h.le
  clear h
  go_enter Tryz.func49, Tryz.ntmps49
  by_cases hax : (a : Int) = x
  · subst hax
    go_wp2_with (first
      | (have hq := hA2; refine wpList_load_arr rfl _ rfl _ rfl _ hA2 ?_)
      | (have hq := hA2; refine wpList_store_arr rfl _ _ rfl _ rfl _ _ rfl hA12 (by simp) ?_; intro w3 hA3 hG3 hS3)
      | (have hq := hA1; refine wpList_alloc_arr rfl rfl ?_; intro w2 hA2 hB2 hS2; rw [hS1] at hA2; have hA12 := hA1.below hB2)
      | (refine wpList_alloc_arr rfl rfl ?_; intro w1 hA1 hB1 hS1))
    refine ⟨rfl, _, results_arr rfl rfl hA3, _, rfl, by simp, fun y => ?_, ?_⟩
    · rw [getD_falses]
      constructor
      · intro h; simp at h
      · intro h
        exact (Reach.ind h (fun _ => False) (fun z hz => hz.2 (by rw [hz.1])) (fun _ _ _ h _ => h)).elim
    · exact hB1.trans ((hB2.mono (by omega)).trans (hG3.below (by omega) (fun k hk => by omega)))
  · have hax1 : ((a : Int) == x) = false := by rw [beq_eq_false_iff_ne]; exact hax
    go_wp2_with (first
      | (have hq := hA1; refine wpList_alloc_arr rfl rfl ?_; intro w2 hA2 hB2 hS2; rw [hS1] at hA2; have hA12 := hA1.below hB2; have hsc := ((hA2.of_block (w' := w2.alloc (.cells #[.int .i64 (a : Int)] 3)) (Below.heap_alloc _ _ _ (by omega))).cell (k := a) (by omega)).1; have hsf := ((hA2.of_block (w' := w2.alloc (.cells #[.int .i64 (a : Int)] 3)) (Below.heap_alloc _ _ _ (by omega))).cell (k := a) (by omega)).2)
      | (refine wpList_alloc_arr rfl rfl ?_; intro w1 hA1 hB1 hS1))
    have HF0 : Hid (FrIn w ((w2.setCell ⟨w.heap.size + 1, a, none⟩ (.bool true)).alloc (.cells #[.int .i64 (a : Int)] 3)) w.heap.size (w.heap.size + 1) (.slice (some ⟨w.heap.size + 1 + 1, 0, none⟩) 1 1) ((List.replicate 40 false).set a true, [a])) := by
      have hsz : w2.heap.size = w.heap.size + 1 + 1 := by omega
      refine ⟨hA12.of_block ((Below.heap_alloc _ _ _ (by simp; omega)).trans (Below.heap_setCell _ _ _ _ (by simp))), (hA2.set a true).of_block (Below.heap_alloc _ _ _ (by simp; omega)), ⟨by simp [nums], .inr ⟨w.heap.size + 1 + 1, 0, 1, #[.int .i64 (a : Int)], rfl, by omega, heap_new (by simp; omega), by simp, by unfold maxLen; omega, by simp, fun j u hj => ?_⟩⟩, ?_, by omega, by omega⟩
      · match j, hj with
        | 0, hj => simp [nums] at hj; subst hj; simp
        | j + 1, hj => simp [nums] at hj
      · exact ((hB1.trans (hB2.mono (by omega))).setCell (by simp) _).alloc (by simp; omega) _
    have HD0 : Hid (Dfs n L a x ((List.replicate 40 false).set a true, [a])) := dfs_start ha hle hax
    have hu0 : unseen ((List.replicate 40 false).set a true) + 1 = 40 := by
      have := unseen_set (s := List.replicate 40 false) (a := a) (by simp; omega) (getD_falses a)
      rw [this]
      simp [unseen]
    have HU0 : Hid (unseen ((List.replicate 40 false).set a true) + 1 = 40) := hu0
    generalize w.heap.size + 1 = b7 at HF0 ⊢
    clear hA1 hB1 hS1 hA2 hB2 hS2 hA12 hsc hsf hu0 hax hax1
    go_loopg [8] 40 (fun gk s8 wr => ∃ (sn : List Bool) (l : List Nat), unseen sn + l.length = gk ∧ gk ≤ 40 ∧ Hid (FrIn w wr w.heap.size b7 s8 (sn, l)) ∧ Hid (Dfs n L a x (sn, l)))
    case atStart => exact ⟨_, _, HU0.out, by omega, HF0.out, HD0.out⟩
    case round =>
      clear HF0 HD0 HU0
      obtain ⟨sn, l, hgk, hg40, hf, hd⟩ := hrel
      rcases List.eq_nil_or_concat l with rfl | ⟨l0, u, hl⟩
      · obtain ⟨ao, cp, rfl⟩ := hf.out.own.len
        have hseen := hf.out.seen
        have hres := hf.out.res
        have HB : Hid (Below w.heap.size w wr) := hf.out.bel
        have hn40 : sn.length = 40 := hd.out.len
        go_wp2_with (first
          | (refine wpList_load_arr rfl _ rfl _ rfl _ hseen ?_)
          | (refine wpList_store_arr rfl _ _ rfl _ rfl _ _ rfl hres hn40 ?_; intro w3 hA3 hG3 hS3))
        refine ⟨rfl, _, results_arr rfl rfl hA3, _, rfl, hn40, fun y => dfs_end hd.out y, ?_⟩
        exact HB.out.trans (hG3.below HB.out.size (fun k hk => by omega))
      · obtain rfl : l = l0 ++ [u] := by rw [hl]; simp
        obtain ⟨ao, cp, rfl⟩ := hf.out.own.len
        obtain ⟨N, hN⟩ : ∃ N, l0.length = N := ⟨_, rfl⟩
        have hlen1 : (l0 ++ [u]).length = N + 1 := by simp [hN]
        rw [hlen1] at hf ⊢
        have hown := hf.out.own
        have hown1 : OwnS wr (b7 + 1) 3 1 (.slice ao (N + 1) cp) (N + 1) (nums (l0 ++ [u])) := by have := hf.out.own; simp only [hlen1] at this; exact this
        obtain ⟨g8, off8, rfl, hc8, hcap, hown2⟩ := hown1.popBack hN
        have hun : u < n := hd.out.lt u (by simp)
        have hsl := slice_back g8 off8 N cp hcap wr
        have hroom := hd.out.room
        simp only [List.length_append, List.length_cons, List.length_nil] at hroom hgk
        have hN40 : N ≤ 40 := by omega
        have hwN : IntKind.i64.wrap (N : Int) = (N : Int) := by
          have e : IntKind.i64.bits = 64 := rfl
          simp [IntKind.wrap, IntKind.signed, e]
          omega
        have HF1 : Hid (FrIn w wr w.heap.size b7 (.slice (some ⟨g8, off8, none⟩) N cp) (sn, l0)) := ⟨hf.out.res, hf.out.seen, by simp only [hN]; exact hown2, hf.out.bel, hf.out.o6, hf.out.o7⟩
        have HN : Hid (l0.length = N) := hN
        clear hown hown1 hown2 hf hlen1 hl hN
        go_wp2_with fail
        clear hc8 hsl hwN
        go_loopg [8, 10] n (fun g2 s8 s10 wy => ∃ y : Nat, y + g2 = n ∧ s10 = .int .i64 y ∧ Hid (FrIn w wy w.heap.size b7 s8 (visTo L x u y (sn, l0))))
        case atStart => exact ⟨0, by omega, rfl, HF1.out⟩
        case round =>
          clear HF1
          obtain ⟨y, hyg, rfl, hf⟩ := hrel
          have HRW : Hid (RefIn wr g n L D) := HR.out.below hf.out.bel
          have c0 := HRW.out.c0
          by_cases hyn : y < n
          · obtain ⟨cE, -⟩ := HRW.out.cE (x := u) (y := y) (by omega) (by omega)
            obtain ⟨cS, fS⟩ := hf.out.seen.cell (k := y) (by omega)
            by_cases hE : (u, y) ∈ L
            · have hE1 : decide ((u, y) ∈ L) = true := by simp [hE]
              rw [hE1] at cE
              have HV : Hid (visTo L x u (y + 1) (sn, l0) = vis1 x (visTo L x u y (sn, l0)) y) := visTo_yes hE
              have hvp := vis_props x 40 (outTo L u y) (sn, l0) hd.out.len (fun b hb => by have := (mem_outTo.1 hb).1; omega)
              have hroom2 : Hid ((visTo L x u y (sn, l0)).2.length ≤ 40) := by
                have h4 := hvp.2.2.2.1
                have h5 := HN.out
                show (vis x (outTo L u y) (sn, l0)).2.length ≤ 40
                simp only at h4
                omega
              generalize visTo L x u y (sn, l0) = st at hf cS HV hroom2
              obtain ⟨ao, cpv, rfl⟩ := hf.out.own.len
              clear hE1 hE hvp
              cases hb : st.1.getD y false
              · rw [hb] at cS
                have HB : Hid (st.1.getD y false = false) := hb
                clear hb
                by_cases hyx : (y : Int) = x
                · have HV2 : Hid (visTo L x u (y + 1) (sn, l0) = st) := by show _ = _; rw [HV.out]; simp [vis1, hyx]
                  clear HV HB
                  subst hyx
                  go_wp2_with fail
                  go_roundg (n - (y + 1))
                  case measure => omega
                  case rel => exact ⟨y + 1, by omega, by go_num, by rw [HV2.out]; exact hf⟩
                · have q1 : ((y : Int) == x) = false := by rw [beq_eq_false_iff_ne]; exact hyx
                  have HX : Hid ((y : Int) ≠ x) := hyx
                  obtain ⟨i0, hi0, hz0, hz1, hz2⟩ := info_parts infoInt
                  have o6 := hf.out.o6
                  have o7 := hf.out.o7
                  have hb7 := blk_lt hf.out.seen.blk
                  have HO : Hid (OwnS (wr.setCell ⟨b7, y, none⟩ (.bool true)) (b7 + 1) 3 1 (.slice ao st.2.length cpv) st.2.length (nums st.2)) :=
                    hf.out.own.of_block fun j hj => Below.heap_setCell _ _ _ _ (by have := (hf.out.own.lt j hj).1; simp; omega)
                  go_wp2_with (first | (at_builtin; refine wpList_append_ownS _ rfl _ _ 64 rfl (b7 + 1) 3 i0 (.int .i64 0) 1 8 Tryz.underlying64 hi0 hz0 hz1 hz2 rfl (by decide) _ _ _ rfl (HO.out.alloc _) ⟨wr.heap.size, 0, none⟩ 1 1 [.int .i64 (y : Int)] rfl rfl (cell_new1' _ _ _ _ (by simp)) (fun u hu => nums_one u y hu) (by decide) (by have := hroom2.out; unfold maxLen; omega) (by have := hroom2.out; omega) (by simp; omega) ?_; intro g' off' cap' w6 hown6 hgrow6 hloc6 hlt6))
                  have hfin := hf.out.push (x := x) (by omega : y < 40) HX.out HB.out hown6 hgrow6
                  go_wp2_with fail
                  go_roundg (n - (y + 1))
                  case measure => omega
                  case rel => exact ⟨y + 1, by omega, by go_num, by rw [HV.out]; exact hfin⟩
              · rw [hb] at cS
                have HV2 : Hid (visTo L x u (y + 1) (sn, l0) = st) := by show _ = _; rw [HV.out]; simp only [vis1, hb, Bool.true_eq_false, and_false, if_false]
                clear HV hb
                go_wp2_with fail
                go_roundg (n - (y + 1))
                case measure => omega
                case rel => exact ⟨y + 1, by omega, by go_num, by rw [HV2.out]; exact hf⟩
            · have hE1 : decide ((u, y) ∈ L) = false := by simp [hE]
              rw [hE1] at cE
              have HV : Hid (visTo L x u (y + 1) (sn, l0) = visTo L x u y (sn, l0)) := visTo_no hE
              generalize visTo L x u y (sn, l0) = st at hf cS HV
              clear hE1 hE
              go_wp2_with fail
              go_roundg (n - (y + 1))
              case measure => omega
              case rel => exact ⟨y + 1, by omega, by go_num, by rw [HV.out]; exact hf⟩
          · obtain rfl : y = n := by omega
            obtain ⟨hD, hcnt⟩ := dfs_step HR.out.lt hle hd.out
            have HD : Hid (Dfs y L a x (visTo L x u y (sn, l0))) := hD
            have hcnt' : unseen (visTo L x u y (sn, l0)).1 + (visTo L x u y (sn, l0)).2.length = unseen sn + N := by rw [hcnt, HN.out]
            have h8 := HN.out
            generalize visTo L x u y (sn, l0) = st at hf HD hcnt'
            obtain ⟨sn', l'⟩ := st
            clear hD hcnt
            go_wp2_with fail
            go_roundg (unseen sn + N)
            case measure => omega
            case rel => exact ⟨sn', l', hcnt', by omega, hf.out, HD.out⟩

end Go.Proofs.YtbddcodljmglfaaGreatDoor
