/- New, Add, Cut and End of package ridge: the refusals, and what becomes of the graph. -/
import Derived.Test.YtbddcodljmglfaaGraph
set_option linter.unusedSimpArgs false
set_option linter.unusedVariables false
namespace Go.Proofs.Ytbddcodljmglfaa
open Go.RowKit

theorem run_make1 (t e : TypeId) (i : TypeInfo) (z : Value) (ht : Try.prog.underlying t = some (.slice e)) (hi : Try.prog.info? e = some i) (hz : i.zero = some z) (hs : i.size = 1) (hc : z.cells = #[z]) (n : Nat) (hn : n ≤ 1000) (hb : i.bytes ≤ 1000) (w : World) :
    (Instr.makeSlice t (.int .i64 n) (.int .i64 n)).run Try.prog w = .ok (.slice (some ⟨w.heap.size, 0, none⟩) n n) (w.alloc (.cells (Array.replicate n z) e)) := by
  have hb' : (i.bytes : Int) * (n : Int) ≤ 281474976710656 := by
    have h1 : i.bytes * n ≤ 1000 * 1000 := Nat.mul_le_mul hb hn
    have h : ((i.bytes * n : Nat) : Int) ≤ 281474976710656 := by omega
    rwa [Int.natCast_mul] at h
  have hr := run_make (P := Try.prog) w t e i z ht hi hz .i64 .i64 n n (by omega) (Int.le_refl _) hb' (by omega)
  rw [hr]
  have e1 : madeCells z.cells ((n : Int).toNat * i.size) = Array.replicate n z := by
    apply Array.toList_inj.1
    rw [hs, hc, Int.toNat_natCast, Nat.mul_one, toList_madeCells_one]
    simp
  rw [e1, Int.toNat_natCast]

theorem heap_new {w : World} {o : Obj} {k : Nat} (h : k = w.heap.size) : (w.alloc o).heap[k]? = some o := by subst h; exact heap_alloc_new w o

theorem makeBools (n : Nat) (hn : n ≤ 1000) (w : World) :
    (Instr.makeSlice 71 (.int .i64 n) (.int .i64 n)).run Try.prog w = .ok (.slice (some ⟨w.heap.size, 0, none⟩) n n) (w.alloc (.cells (Array.replicate n (.bool false)) 4)) := by
  obtain ⟨i0, hi, hz0, hz1, hz2⟩ := info_parts infoBool
  exact run_make1 _ _ i0 _ Try.underlying71 hi hz0 hz1 rfl n hn (by omega) w

set_option maxHeartbeats 1000000 in
theorem waysNew_any (w : World) (n : Nat) (h1 : 1 ≤ n) (h2 : n ≤ 40) :
    Calls Try.prog 55 #[.int .i64 n] w fun e w' => ∃ m q, e = .returned (.agg #[.int .i64 n, .map (some m), .slice (some ⟨q, 0, none⟩) n n]) ∧
      Below w.heap.size w w' ∧ w.heap.size ≤ m ∧ w.heap.size ≤ q ∧ w'.heap[m]? = some (.map #[] 0) ∧ w'.heap[q]? = some (.cells (bits (List.replicate n false)).toArray 4 (0, 0)) := by
  have hmk := makeBools n (by omega)
  have hmm := @run_makeMap Try.prog
  go_enter Try.func55, Try.ntmps55
  go_wp2
  refine bodyPost_ret (v := .agg #[.int .i64 n, .map (some (w.heap.size + 1)), .slice (some ⟨w.heap.size + 2, 0, none⟩) n n]) (by simp [results, Try.results55, go_sem]) rfl ⟨w.heap.size + 1, w.heap.size + 2, rfl, ?_, by omega, by omega, ?_, ?_⟩
  · exact (((Below.refl _ _).alloc (Nat.le_refl _) _).alloc (by simp) _).alloc (by simp; omega) _
  · rw [Below.heap_alloc _ _ _ (by simp), heap_new (by simp)]
  · rw [heap_new (by simp)]
    simp [bits]

def newOk (n : Int) : Bool := decide (1 ≤ n ∧ n ≤ 40)

set_option maxHeartbeats 1000000 in
theorem new_no (w : World) (n : Int) (h : n < 1 ∨ 40 < n) :
    Calls Try.prog 26 #[.int .i64 n] w fun e w' => e = .returned (.tuple #[.pointer none, .int .i64 1]) ∧ w' = w := by
  by_cases h1 : n < 1
  · clear h
    go_enter Try.func26, Try.ntmps26
    go_wp2
    go_ret2
    exact ⟨rfl, rfl⟩
  · have h2 : 40 < n := by omega
    clear h
    go_enter Try.func26, Try.ntmps26
    go_wp2
    go_ret2
    exact ⟨rfl, rfl⟩

theorem EMap.empty {w : World} {m : Nat} (h : w.heap[m]? = some (.map #[] 0)) : EMap w m [] :=
  ⟨#[], 0, h, by simp, by simp, by simp, by simp, by simp⟩

set_option maxHeartbeats 1000000 in
theorem new_yes (w : World) (n : Nat) (h1 : 1 ≤ n) (h2 : n ≤ 40) :
    Calls Try.prog 26 #[.int .i64 n] w fun e w' => ∃ p m q, e = .returned (.tuple #[.pointer (some ⟨p, 0, none⟩), .int .i64 0]) ∧ Below w.heap.size w w' ∧ w.heap.size ≤ p ∧ w.heap.size ≤ m ∧ w.heap.size ≤ q ∧ GraphIn w' p m q n [] (List.replicate n false) := by
  have h1' : ¬ (n : Int) < 1 := by omega
  have h2' : ¬ (40 : Int) < n := by omega
  go_enter Try.func26, Try.ntmps26
  go_wp2_with (go_at_call 55; refine (waysNew_any _ n h1 h2).mono ?_; rintro e w1 ⟨m, q, rfl, hb, hm1, hq1, hm, hq⟩)
  go_ret2
  refine ⟨w1.heap.size, m, q, rfl, hb.alloc hb.size _, hb.size, hm1, hq1, ?_⟩
  exact ⟨heap_new rfl, EMap.empty ((Below.heap_alloc _ _ _ (blk_lt hm)).trans hm), (Below.heap_alloc _ _ _ (blk_lt hq)).trans hq, by simp, h1, h2, by simp⟩

/-- What a change of the edges alone, in a world that may have grown, leaves of a graph. -/
theorem GraphIn.edged {w w' : World} {p m q n : Nat} {L L' : List (Nat × Nat)} {D : List Bool} (h : GraphIn w p m q n L D) (hm : EMap w' m L') (hb : ∀ k, k ≠ m → k < w.heap.size → w'.heap[k]? = w.heap[k]?) (hlt : ∀ x ∈ L', x.1 < n ∧ x.2 < n) :
    GraphIn w' p m q n L' D :=
  ⟨(hb p h.pm h.pLt).trans h.head, hm, (hb q h.qm h.qLt).trans h.ends, h.len, h.pos, h.le, hlt⟩

/-- w' is w with new blocks, but for blocks that 'may' names. -/
structure Grew (w w' : World) (may : Nat → Prop) : Prop where
  os : w'.os = w.os
  tape : w'.tape = w.tape
  output : w'.output = w.output
  size : w.heap.size ≤ w'.heap.size
  block : ∀ k, ¬ may k → k < w.heap.size → w'.heap[k]? = w.heap[k]?

theorem Grew.refl (w : World) (may : Nat → Prop) : Grew w w may := ⟨rfl, rfl, rfl, Nat.le_refl _, fun _ _ _ => rfl⟩
theorem Grew.trans {a b c : World} {may : Nat → Prop} (h : Grew a b may) (k : Grew b c may) : Grew a c may :=
  ⟨k.os.trans h.os, k.tape.trans h.tape, k.output.trans h.output, Nat.le_trans h.size k.size, fun i hi hl => (k.block i hi (Nat.lt_of_lt_of_le hl h.size)).trans (h.block i hi hl)⟩
theorem Grew.of_below {w w' : World} {may : Nat → Prop} (h : Below w.heap.size w w') : Grew w w' may := ⟨h.os, h.tape, h.output, h.size, fun k _ hk => h.block k hk⟩
theorem Grew.mono {w w' : World} {may may' : Nat → Prop} (h : Grew w w' may) (hm : ∀ k, may k → may' k) : Grew w w' may' := ⟨h.os, h.tape, h.output, h.size, fun k hk hl => h.block k (fun h' => hk (hm k h')) hl⟩
theorem Grew.of_turned {w w' : World} {m : Nat} {may : Nat → Prop} (h : Turned w w' m) (hm : may m) : Grew w w' may :=
  ⟨h.os, h.tape, h.output, Nat.le_of_eq h.size.symm, fun k hk _ => h.block k (fun e => hk (e ▸ hm))⟩
theorem Grew.below {w w' : World} {may : Nat → Prop} {B : Nat} (h : Grew w w' may) (hB : B ≤ w.heap.size) (hm : ∀ k, may k → B ≤ k) : Below B w w' :=
  ⟨h.os, h.tape, h.output, h.size, fun k hk => h.block k (fun h' => by have := hm k h'; omega) (by omega)⟩

theorem rd_pair (w : World) (a b : Int) : RdS (w.alloc (.cells #[.int .i64 a, .int .i64 b] 3)) 1 (.slice (some ⟨w.heap.size, 0, none⟩) 2 2) [a, b].length ([a, b].map (Value.int .i64)) := by
  refine ⟨rfl, _, _, rfl, .inr ⟨w.heap.size, 0, rfl, fun j u hj => ?_⟩⟩
  match j, hj with
  | 0, hj => simp at hj; subst hj; simp
  | 1, hj => simp at hj; subst hj; simp
  | j + 2, hj => simp at hj
theorem rd_one (w : World) (a : Int) : RdS (w.alloc (.cells #[.int .i64 a] 3)) 1 (.slice (some ⟨w.heap.size, 0, none⟩) 1 1) [a].length ([a].map (Value.int .i64)) := by
  refine ⟨rfl, _, _, rfl, .inr ⟨w.heap.size, 0, rfl, fun j u hj => ?_⟩⟩
  match j, hj with
  | 0, hj => simp at hj; subst hj; simp
  | j + 1, hj => simp at hj

set_option maxHeartbeats 1000000 in
theorem gAdd_no (w : World) (p m q n : Nat) (L : List (Nat × Nat)) (D : List Bool) (hg : GraphIn w p m q n L D) (a b : Int) (h : isNode n a = false ∨ isNode n b = false) :
    Calls Try.prog 19 #[.pointer (some ⟨p, 0, none⟩), .int .i64 a, .int .i64 b] w fun e w' => e = .returned (.int .i64 2) ∧ Below w.heap.size w w' := by
  have hall : [a, b].all (isNode n) = false := by rcases h with h | h <;> simp [h]
  have hc : (w.alloc (.cells #[.int .i64 a, .int .i64 b] 3)).cell? ⟨p, 0, none⟩ = some (.int .i64 n) := by rw [World.cell?_of_block (Below.heap_alloc _ _ _ hg.pLt)]; exact hg.c0
  have hcall := has_any _ p n _ [a, b] hc (rd_pair w a b) (by simp)
  rw [hall] at hcall
  clear hall h hg hc
  go_enter Try.func19, Try.ntmps19
  go_wp2_with (go_at_call 30; refine hcall.mono ?_; rintro e w' ⟨rfl, rfl⟩)
  go_ret
  exact ⟨rfl, (Below.refl _ _).alloc (Nat.le_refl _) _⟩

theorem isNode_nat {n a : Nat} (h : a < n) : isNode n (a : Int) = true := isNode_iff.2 (by omega)

theorem has_two (w : World) (p m q n : Nat) (L : List (Nat × Nat)) (D : List Bool) (hg : GraphIn w p m q n L D) (a b : Nat) (ha : a < n) (hb : b < n) :
    Calls Try.prog 30 #[.pointer (some ⟨p, 0, none⟩), .slice (some ⟨w.heap.size, 0, none⟩) 2 2] (w.alloc (.cells #[.int .i64 a, .int .i64 b] 3)) fun e w' => e = .returned (.bool true) ∧ w' = w.alloc (.cells #[.int .i64 a, .int .i64 b] 3) := by
  have hall : [(a : Int), (b : Int)].all (isNode n) = true := by simp [isNode_nat ha, isNode_nat hb]
  have hc : (w.alloc (.cells #[.int .i64 a, .int .i64 b] 3)).cell? ⟨p, 0, none⟩ = some (.int .i64 n) := by rw [World.cell?_of_block (Below.heap_alloc _ _ _ hg.pLt)]; exact hg.c0
  have hcall := has_any _ p n _ [(a : Int), (b : Int)] hc (rd_pair w a b) (by simp)
  rw [hall] at hcall
  exact hcall

theorem has_one (w : World) (p m q n : Nat) (L : List (Nat × Nat)) (D : List Bool) (hg : GraphIn w p m q n L D) (a : Nat) (ha : a < n) :
    Calls Try.prog 30 #[.pointer (some ⟨p, 0, none⟩), .slice (some ⟨w.heap.size, 0, none⟩) 1 1] (w.alloc (.cells #[.int .i64 a] 3)) fun e w' => e = .returned (.bool true) ∧ w' = w.alloc (.cells #[.int .i64 a] 3) := by
  have hall : [(a : Int)].all (isNode n) = true := by simp [isNode_nat ha]
  have hc : (w.alloc (.cells #[.int .i64 a] 3)).cell? ⟨p, 0, none⟩ = some (.int .i64 n) := by rw [World.cell?_of_block (Below.heap_alloc _ _ _ hg.pLt)]; exact hg.c0
  have hcall := has_any _ p n _ [(a : Int)] hc (rd_one w a) (by simp)
  rw [hall] at hcall
  exact hcall

theorem has_one_no (w : World) (p m q n : Nat) (L : List (Nat × Nat)) (D : List Bool) (hg : GraphIn w p m q n L D) (a : Int) (ha : isNode n a = false) :
    Calls Try.prog 30 #[.pointer (some ⟨p, 0, none⟩), .slice (some ⟨w.heap.size, 0, none⟩) 1 1] (w.alloc (.cells #[.int .i64 a] 3)) fun e w' => e = .returned (.bool false) ∧ w' = w.alloc (.cells #[.int .i64 a] 3) := by
  have hall : [a].all (isNode n) = false := by simp [ha]
  have hc : (w.alloc (.cells #[.int .i64 a] 3)).cell? ⟨p, 0, none⟩ = some (.int .i64 n) := by rw [World.cell?_of_block (Below.heap_alloc _ _ _ hg.pLt)]; exact hg.c0
  have hcall := has_any _ p n _ [a] hc (rd_one w a) (by simp)
  rw [hall] at hcall
  exact hcall

theorem has_two_no (w : World) (p m q n : Nat) (L : List (Nat × Nat)) (D : List Bool) (hg : GraphIn w p m q n L D) (a b : Int) (h : isNode n a = false ∨ isNode n b = false) :
    Calls Try.prog 30 #[.pointer (some ⟨p, 0, none⟩), .slice (some ⟨w.heap.size, 0, none⟩) 2 2] (w.alloc (.cells #[.int .i64 a, .int .i64 b] 3)) fun e w' => e = .returned (.bool false) ∧ w' = w.alloc (.cells #[.int .i64 a, .int .i64 b] 3) := by
  have hall : [a, b].all (isNode n) = false := by rcases h with h | h <;> simp [h]
  have hc : (w.alloc (.cells #[.int .i64 a, .int .i64 b] 3)).cell? ⟨p, 0, none⟩ = some (.int .i64 n) := by rw [World.cell?_of_block (Below.heap_alloc _ _ _ hg.pLt)]; exact hg.c0
  have hcall := has_any _ p n _ [a, b] hc (rd_pair w a b) (by simp)
  rw [hall] at hcall
  exact hcall

theorem GraphIn.alloc {w : World} {p m q n : Nat} {L : List (Nat × Nat)} {D : List Bool} (h : GraphIn w p m q n L D) (o : Obj) : GraphIn (w.alloc o) p m q n L D :=
  h.below ((Below.refl _ _).alloc (Nat.le_refl _) _)

set_option maxHeartbeats 1000000 in
theorem gAdd_twice (w : World) (p m q n : Nat) (L : List (Nat × Nat)) (D : List Bool) (hg : GraphIn w p m q n L D) (a b : Nat) (ha : a < n) (hb : b < n) (hm : (a, b) ∈ L) :
    Calls Try.prog 19 #[.pointer (some ⟨p, 0, none⟩), .int .i64 a, .int .i64 b] w fun e w' => e = .returned (.int .i64 3) ∧ Below w.heap.size w w' := by
  have hcall := has_two w p m q n L D hg a b ha hb
  have hg1 := hg.alloc (.cells #[.int .i64 a, .int .i64 b] 3)
  have hcnt := count_any _ p m L a b hg1.c1 hg1.edges
  simp only [hm, if_true] at hcnt
  clear hg hg1 hm
  go_enter Try.func19, Try.ntmps19
  go_wp2_with (first | (go_at_call 30; refine hcall.mono ?_; rintro e w' ⟨rfl, rfl⟩) | (go_at_call 36; refine hcnt.mono ?_; rintro e w' ⟨rfl, rfl⟩))
  go_ret
  exact ⟨rfl, (Below.refl _ _).alloc (Nat.le_refl _) _⟩

set_option maxHeartbeats 1000000 in
theorem gAdd_ok (w : World) (p m q n : Nat) (L : List (Nat × Nat)) (D : List Bool) (hg : GraphIn w p m q n L D) (a b : Nat) (ha : a < n) (hb : b < n) (hm : (a, b) ∉ L) :
    Calls Try.prog 19 #[.pointer (some ⟨p, 0, none⟩), .int .i64 a, .int .i64 b] w fun e w' => e = .returned (.int .i64 0) ∧ GraphIn w' p m q n (L ++ [(a, b)]) D ∧ Grew w w' (fun k => k = m) := by
  have hcall := has_two w p m q n L D hg a b ha hb
  have hg1 := hg.alloc (.cells #[.int .i64 a, .int .i64 b] 3)
  have hcnt := count_any _ p m L a b hg1.c1 hg1.edges
  simp only [hm, if_false] at hcnt
  have hadd := add_any _ p m L a b hg1.c1 hg1.edges hg1.pm hm
  have hfin : Hid (∀ w', Turned (w.alloc (.cells #[.int .i64 a, .int .i64 b] 3)) w' m → EMap w' m (L ++ [(a, b)]) → GraphIn w' p m q n (L ++ [(a, b)]) D ∧ Grew w w' (fun k => k = m)) := by
    intro w' ht hm'
    refine ⟨hg1.edged hm' (fun k hk _ => ht.block k hk) ?_, (Grew.of_below ((Below.refl _ _).alloc (Nat.le_refl _) _)).trans (Grew.of_turned ht rfl)⟩
    intro x hx
    simp only [List.mem_append, List.mem_singleton] at hx
    rcases hx with hx | rfl
    · exact hg.lt x hx
    · exact ⟨ha, hb⟩
  clear hg hg1 hm
  go_enter Try.func19, Try.ntmps19
  go_wp2_with (first | (go_at_call 30; refine hcall.mono ?_; rintro e w' ⟨rfl, rfl⟩) | (go_at_call 36; refine hcnt.mono ?_; rintro e w' ⟨rfl, rfl⟩) | (go_at_call 37; refine hadd.mono ?_; rintro e w' ⟨rfl, hfin2, hfin3⟩))
  go_ret
  exact ⟨rfl, hfin.out _ hfin2 hfin3⟩

set_option maxHeartbeats 1000000 in
theorem gCut_no (w : World) (p m q n : Nat) (L : List (Nat × Nat)) (D : List Bool) (hg : GraphIn w p m q n L D) (a b : Int) (h : isNode n a = false ∨ isNode n b = false) :
    Calls Try.prog 21 #[.pointer (some ⟨p, 0, none⟩), .int .i64 a, .int .i64 b] w fun e w' => e = .returned (.int .i64 2) ∧ Below w.heap.size w w' := by
  have hcall := has_two_no w p m q n L D hg a b h
  clear h hg
  go_enter Try.func21, Try.ntmps21
  go_wp2_with (go_at_call 30; refine hcall.mono ?_; rintro e w' ⟨rfl, rfl⟩)
  go_ret
  exact ⟨rfl, (Below.refl _ _).alloc (Nat.le_refl _) _⟩

set_option maxHeartbeats 1000000 in
theorem gCut_none (w : World) (p m q n : Nat) (L : List (Nat × Nat)) (D : List Bool) (hg : GraphIn w p m q n L D) (a b : Nat) (ha : a < n) (hb : b < n) (hm : (a, b) ∉ L) :
    Calls Try.prog 21 #[.pointer (some ⟨p, 0, none⟩), .int .i64 a, .int .i64 b] w fun e w' => e = .returned (.int .i64 4) ∧ Below w.heap.size w w' := by
  have hcall := has_two w p m q n L D hg a b ha hb
  have hg1 := hg.alloc (.cells #[.int .i64 a, .int .i64 b] 3)
  have hcnt := count_any _ p m L a b hg1.c1 hg1.edges
  simp only [hm, if_false] at hcnt
  clear hg hg1 hm
  go_enter Try.func21, Try.ntmps21
  go_wp2_with (first | (go_at_call 30; refine hcall.mono ?_; rintro e w' ⟨rfl, rfl⟩) | (go_at_call 36; refine hcnt.mono ?_; rintro e w' ⟨rfl, rfl⟩))
  go_ret
  exact ⟨rfl, (Below.refl _ _).alloc (Nat.le_refl _) _⟩

set_option maxHeartbeats 1000000 in
theorem gCut_ok (w : World) (p m q n : Nat) (L : List (Nat × Nat)) (D : List Bool) (hg : GraphIn w p m q n L D) (a b : Nat) (ha : a < n) (hb : b < n) (hm : (a, b) ∈ L) :
    Calls Try.prog 21 #[.pointer (some ⟨p, 0, none⟩), .int .i64 a, .int .i64 b] w fun e w' => e = .returned (.int .i64 0) ∧ ∃ L', (∀ x, x ∈ L' ↔ x ∈ L ∧ x ≠ (a, b)) ∧ GraphIn w' p m q n L' D ∧ Grew w w' (fun k => k = m) := by
  have hcall := has_two w p m q n L D hg a b ha hb
  have hg1 := hg.alloc (.cells #[.int .i64 a, .int .i64 b] 3)
  have hcnt := count_any _ p m L a b hg1.c1 hg1.edges
  simp only [hm, if_true] at hcnt
  have hcut := cut_any _ p m L a b hg1.c1 hg1.edges hg1.pm hm
  have hfin : Hid (∀ w', (∃ L', (∀ x, x ∈ L' ↔ x ∈ L ∧ x ≠ (a, b)) ∧ EMap w' m L' ∧ (w.alloc (.cells #[.int .i64 a, .int .i64 b] 3)).heap.size ≤ w'.heap.size ∧ w'.os = (w.alloc (.cells #[.int .i64 a, .int .i64 b] 3)).os ∧ w'.tape = (w.alloc (.cells #[.int .i64 a, .int .i64 b] 3)).tape ∧ w'.output = (w.alloc (.cells #[.int .i64 a, .int .i64 b] 3)).output ∧ (∀ k, k ≠ m → k < (w.alloc (.cells #[.int .i64 a, .int .i64 b] 3)).heap.size → w'.heap[k]? = (w.alloc (.cells #[.int .i64 a, .int .i64 b] 3)).heap[k]?)) → ∃ L', (∀ x, x ∈ L' ↔ x ∈ L ∧ x ≠ (a, b)) ∧ GraphIn w' p m q n L' D ∧ Grew w w' (fun k => k = m)) := by
    rintro w' ⟨L', hL, hm', hs, ho, ht, hu, hbl⟩
    refine ⟨L', hL, hg1.edged hm' hbl (fun x hx => hg.lt x ((hL x).1 hx).1), (Grew.of_below ((Below.refl _ _).alloc (Nat.le_refl _) _)).trans ⟨ho, ht, hu, hs, hbl⟩⟩
  clear hg hg1 hm
  go_enter Try.func21, Try.ntmps21
  go_wp2_with (first | (go_at_call 30; refine hcall.mono ?_; rintro e w' ⟨rfl, rfl⟩) | (go_at_call 36; refine hcnt.mono ?_; rintro e w' ⟨rfl, rfl⟩) | (go_at_call 40; refine hcut.mono ?_; rintro e w' ⟨rfl, hfin2⟩))
  go_ret
  exact ⟨rfl, hfin.out _ hfin2⟩

set_option maxHeartbeats 1000000 in
theorem gEnd_no (w : World) (p m q n : Nat) (L : List (Nat × Nat)) (D : List Bool) (hg : GraphIn w p m q n L D) (a : Int) (y : Bool) (h : isNode n a = false) :
    Calls Try.prog 27 #[.pointer (some ⟨p, 0, none⟩), .int .i64 a, .bool y] w fun e w' => e = .returned (.int .i64 2) ∧ Below w.heap.size w w' := by
  have hcall := has_one_no w p m q n L D hg a h
  clear h hg
  go_enter Try.func27, Try.ntmps27
  go_wp2_with (go_at_call 30; refine hcall.mono ?_; rintro e w' ⟨rfl, rfl⟩)
  go_ret
  exact ⟨rfl, (Below.refl _ _).alloc (Nat.le_refl _) _⟩

set_option maxHeartbeats 1000000 in
theorem gEnd_ok (w : World) (p m q n : Nat) (L : List (Nat × Nat)) (D : List Bool) (hg : GraphIn w p m q n L D) (a : Nat) (y : Bool) (ha : a < n) :
    Calls Try.prog 27 #[.pointer (some ⟨p, 0, none⟩), .int .i64 a, .bool y] w fun e w' => e = .returned (.int .i64 0) ∧ GraphIn w' p m q n L (D.set a y) ∧ Grew w w' (fun k => k = q) := by
  have hcall := has_one w p m q n L D hg a ha
  have hmark := mark_any _ p m q n L D (hg.alloc (.cells #[.int .i64 a] 3)) a ha y
  have hfin : Hid (∀ w', Turned (w.alloc (.cells #[.int .i64 a] 3)) w' q → Grew w w' (fun k => k = q)) := fun w' ht => (Grew.of_below ((Below.refl _ _).alloc (Nat.le_refl _) _)).trans (Grew.of_turned ht rfl)
  clear hg
  go_enter Try.func27, Try.ntmps27
  go_wp2_with (first | (go_at_call 30; refine hcall.mono ?_; rintro e w' ⟨rfl, rfl⟩) | (go_at_call 56; refine hmark.mono ?_; rintro e w' ⟨rfl, hfin2, hfin3⟩))
  go_ret
  exact ⟨rfl, hfin2, hfin.out _ hfin3⟩

end Go.Proofs.Ytbddcodljmglfaa
