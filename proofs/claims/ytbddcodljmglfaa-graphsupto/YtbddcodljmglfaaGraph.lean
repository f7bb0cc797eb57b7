/- A graph in memory, and the calls that make and change it: New, Add, Cut, End, and what they call. -/
import Derived.Test.YtbddcodljmglfaaEmap
import Derived.Test.YtbddcodljmglfaaMem
import Derived.Test.YtbddcodljmglfaaListed
import Derived.Deep.RegionHeld3
import Derived.Deep.QuietTactic
import Derived.BigQuiet
set_option linter.unusedSimpArgs false
set_option linter.unusedVariables false
namespace Go.Proofs.Ytbddcodljmglfaa
open Go.RowKit

/-- Block p is a graph of n nodes: its edges are the pairs of L, its ends the places of D that hold true. -/
structure GraphIn (w : World) (p m q n : Nat) (L : List (Nat × Nat)) (D : List Bool) : Prop where
  head : w.heap[p]? = some (.cells #[.int .i64 n, .map (some m), .slice (some ⟨q, 0, none⟩) n n] 75 (0, 0))
  edges : EMap w m L
  ends : w.heap[q]? = some (.cells (bits D).toArray 4 (0, 0))
  len : D.length = n
  pos : 1 ≤ n
  le : n ≤ 40
  lt : ∀ x ∈ L, x.1 < n ∧ x.2 < n

section
variable {w w' : World} {p m q n : Nat} {L : List (Nat × Nat)} {D : List Bool}
theorem GraphIn.of_block (h : GraphIn w p m q n L D) (hp : w'.heap[p]? = w.heap[p]?) (hm : w'.heap[m]? = w.heap[m]?) (hq : w'.heap[q]? = w.heap[q]?) : GraphIn w' p m q n L D :=
  ⟨hp.trans h.head, h.edges.of_block hm, hq.trans h.ends, h.len, h.pos, h.le, h.lt⟩
theorem GraphIn.pLt (h : GraphIn w p m q n L D) : p < w.heap.size := blk_lt h.head
theorem GraphIn.mLt (h : GraphIn w p m q n L D) : m < w.heap.size := h.edges.lt
theorem GraphIn.qLt (h : GraphIn w p m q n L D) : q < w.heap.size := blk_lt h.ends
theorem GraphIn.below (h : GraphIn w p m q n L D) (hb : Below w.heap.size w w') : GraphIn w' p m q n L D :=
  h.of_block (hb.block _ h.pLt) (hb.block _ h.mLt) (hb.block _ h.qLt)
theorem GraphIn.c0 (h : GraphIn w p m q n L D) : w.cell? ⟨p, 0, none⟩ = some (.int .i64 n) := by simp [World.cell?, h.head]
theorem GraphIn.c1 (h : GraphIn w p m q n L D) : w.cell? ⟨p, 1, none⟩ = some (.map (some m)) := by simp [World.cell?, h.head]
theorem GraphIn.c2 (h : GraphIn w p m q n L D) : w.cell? ⟨p, 2, none⟩ = some (.slice (some ⟨q, 0, none⟩) n n) := by simp [World.cell?, h.head]
theorem GraphIn.rdEnds (h : GraphIn w p m q n L D) : RdS w 1 (.slice (some ⟨q, 0, none⟩) n n) D.length (bits D) := by
  refine ⟨by simp [bits], some ⟨q, 0, none⟩, n, by rw [h.len], .inr ⟨q, 0, rfl, fun j u hj => ?_⟩⟩
  simp [World.cell?, h.ends, hj]
theorem GraphIn.pm (h : GraphIn w p m q n L D) : p ≠ m := by
  obtain ⟨es, c, hb, _⟩ := h.edges
  rintro rfl
  have := h.head
  rw [hb] at this
  simp at this
theorem GraphIn.qm (h : GraphIn w p m q n L D) : q ≠ m := by
  obtain ⟨es, c, hb, _⟩ := h.edges
  rintro rfl
  have := h.ends
  rw [hb] at this
  simp at this
theorem GraphIn.pq (h : GraphIn w p m q n L D) : p ≠ q := by
  rintro rfl
  have h1 := h.head
  rw [h.ends] at h1
  simp at h1
end

theorem nodes_any (b : Nat) (n : Int) (w : World) (h : w.cell? ⟨b, 0, none⟩ = some (.int .i64 n)) :
    Calls Try.prog 59 #[.pointer (some ⟨b, 0, none⟩)] w fun e w' => e = .returned (.int .i64 n) ∧ w' = w := by
  go_enter Try.func59, Try.ntmps59
  go_wp2
  go_ret
  exact ⟨rfl, rfl⟩

theorem count_any (w : World) (p m : Nat) (L : List (Nat × Nat)) (a b : Nat) (h1 : w.cell? ⟨p, 1, none⟩ = some (.map (some m))) (hm : EMap w m L) :
    Calls Try.prog 36 #[.pointer (some ⟨p, 0, none⟩), .int .i64 a, .int .i64 b] w fun e w' => e = .returned (.int .i64 (if (a, b) ∈ L then 1 else 0)) ∧ w' = w := by
  have hrun := hm.lookup (a, b)
  unfold ekey at hrun
  clear hm
  generalize (if (a, b) ∈ L then (1 : Int) else 0) = c at hrun ⊢
  go_enter Try.func36, Try.ntmps36
  go_wp2
  go_ret
  exact ⟨rfl, rfl⟩

def isNode (n : Nat) (a : Int) : Bool := decide (0 ≤ a ∧ a < n)

theorem isNode_iff {n : Nat} {a : Int} : isNode n a = true ↔ 0 ≤ a ∧ a < n := by simp [isNode]
theorem isNode_no {n : Nat} {a : Int} : isNode n a = false ↔ a < 0 ∨ n ≤ a := by simp [isNode]; omega

set_option maxHeartbeats 1000000 in
theorem has_any (w : World) (p n : Nat) (v : Value) (zs : List Int) (h0 : w.cell? ⟨p, 0, none⟩ = some (.int .i64 n)) (hrd : RdS w 1 v zs.length (zs.map (Value.int .i64))) (hlen : zs.length ≤ 1152921504606846976) :
    Calls Try.prog 30 #[.pointer (some ⟨p, 0, none⟩), v] w fun e w' => e = .returned (.bool (zs.all (isNode n))) ∧ w' = w := by
  obtain ⟨hl, ao, cap, rfl, hr⟩ := hrd
  obtain ⟨k0, hn⟩ : ∃ n, n = zs.length := ⟨_, rfl⟩
  rw [← hn] at hr hlen ⊢
  have HN : Hid (k0 = zs.length) := hn
  clear hn hl
  go_enter Try.func30, Try.ntmps30
  go_wp2
  go_loop [9] (fun i => ∃ k : Nat, k ≤ k0 ∧ i = .int .i64 k ∧ Hid ((zs.take k).all (isNode n) = true)) (fun i => k0 - (intOf i).toNat)
  case atStart => exact ⟨0, Nat.zero_le _, rfl, by simp [Hid]⟩
  case round =>
    obtain ⟨k, hk, rfl, hall⟩ := hrel
    by_cases hlt : k < k0
    · rcases hr with hr | ⟨g, off, rfl, hr⟩
      · omega
      have hlt' : k < zs.length := HN.out ▸ hlt
      obtain ⟨z, hz⟩ : ∃ z, z = zs[k] := ⟨_, rfl⟩
      have hcell : w.cell? ⟨g, off + k, none⟩ = some (.int .i64 z) := by
        have h1 := hr k (.int .i64 z) (by simp [hlt', hz])
        exact h1
      have HZ : Hid (zs[k]? = some z) := by show zs[k]? = some z; rw [hz]; simp [hlt']
      clear hr hz hlt'
      cases hb : isNode n z
      · have HB : Hid (isNode n z = false) := hb
        have hb' := isNode_no.1 hb
        clear hb
        have hfin : Hid (zs.all (isNode n) = false) := by
          show _ = false
          have : z ∈ zs := List.mem_of_getElem? HZ.out
          simp only [List.all_eq_false]
          exact ⟨z, this, by simp [HB.out]⟩
        by_cases hz0 : z < 0
        · clear hb'
          go_wp2
          go_ret
          exact ⟨by rw [hfin.out]; rfl, rfl⟩
        · have hz1 : (n : Int) ≤ z := by omega
          clear hb'
          go_wp2_with (go_at_call 59; refine (nodes_any p n _ (by assumption)).mono ?_; rintro e w' ⟨rfl, rfl⟩)
          go_ret
          exact ⟨by rw [hfin.out]; rfl, rfl⟩
      · have HB : Hid (isNode n z = true) := hb
        have hb' := isNode_iff.1 hb
        obtain ⟨hz0, hz1⟩ := hb'
        clear hb
        go_wp2_with (go_at_call 59; refine (nodes_any p n _ (by assumption)).mono ?_; rintro e w' ⟨rfl, rfl⟩)
        go_round
        case rel => exact ⟨k + 1, by omega, by go_num, by show _ = true; rw [List.take_add_one, List.all_append, hall.out, HZ.out]; simp [HB.out]⟩
        case measure => simp [intOf]; omega
    · have : k = k0 := by omega
      subst this
      have hfin : Hid (zs.all (isNode n) = true) := by
        show _ = true
        have := hall.out
        rw [List.take_of_length_le (by have := HN.out; omega)] at this
        exact this
      go_wp2
      go_ret
      exact ⟨by rw [hfin.out]; rfl, rfl⟩

theorem Turned.below {w w' : World} {m B : Nat} (h : Turned w w' m) (hm : B ≤ m) : Below B w w' :=
  ⟨h.os, h.tape, h.output, Nat.le_of_eq h.size.symm, fun k hk => h.block k (by omega)⟩
theorem Turned.cell {w w' : World} {m : Nat} (h : Turned w w' m) {a : Addr} (ha : a.block ≠ m) : w'.cell? a = w.cell? a := World.cell?_of_block (h.block a.block ha)

theorem Turned.of_drew {w w' : World} {m : Nat} (h : Turned w.drew w' m) : Turned w w' m := ⟨h.os, h.tape, h.output, h.size, h.block⟩

set_option maxHeartbeats 1000000 in
theorem add_any (w : World) (p m : Nat) (L : List (Nat × Nat)) (a b : Nat) (h1 : w.cell? ⟨p, 1, none⟩ = some (.map (some m))) (hm : EMap w m L) (hpm : p ≠ m) (hn : (a, b) ∉ L) :
    Calls Try.prog 37 #[.pointer (some ⟨p, 0, none⟩), .int .i64 a, .int .i64 b] w fun e w' => e = .returned (.tuple #[]) ∧ Turned w w' m ∧ EMap w' m (L ++ [(a, b)]) := by
  have hmd : EMap w.drew m L := hm.of_block rfl
  have hL := hmd.lookup (a, b)
  simp only [hn, if_false] at hL
  obtain ⟨c, w1, hE, ht1, hL1, w2, hS, ht2, hm2⟩ := hmd.enter (a, b) hn
  unfold ekey at hL hE hL1
  have hc1 : w1.cell? ⟨p, 1, none⟩ = some (.map (some m)) := by rw [ht1.cell hpm]; exact h1
  have hfin : Hid (Turned w w2 m ∧ EMap w2 m (L ++ [(a, b)])) := ⟨(ht1.trans ht2).of_drew, hm2⟩
  clear hm hmd hm2 ht1 ht2 hn hpm
  go_enter Try.func37, Try.ntmps37
  go_region
  all_goals go_end0
  all_goals exact ⟨rfl, hfin.1, hfin.2⟩


set_option maxHeartbeats 1000000 in
theorem cut_any (w : World) (p m : Nat) (L : List (Nat × Nat)) (a b : Nat) (h1 : w.cell? ⟨p, 1, none⟩ = some (.map (some m))) (hm : EMap w m L) (hpm : p ≠ m) (hn : (a, b) ∈ L) :
    Calls Try.prog 40 #[.pointer (some ⟨p, 0, none⟩), .int .i64 a, .int .i64 b] w fun e w' => e = .returned (.tuple #[]) ∧ ∃ L', (∀ x, x ∈ L' ↔ x ∈ L ∧ x ≠ (a, b)) ∧ EMap w' m L' ∧ w.heap.size ≤ w'.heap.size ∧ w'.os = w.os ∧ w'.tape = w.tape ∧ w'.output = w.output ∧ (∀ k, k ≠ m → k < w.heap.size → w'.heap[k]? = w.heap[k]?) := by
  have hlt := hm.lt
  have hplt := World.block_lt_of_cell? w _ h1
  simp at hplt
  obtain ⟨wd, hwd⟩ : ∃ wd, wd = (w.alloc (.cells #[.int .i64 a, .int .i64 b] 108)) := ⟨_, rfl⟩
  have hmd : EMap wd m L := hm.of_block (by rw [hwd]; exact Below.heap_alloc _ _ _ hlt)
  have hL := (hmd.of_block (w' := wd.drew) rfl).lookup (a, b)
  simp only [hn, if_true] at hL
  obtain ⟨w1, L', hD, ht1, hm1, hmem⟩ := (hmd.of_block (w' := wd.drew.drew) rfl).strike (a, b) hn
  have hD' := hD 0
  clear hD
  unfold ekey at hL hD'
  have hc1 : wd.cell? ⟨p, 1, none⟩ = some (.map (some m)) := by rw [hwd, World.cell?_of_block (Below.heap_alloc _ _ _ hplt)]; exact h1
  have hfin : Hid (∃ L', (∀ x, x ∈ L' ↔ x ∈ L ∧ x ≠ (a, b)) ∧ EMap w1 m L' ∧ w.heap.size ≤ w1.heap.size ∧ w1.os = w.os ∧ w1.tape = w.tape ∧ w1.output = w.output ∧ (∀ k, k ≠ m → k < w.heap.size → w1.heap[k]? = w.heap[k]?)) := by
    refine ⟨L', hmem, hm1, ?_, ht1.os.trans (by rw [hwd]; rfl), ht1.tape.trans (by rw [hwd]; rfl), ht1.output.trans (by rw [hwd]; rfl), fun k hk hk' => ?_⟩
    · rw [ht1.size]
      show _ ≤ wd.heap.size
      rw [hwd]; simp
    · rw [ht1.block k hk]
      show wd.heap[k]? = _
      rw [hwd]
      exact Below.heap_alloc _ _ _ hk'
  rw [hwd] at hL hD' hc1
  clear hm hmd hm1 ht1 hn hpm hwd hmem hlt
  go_enter Try.func40, Try.ntmps40
  go_wp2
  go_region
  all_goals go_wp2
  all_goals go_region
  all_goals go_end0
  all_goals exact ⟨rfl, hfin⟩

set_option maxHeartbeats 1000000 in
theorem mark_any (w : World) (p m q n : Nat) (L : List (Nat × Nat)) (D : List Bool) (hg : GraphIn w p m q n L D) (a : Nat) (ha : a < n) (y : Bool) :
    Calls Try.prog 56 #[.pointer (some ⟨p, 0, none⟩), .int .i64 a, .bool y] w fun e w' => e = .returned (.tuple #[]) ∧ GraphIn w' p m q n L (D.set a y) ∧ Turned w w' q := by
  have c2 := hg.c2
  have hq : ∃ v, w.cell? ⟨q, a, none⟩ = some v := by
    have : a < D.length := by rw [hg.len]; exact ha
    exact ⟨_, by simp [World.cell?, hg.ends, bits, this]; rfl⟩
  obtain ⟨v, hq⟩ := hq
  have hf : w.frozen? ⟨q, a, none⟩ = false := by simp [World.frozen?, hg.ends]
  have hfin : Hid (GraphIn (w.setCell ⟨q, a, none⟩ (.bool y)) p m q n L (D.set a y) ∧ Turned w (w.setCell ⟨q, a, none⟩ (.bool y)) q) := by
    have ht : Turned w (w.setCell ⟨q, a, none⟩ (.bool y)) q := ⟨rfl, rfl, rfl, by simp [World.setCell], fun k hk => Below.heap_setCell _ _ _ _ hk⟩
    refine ⟨⟨(ht.block _ hg.pq).trans hg.head, hg.edges.of_block (ht.block _ hg.qm.symm), ?_, by simp [hg.len], hg.pos, hg.le, hg.lt⟩, ht⟩
    simp [World.setCell, Array.getElem?_modify, hg.ends, bits, List.map_set]
  clear hg
  go_enter Try.func56, Try.ntmps56
  go_wp2
  go_end0
  exact ⟨rfl, hfin⟩

end Go.Proofs.Ytbddcodljmglfaa
