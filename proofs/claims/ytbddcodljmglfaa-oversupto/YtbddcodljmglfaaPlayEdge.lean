/- graph: an edge's list, told and held. -/
import Derived.Test.YtbddcodljmglfaaPlayGraph
set_option linter.unusedSimpArgs false
set_option linter.unusedVariables false
namespace Go.Proofs.Ytbddcodljmglfaa
open Go.RowKit

section
variable (w0 w : World) (κ : Nat → Role) (bw : Nat) (vg vr vh : Value) (G : List GSt) (N : Nat) (H : List HSt)

set_option maxRecDepth 100000 in
set_option maxHeartbeats 4000000 in
theorem graph_edge (h : PlIn w0 w κ bw vg vr vh G N H) (hGl : G.length ≤ 10000000) (hNb : N ≤ 4000000000) (hHb : H.length ≤ 4000000000) (i : Nat) (x : GSt) (hi : G[i]? = some x) (A B C : Int) (vL : Value) (y : Bool) :
    Calls Try.prog 25 #[.pointer (some ⟨bw, 0, none⟩), .int .i64 i, .agg #[.int .i64 7, .int .i64 A, .int .i64 B, .int .i64 C, vL, .bool y]] w (GraphPost w0 bw vg vr G N H) := by
  have hil : i < G.length := (List.getElem?_eq_some_iff.1 hi).1
  obtain ⟨gg, og, cg, rfl, cG, lG⟩ := h.gs.at hil (u := gptr x) (by simp [hi])
  obtain ⟨gr, or, cr, rfl, cR, lR⟩ := h.rs.at hil (u := rptr x) (by simp [hi])
  have c0 := h.c0
  have c1 := h.c1
  have hb := h.bwLt
  have HP : Hid (PlIn w0 w κ bw (.slice (some ⟨gg, og, none⟩) G.length cg) (.slice (some ⟨gr, or, none⟩) G.length cr) vh G N H) := h
  have HI : Hid (G[i]? = some x) := hi
  obtain ⟨p, m, q, g, n, L, D⟩ := x
  simp only [gptr, rptr] at cG cR
  clear h hi
  go_enter Try.func25, Try.ntmps25
  go_wp2_with fail
  have HX : Hid ((w.alloc (.cells #[.int .i64 7, .int .i64 A, .int .i64 B, .int .i64 C, vL, .bool y] 55)).heap[w.heap.size]? = some (.cells #[.int .i64 7, .int .i64 A, .int .i64 B, .int .i64 C, vL, .bool y] 55 (0, 0))) := heap_new rfl
  have HP1 : Hid (PlIn w0 (w.alloc (.cells #[.int .i64 7, .int .i64 A, .int .i64 B, .int .i64 C, vL, .bool y] 55)) κ bw (.slice (some ⟨gg, og, none⟩) G.length cg) (.slice (some ⟨gr, or, none⟩) G.length cr) vh G N H) := HP.out.below ((Below.refl _ _).alloc (Nat.le_refl _) _)
  have HKO : Hid (κ w.heap.size = .other ∧ w0.heap.size ≤ w.heap.size) := ⟨HP.out.fresh _ (Nat.le_refl _), HP.out.bel.size⟩
  generalize w.alloc (.cells #[.int .i64 7, .int .i64 A, .int .i64 B, .int .i64 C, vL, .bool y] 55) = W1 at HX HP1 ⊢
  generalize w.heap.size = bo at HX HKO ⊢
  have HGR : Hid (GraphIn W1 p m q n L D ∧ RefIn W1 g n L D) := HP1.out.gr i _ HI.out
  clear c0 c1 cG cR lG lR hb
  by_cases hno : isNode n A = false
  · have HNO : Hid (isNode n A = false) := hno
    clear hno
    refine (gEdge_no W1 p m q n L D HGR.out.1 A HNO.out).mono ?_
    rintro e w2 ⟨rfl, hB2⟩
    have HP3 : Hid (PlIn w0 w2 κ bw (.slice (some ⟨gg, og, none⟩) G.length cg) (.slice (some ⟨gr, or, none⟩) G.length cr) vh G N H) := HP1.out.below hB2
    have HR2 : Hid (RefIn w2 g n L D) := HGR.out.2.below hB2
    have HX2 : Hid (w2.heap[bo]? = some (.cells #[.int .i64 7, .int .i64 A, .int .i64 B, .int .i64 C, vL, .bool y] 55 (0, 0))) := (hB2.block _ (blk_lt HX.out)).trans HX.out
    have xa : w2.cell? ⟨bo, 1, none⟩ = some (.int .i64 A) := by simp [World.cell?, HX2.out]
    have xb : w2.cell? ⟨bo, 2, none⟩ = some (.int .i64 B) := by simp [World.cell?, HX2.out]
    have xy : w2.cell? ⟨bo, 5, none⟩ = some (.bool y) := by simp [World.cell?, HX2.out]
    clear hB2
    go_wp2_with fail
    refine (refEdge_no w2 g n L D HR2.out A HNO.out).mono ?_
    rintro e w9 ⟨rfl, h9⟩
    replace h9 := h9.symm
    subst h9
    have HV3 : Hid (OwnS w2 w0.heap.size 3 1 (.slice none 0 0) ([] : List Nat).length (nums [])) := OwnS.nil _ _ _ _
    have HU3 : Hid (RdS w2 1 (.slice none 0 0) ([] : List Nat).length (nums [])) := HV3.out.rd
    have HKV : Hid (∀ k, (Value.slice none 0 0).ownBlock = some k → κ k = .other) := fun k hk => by simp [Value.ownBlock] at hk
    clear xa xb xy
    go_wp2_with fail
    refine (sameInts_eq w2 [] _ _ HV3.out.rd HU3.out (by simp)).mono ?_
    rintro e w4 ⟨rfl, hB4⟩
    have HP4 : Hid (PlIn w0 w4 κ bw (.slice (some ⟨gg, og, none⟩) G.length cg) (.slice (some ⟨gr, or, none⟩) G.length cr) vh G N H) := HP3.out.below hB4
    have HV4 : Hid (OwnS w4 w0.heap.size 3 1 (.slice none 0 0) ([] : List Nat).length (nums [])) := HV3.out.of_block fun k hk => hB4.block _ (HV3.out.lt k hk).2
    clear hB4
    go_wp2_with fail
    refine (ints_any w0 w4 κ bw _ _ vh G N H HP4.out _ ([] : List Nat).length (nums []) HV4.out HKV.out (by simp) hNb hHb).mono ?_
    rintro e w5 ⟨rfl, κ', vh', H', hP5, hH5, -, -⟩
    have HP5 : Hid (PlIn w0 w5 κ' bw (.slice (some ⟨gg, og, none⟩) G.length cg) (.slice (some ⟨gr, or, none⟩) G.length cr) vh' G (N + 1) H') := hP5
    have HH5 : Hid (H'.length = H.length + 4) := hH5
    clear hP5 hH5
    go_wp2_with fail
    refine (num_any w5 2).mono ?_
    rintro e w9 ⟨rfl, h9⟩
    replace h9 := h9.symm
    subst h9
    go_wp2_with fail
    go_ret
    exact ⟨rfl, κ', vh', G, N + 1, H', HP5.out, SameN.refl G, by have := HH5.out; omega, by omega⟩
  · obtain ⟨a, rfl, ha⟩ := one_node hno
    clear hno
    refine (gEdge_any W1 p m q n L D HGR.out.1 a ha).mono ?_
    rintro e w2 ⟨v, x1, rfl, hans, hB2⟩
    have HA : Hid ((¬ Fwd L (-1) a ∧ v = .slice none 0 0 ∧ x1 = 5) ∨ (Fwd L (-1) a ∧ x1 = 0 ∧ EdgeList w2 W1.heap.size L n a v)) := hans
    have HP2 : Hid (PlIn w0 w2 κ bw (.slice (some ⟨gg, og, none⟩) G.length cg) (.slice (some ⟨gr, or, none⟩) G.length cr) vh G N H) := HP1.out.below hB2
    have HR2 : Hid (RefIn w2 g n L D) := HGR.out.2.below hB2
    have HX2 : Hid (w2.heap[bo]? = some (.cells #[.int .i64 7, .int .i64 (a : Int), .int .i64 B, .int .i64 C, vL, .bool y] 55 (0, 0))) := (hB2.block _ (blk_lt HX.out)).trans HX.out
    have xa : w2.cell? ⟨bo, 1, none⟩ = some (.int .i64 (a : Int)) := by simp [World.cell?, HX2.out]
    have xb : w2.cell? ⟨bo, 2, none⟩ = some (.int .i64 B) := by simp [World.cell?, HX2.out]
    have xy : w2.cell? ⟨bo, 5, none⟩ = some (.bool y) := by simp [World.cell?, HX2.out]
    clear hB2 hans
    go_wp2_with fail
    refine (refEdge_ok w2 g n L D HR2.out a ha).mono ?_
    rintro e w3 ⟨u, x2, rfl, hans2, hB3⟩
    have HP3 : Hid (PlIn w0 w3 κ bw (.slice (some ⟨gg, og, none⟩) G.length cg) (.slice (some ⟨gr, or, none⟩) G.length cr) vh G N H) := HP2.out.below hB3
    have HJ : Hid (∃ l : List Nat, x1 = x2 ∧ OwnS w3 w0.heap.size 3 1 v l.length (nums l) ∧ RdS w3 1 u l.length (nums l) ∧ (∀ k, v.ownBlock = some k → κ k = .other) ∧ l.length ≤ 40) := by
      rcases HA.out with ⟨h1, rfl, rfl⟩ | ⟨h1, rfl, qq, ho, hq⟩
      · rcases hans2 with ⟨_, rfl, rfl⟩ | ⟨h2, _⟩
        · exact ⟨[], rfl, OwnS.nil _ _ _ _, (OwnS.nil w3 w0.heap.size 3 1).rd, fun k hk => by simp [Value.ownBlock] at hk, by simp⟩
        · exact absurd h2 h1
      · rcases hans2 with ⟨h2, _⟩ | ⟨_, rfl, S, hoS, hS⟩
        · exact absurd h1 h2
        · have hsame : idxTo S 40 = upTo qq n := list_same HR2.out.le (fun y hy => (hq y hy).trans (hS y).symm) (fun y hy => onEdge_lt HR2.out.lt ((hS y).1 hy))
          rw [hsame] at hoS
          refine ⟨upTo qq n, rfl, (ho.of_block fun k hk => hB3.block _ (ho.lt k hk).2).mono HP1.out.bel.size, hoS.rd, fun k hk => HP1.out.fresh k (ho.lt k hk).1, Nat.le_trans (upTo_le qq n) HR2.out.le⟩
    obtain ⟨l, rfl, hV3, hU3, hKV, hl40'⟩ := HJ.out
    have HV3 : Hid (OwnS w3 w0.heap.size 3 1 v l.length (nums l)) := hV3
    have HU3 : Hid (RdS w3 1 u l.length (nums l)) := hU3
    have HKV : Hid (∀ k, v.ownBlock = some k → κ k = .other) := hKV
    have hl40 : l.length ≤ 1000000 := by omega
    clear hB3 hans2 HA HJ hV3 hU3 hKV xa xb xy
    go_wp2_with fail
    refine (sameInts_eq w3 l v u HV3.out.rd HU3.out hl40).mono ?_
    rintro e w4 ⟨rfl, hB4⟩
    have HP4 : Hid (PlIn w0 w4 κ bw (.slice (some ⟨gg, og, none⟩) G.length cg) (.slice (some ⟨gr, or, none⟩) G.length cr) vh G N H) := HP3.out.below hB4
    have HV4 : Hid (OwnS w4 w0.heap.size 3 1 v l.length (nums l)) := HV3.out.of_block fun k hk => hB4.block _ (HV3.out.lt k hk).2
    clear hB4
    go_wp2_with fail
    refine (ints_any w0 w4 κ bw _ _ vh G N H HP4.out v l.length (nums l) HV4.out HKV.out (by omega) hNb hHb).mono ?_
    rintro e w5 ⟨rfl, κ', vh', H', hP5, hH5, -, -⟩
    have HP5 : Hid (PlIn w0 w5 κ' bw (.slice (some ⟨gg, og, none⟩) G.length cg) (.slice (some ⟨gr, or, none⟩) G.length cr) vh' G (N + 1) H') := hP5
    have HH5 : Hid (H'.length = H.length + 4) := hH5
    clear hP5 hH5
    go_wp2_with fail
    refine (num_any w5 x1).mono ?_
    rintro e w9 ⟨rfl, h9⟩
    replace h9 := h9.symm
    subst h9
    go_wp2_with fail
    go_ret
    exact ⟨rfl, κ', vh', G, N + 1, H', HP5.out, SameN.refl G, by have := HH5.out; omega, by omega⟩
end

end Go.Proofs.Ytbddcodljmglfaa
