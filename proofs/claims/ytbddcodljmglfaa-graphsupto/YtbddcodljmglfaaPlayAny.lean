/- graph: whatever the kind. -/
import Derived.Test.YtbddcodljmglfaaPlayMeet
set_option linter.unusedSimpArgs false
set_option linter.unusedVariables false
namespace Go.Proofs.Ytbddcodljmglfaa
open Go.RowKit

section
variable (w0 w : World) (κ : Nat → Role) (bw : Nat) (vg vr vh : Value) (G : List GSt) (N : Nat) (H : List HSt)

set_option maxRecDepth 100000 in
set_option maxHeartbeats 4000000 in
theorem graph_meets (h : PlIn w0 w κ bw vg vr vh G N H) (hGl : G.length ≤ 10000000) (i : Nat) (x : GSt) (hi : G[i]? = some x) (A B C : Int) (vL : Value) (y : Bool) (zs : List Int) (hv : RdS w 1 vL zs.length (zs.map (Value.int .i64))) (hzl : zs.length ≤ 1500000) (hNb : N ≤ 3900000000) (hHb : H.length ≤ 3900000000) :
    Calls Try.prog 25 #[.pointer (some ⟨bw, 0, none⟩), .int .i64 i, .agg #[.int .i64 8, .int .i64 A, .int .i64 B, .int .i64 C, vL, .bool y]] w (GraphPost w0 bw vg vr G N H) := by
  have hil : i < G.length := (List.getElem?_eq_some_iff.1 hi).1
  obtain ⟨gg, og, cg, rfl, cG, lG⟩ := h.gs.at hil (u := gptr x) (by simp [hi])
  obtain ⟨gr, or, cr, rfl, cR, lR⟩ := h.rs.at hil (u := rptr x) (by simp [hi])
  have c0 := h.c0
  have c1 := h.c1
  have hb := h.bwLt
  have HP : Hid (PlIn w0 w κ bw (.slice (some ⟨gg, og, none⟩) G.length cg) (.slice (some ⟨gr, or, none⟩) G.length cr) vh G N H) := h
  have HI : Hid (G[i]? = some x) := hi
  obtain ⟨p, m, q, g, n, L, D⟩ := x
  simp only [gptr, rptr] at cG cR
  clear h hi
  go_enter Try.func25, Try.ntmps25
  go_wp2_with fail
  have HV1 : Hid (RdS (w.alloc (.cells #[.int .i64 8, .int .i64 A, .int .i64 B, .int .i64 C, vL, .bool y] 55)) 1 vL zs.length (zs.map (Value.int .i64))) := hv.below ((Below.refl _ _).alloc (Nat.le_refl _) _)
  have HX : Hid ((w.alloc (.cells #[.int .i64 8, .int .i64 A, .int .i64 B, .int .i64 C, vL, .bool y] 55)).heap[w.heap.size]? = some (.cells #[.int .i64 8, .int .i64 A, .int .i64 B, .int .i64 C, vL, .bool y] 55 (0, 0))) := heap_new rfl
  have HP1 : Hid (PlIn w0 (w.alloc (.cells #[.int .i64 8, .int .i64 A, .int .i64 B, .int .i64 C, vL, .bool y] 55)) κ bw (.slice (some ⟨gg, og, none⟩) G.length cg) (.slice (some ⟨gr, or, none⟩) G.length cr) vh G N H) := HP.out.below ((Below.refl _ _).alloc (Nat.le_refl _) _)
  have HKO : Hid (κ w.heap.size = .other ∧ w0.heap.size ≤ w.heap.size) := ⟨HP.out.fresh _ (Nat.le_refl _), HP.out.bel.size⟩
  generalize w.alloc (.cells #[.int .i64 8, .int .i64 A, .int .i64 B, .int .i64 C, vL, .bool y] 55) = W1 at HX HP1 HV1 ⊢
  generalize w.heap.size = bo at HX HKO ⊢
  have HGR : Hid (GraphIn W1 p m q n L D ∧ RefIn W1 g n L D) := HP1.out.gr i _ HI.out
  clear c0 c1 cG cR lG lR hb
  refine (meets_play w0 W1 κ bw _ _ vh G N H HP1.out hNb hHb i p m q g n L D HI.out vL zs HV1.out hzl).mono ?_
  rintro e w2 ⟨rfl, hfin⟩
  have HF : Hid (∃ κ' vh' G' N' H', PlIn w0 w2 κ' bw (.slice (some ⟨gg, og, none⟩) G.length cg) (.slice (some ⟨gr, or, none⟩) G.length cr) vh' G' N' H' ∧ SameN G G' ∧ H'.length ≤ H.length + 8 ∧ N' ≤ N + 2) := hfin
  clear hfin
  go_wp2_with fail
  go_ret
  exact ⟨rfl, HF.out⟩

set_option maxRecDepth 100000 in
set_option maxHeartbeats 4000000 in
theorem graph_other (h : PlIn w0 w κ bw vg vr vh G N H) (hGl : G.length ≤ 10000000) (i : Nat) (x : GSt) (hi : G[i]? = some x) (kd : Int) (hk : kd ≠ 2 ∧ kd ≠ 3 ∧ kd ≠ 4 ∧ kd ≠ 5 ∧ kd ≠ 6 ∧ kd ≠ 7 ∧ kd ≠ 8 ∧ kd ≠ 9 ∧ kd ≠ 10) (A B C : Int) (vL : Value) (y : Bool) :
    Calls Try.prog 25 #[.pointer (some ⟨bw, 0, none⟩), .int .i64 i, .agg #[.int .i64 kd, .int .i64 A, .int .i64 B, .int .i64 C, vL, .bool y]] w (GraphPost w0 bw vg vr G N H) := by
  have hil : i < G.length := (List.getElem?_eq_some_iff.1 hi).1
  obtain ⟨gg, og, cg, rfl, cG, lG⟩ := h.gs.at hil (u := gptr x) (by simp [hi])
  obtain ⟨gr, or, cr, rfl, cR, lR⟩ := h.rs.at hil (u := rptr x) (by simp [hi])
  have c0 := h.c0
  have c1 := h.c1
  have hb := h.bwLt
  have HP : Hid (PlIn w0 w κ bw (.slice (some ⟨gg, og, none⟩) G.length cg) (.slice (some ⟨gr, or, none⟩) G.length cr) vh G N H) := h
  have HI : Hid (G[i]? = some x) := hi
  obtain ⟨p, m, q, g, n, L, D⟩ := x
  simp only [gptr, rptr] at cG cR
  have q2 : (kd == 2) = false := by rw [beq_eq_false_iff_ne]; omega
  have r2 : ¬ kd = 2 := by omega
  have q3 : (kd == 3) = false := by rw [beq_eq_false_iff_ne]; omega
  have r3 : ¬ kd = 3 := by omega
  have q4 : (kd == 4) = false := by rw [beq_eq_false_iff_ne]; omega
  have r4 : ¬ kd = 4 := by omega
  have q5 : (kd == 5) = false := by rw [beq_eq_false_iff_ne]; omega
  have r5 : ¬ kd = 5 := by omega
  have q6 : (kd == 6) = false := by rw [beq_eq_false_iff_ne]; omega
  have r6 : ¬ kd = 6 := by omega
  have q7 : (kd == 7) = false := by rw [beq_eq_false_iff_ne]; omega
  have r7 : ¬ kd = 7 := by omega
  have q8 : (kd == 8) = false := by rw [beq_eq_false_iff_ne]; omega
  have r8 : ¬ kd = 8 := by omega
  have q9 : (kd == 9) = false := by rw [beq_eq_false_iff_ne]; omega
  have r9 : ¬ kd = 9 := by omega
  have q10 : (kd == 10) = false := by rw [beq_eq_false_iff_ne]; omega
  have r10 : ¬ kd = 10 := by omega
  clear h hi hk
  go_enter Try.func25, Try.ntmps25
  have HP1 : Hid (PlIn w0 (w.alloc (.cells #[.int .i64 kd, .int .i64 A, .int .i64 B, .int .i64 C, vL, .bool y] 55)) κ bw (.slice (some ⟨gg, og, none⟩) G.length cg) (.slice (some ⟨gr, or, none⟩) G.length cr) vh G N H) := HP.out.below ((Below.refl _ _).alloc (Nat.le_refl _) _)
  go_wp2_with fail
  go_ret
  exact ⟨rfl, κ, vh, G, N, H, HP1.out, SameN.refl G, by omega, by omega⟩

theorem graph_any (h : PlIn w0 w κ bw vg vr vh G N H) (hGl : G.length ≤ 10000000) (hNb : N ≤ 3900000000) (hHb : H.length ≤ 3900000000) (i : Nat) (x : GSt) (hi : G[i]? = some x) (kd A B C : Int) (vL : Value) (y : Bool) (zs : List Int) (hv : RdS w 1 vL zs.length (zs.map (Value.int .i64))) (hzl : zs.length ≤ 1500000) :
    Calls Try.prog 25 #[.pointer (some ⟨bw, 0, none⟩), .int .i64 i, .agg #[.int .i64 kd, .int .i64 A, .int .i64 B, .int .i64 C, vL, .bool y]] w (GraphPost w0 bw vg vr G N H) := by
  by_cases h2 : kd = 2
  · subst h2; exact graph_add w0 w κ bw vg vr vh G N H h hGl i x hi A B C vL y
  by_cases h3 : kd = 3
  · subst h3; exact graph_cut w0 w κ bw vg vr vh G N H h hGl i x hi A B C vL y
  by_cases h4 : kd = 4
  · subst h4; exact graph_end w0 w κ bw vg vr vh G N H h hGl i x hi A B C vL y
  by_cases h5 : kd = 5
  · subst h5; exact graph_over w0 w κ bw vg vr vh G N H h hGl i x hi A B C vL y
  by_cases h6 : kd = 6
  · subst h6; exact graph_last w0 w κ bw vg vr vh G N H h hGl i x hi A B C vL y
  by_cases h9 : kd = 9
  · subst h9; exact graph_under w0 w κ bw vg vr vh G N H h hGl i x hi A B C vL y
  by_cases h10 : kd = 10
  · subst h10; exact graph_next w0 w κ bw vg vr vh G N H h hGl i x hi A B C vL y
  by_cases h7 : kd = 7
  · subst h7; exact graph_edge w0 w κ bw vg vr vh G N H h hGl (by omega) (by omega) i x hi A B C vL y
  by_cases h8 : kd = 8
  · subst h8; exact graph_meets w0 w κ bw vg vr vh G N H h hGl i x hi A B C vL y zs hv hzl hNb hHb
  exact graph_other w0 w κ bw vg vr vh G N H h hGl i x hi kd ⟨h2, h3, h4, h5, h6, h7, h8, h9, h10⟩ A B C vL y
end

end Go.Proofs.Ytbddcodljmglfaa
