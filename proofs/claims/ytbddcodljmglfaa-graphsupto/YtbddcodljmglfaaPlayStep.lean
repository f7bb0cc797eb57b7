/- step: one step of a script. -/
import Derived.Test.YtbddcodljmglfaaPlayAny
import Derived.Deep.RegionWith
set_option linter.unusedSimpArgs false
set_option linter.unusedVariables false
namespace Go.Proofs.Ytbddcodljmglfaa
open Go.RowKit

section
variable (w0 w : World) (κ : Nat → Role) (bw : Nat) (vg vr vh : Value) (G : List GSt) (N : Nat) (H : List HSt)

def StepPost (w0 : World) (bw : Nat) (G : List GSt) (N : Nat) (H : List HSt) (e : Ending) (w' : World) : Prop :=
  e = .returned (.bool true) ∧ ∃ κ' vg' vr' vh' G' N' H', PlIn w0 w' κ' bw vg' vr' vh' G' N' H' ∧ G.length ≤ G'.length ∧ G'.length ≤ G.length + 1 ∧ H'.length ≤ H.length + 8 ∧ N' ≤ N + 2

set_option maxRecDepth 100000 in
set_option maxHeartbeats 4000000 in
theorem step_any (h : PlIn w0 w κ bw vg vr vh G N H) (hGl : G.length ≤ 5000000) (hNb : N ≤ 3900000000) (hHb : H.length ≤ 3900000000) (kd A B C : Int) (hC : fits C) (vL : Value) (y : Bool) (zs : List Int) (hv : RdS w 1 vL zs.length (zs.map (Value.int .i64))) (hzl : zs.length ≤ 1500000) :
    Calls Try.prog 23 #[.pointer (some ⟨bw, 0, none⟩), .agg #[.int .i64 kd, .int .i64 A, .int .i64 B, .int .i64 C, vL, .bool y]] w (StepPost w0 bw G N H) := by
  have HP : Hid (PlIn w0 w κ bw vg vr vh G N H) := h
  have HP1 : Hid (PlIn w0 (w.alloc (.cells #[.int .i64 kd, .int .i64 A, .int .i64 B, .int .i64 C, vL, .bool y] 55)) κ bw vg vr vh G N H) := HP.out.below ((Below.refl _ _).alloc (Nat.le_refl _) _)
  have HV1 : Hid (RdS (w.alloc (.cells #[.int .i64 kd, .int .i64 A, .int .i64 B, .int .i64 C, vL, .bool y] 55)) 1 vL zs.length (zs.map (Value.int .i64))) := hv.below ((Below.refl _ _).alloc (Nat.le_refl _) _)
  have c0 := h.c0
  have hb := h.bwLt
  obtain ⟨ao, cp, rfl⟩ := h.gs.len
  clear h hv
  by_cases hk : kd = 1
  · subst hk
    clear c0
    go_enter Try.func23, Try.ntmps23
    go_wp2_with fail
    refine (news_any w0 _ κ bw _ vr vh G N H HP1.out A (by omega)).mono ?_
    rintro e w2 ⟨rfl, κ', vg', vr', G', hP, hG1, hG2, -⟩
    have HF : Hid (∃ κ' vg' vr' vh' G' N' H', PlIn w0 w2 κ' bw vg' vr' vh' G' N' H' ∧ G.length ≤ G'.length ∧ G'.length ≤ G.length + 1 ∧ H'.length ≤ H.length + 8 ∧ N' ≤ N + 2) := ⟨κ', vg', vr', vh, G', N, H, hP, hG1, hG2, by omega, by omega⟩
    clear hP hG1 hG2
    go_wp2_with fail
    go_ret
    exact ⟨rfl, HF.out⟩
  · have q1 : (kd == 1) = false := by rw [beq_eq_false_iff_ne]; exact hk
    by_cases hG0 : G.length = 0
    · have HF : Hid (∃ κ' vg' vr' vh' G' N' H', PlIn w0 (w.alloc (.cells #[.int .i64 kd, .int .i64 A, .int .i64 B, .int .i64 C, vL, .bool y] 55)) κ' bw vg' vr' vh' G' N' H' ∧ G.length ≤ G'.length ∧ G'.length ≤ G.length + 1 ∧ H'.length ≤ H.length + 8 ∧ N' ≤ N + 2) := ⟨κ, _, vr, vh, G, N, H, HP1.out, Nat.le_refl _, by omega, by omega, by omega⟩
      rw [hG0] at c0
      clear HP1 HP
      go_enter Try.func23, Try.ntmps23
      go_wp2_with fail
      go_ret
      exact ⟨rfl, HF.out⟩
    · obtain ⟨K, hK⟩ : ∃ K, G.length = K + 1 := ⟨G.length - 1, by omega⟩
      have HK : Hid (G.length = K + 1) := hK
      have hpk := pickN_lt C (show 0 < K + 1 by omega)
      obtain ⟨x, hx⟩ : ∃ x, G[pickN C (K + 1)]? = some x := ⟨_, List.getElem?_eq_getElem (by omega)⟩
      have HXX : Hid (G[pickN C (K + 1)]? = some x) := hx
      have hKb : K ≤ 5000000 := by omega
      rw [hK] at c0
      clear hK hG0 hx
      go_enter Try.func23, Try.ntmps23
      go_wp2_with fail
      have x0 : (w.alloc (.cells #[.int .i64 kd, .int .i64 A, .int .i64 B, .int .i64 C, vL, .bool y] 55)).heap[w.heap.size]? = some (.cells #[.int .i64 kd, .int .i64 A, .int .i64 B, .int .i64 C, vL, .bool y] 55 (0, 0)) := heap_new rfl
      have c0' : (w.alloc (.cells #[.int .i64 kd, .int .i64 A, .int .i64 B, .int .i64 C, vL, .bool y] 55)).cell? ⟨bw, 0, none⟩ = some (.slice ao (K + 1) cp) := by rw [World.cell?_alloc_lt _ _ _ hb]; exact c0
      generalize w.alloc (.cells #[.int .i64 kd, .int .i64 A, .int .i64 B, .int .i64 C, vL, .bool y] 55) = W1 at HP1 HV1 x0 c0' ⊢
      generalize w.heap.size = bo at x0 ⊢
      have y0 : W1.cell? ⟨bo, 0, none⟩ = some (.int .i64 kd) := by simp [World.cell?, x0]
      have y1 : W1.cell? ⟨bo, 1, none⟩ = some (.int .i64 A) := by simp [World.cell?, x0]
      have y2 : W1.cell? ⟨bo, 2, none⟩ = some (.int .i64 B) := by simp [World.cell?, x0]
      have y3 : W1.cell? ⟨bo, 3, none⟩ = some (.int .i64 C) := by simp [World.cell?, x0]
      have y4 : W1.cell? ⟨bo, 4, none⟩ = some vL := by simp [World.cell?, x0]
      have y5 : W1.cell? ⟨bo, 5, none⟩ = some (.bool y) := by simp [World.cell?, x0]
      clear x0 c0
      have HCALL : Hid (∀ W, W.heap = W1.heap → W.os = W1.os → W.tape = W1.tape → W.output = W1.output → Calls Try.prog 25 #[.pointer (some ⟨bw, 0, none⟩), .int .i64 (pickN C (K + 1) : Int), .agg #[.int .i64 kd, .int .i64 A, .int .i64 B, .int .i64 C, vL, .bool y]] W (StepPost w0 bw G N H)) := by
        intro W e1 e2 e3 e4
        have hbw : Below W1.heap.size W1 W := ⟨e2, e3, e4, by rw [e1]; exact Nat.le_refl _, fun k _ => by rw [e1]⟩
        refine (graph_any w0 W κ bw _ vr vh G N H (HP1.out.below hbw) (by omega) hNb hHb _ x HXX.out kd A B C vL y zs (HV1.out.below hbw) hzl).mono ?_
        rintro e w2 ⟨rfl, κ', vh', G', N', H', hP, hS, hH, hN⟩
        exact ⟨rfl, κ', _, vr, vh', G', N', H', hP, by have := hS.1; omega, by have := hS.1; omega, hH, hN⟩
      have HPK : Hid (∀ W, Calls Try.prog 43 #[.int .i64 C, .int .i64 ((K : Int) + 1)] W fun e w' => e = .returned (.int .i64 (pickN C (K + 1))) ∧ w' = W) := by
        intro W
        have := lawPick_any C (K + 1) W hC.1 hC.2 (by omega) (by omega)
        simpa using this
      generalize pickN C (K + 1) = pk at HCALL HPK
      clear HP1 HV1 HP HXX hpk
      go_region_with (first | (go_at_call 43; refine (HPK.out _).mono ?_; rintro e w9 ⟨rfl, rfl⟩) | (go_at_call 25; refine (HCALL.out _ (by rfl) (by rfl) (by rfl) (by rfl)).mono ?_; rintro e w5 ⟨rfl, hfin⟩))
      all_goals
        have HF : Hid _ := hfin
        clear hfin
        go_wp2_with fail
        go_ret
        exact ⟨rfl, HF.out⟩
end

end Go.Proofs.Ytbddcodljmglfaa
