/- sameInts, num, pick, dry of the statements' own package. -/
import Derived.Test.YtbddcodljmglfaaPlay
import Derived.Deep.LoopGhost
set_option linter.unusedSimpArgs false
set_option linter.unusedVariables false
namespace Go.Proofs.Ytbddcodljmglfaa
open Go.RowKit

theorem below_quiet {B : Nat} {w wr : World} (h : Below B w wr) (n : Nat) : Below B w (wr.drewN n) := below_drewN h n

set_option maxRecDepth 100000 in
set_option maxHeartbeats 1000000 in
theorem sameInts_eq (w : World) (l : List Nat) (v u : Value) (hv : RdS w 1 v l.length (nums l)) (hu : RdS w 1 u l.length (nums l)) (hl : l.length ≤ 1000000) :
    Calls Try.prog 52 #[v, u] w fun e w' => e = .returned (.bool true) ∧ Below w.heap.size w w' := by
  obtain ⟨-, ao, cp, rfl, hr⟩ := hv
  obtain ⟨-, bo, dp, rfl, hs⟩ := hu
  obtain ⟨N, hN⟩ : ∃ N, N = l.length := ⟨_, rfl⟩
  have HN : Hid (N = l.length) := hN
  rw [← hN] at hr hs hl ⊢
  clear hN
  go_enter Try.func52, Try.ntmps52
  go_wp2_with fail
  go_loopg [5] N (fun g s5 wr => ∃ k : Nat, k + g = N ∧ s5 = .int .i64 k ∧ Hid (Below w.heap.size w wr))
  case atStart => exact ⟨0, by omega, rfl, Below.refl _ _⟩
  case round =>
    obtain ⟨k, hkg, rfl, hbel⟩ := hrel
    by_cases hlt : k < N
    · rcases hr with hr | ⟨g1, off1, rfl, hr⟩
      · omega
      rcases hs with hs | ⟨g2, off2, rfl, hs⟩
      · omega
      have hlt' : k < l.length := HN.out ▸ hlt
      have d1 := hr _ _ (nums_get hlt')
      have d2 := hs _ _ (nums_get hlt')
      have c1 : wr.cell? ⟨g1, off1 + k, none⟩ = some (.int .i64 ((l[k] : Nat) : Int)) := by rw [hbel.out.cell (World.block_lt_of_cell? w _ d1)]; exact d1
      have c2 : wr.cell? ⟨g2, off2 + k, none⟩ = some (.int .i64 ((l[k] : Nat) : Int)) := by rw [hbel.out.cell (World.block_lt_of_cell? w _ d2)]; exact d2
      generalize l[k] = x at c1 c2
      clear hr hs d1 d2 hlt'
      go_wp2_with fail
      go_quiet (fail)
      go_wp2_with fail
      go_roundg (N - (k + 1))
      case measure => omega
      case rel => exact ⟨k + 1, by omega, by go_num, below_quiet hbel.out _⟩
    · go_wp2_with fail
      go_ret
      exact ⟨rfl, hbel.out⟩

theorem num_any (w : World) (x : Int) : Calls Try.prog 42 #[.int .i64 x] w fun e w' => e = .returned (.int .i64 x) ∧ w' = w := by
  go_enter Try.func42, Try.ntmps42
  go_wp2
  go_ret
  exact ⟨rfl, rfl⟩

theorem lawPick_any (c : Int) (n : Nat) (w : World) (h1 : -9223372036854775808 ≤ c) (h2 : c ≤ 9223372036854775807) (hn : 0 < n) (hn2 : n ≤ 100000000) :
    Calls Try.prog 43 #[.int .i64 c, .int .i64 n] w fun e w' => e = .returned (.int .i64 (pickN c n)) ∧ w' = w := by
  have hn' : (0 : Int) < (n : Int) := by omega
  have hn3 : (n : Int) ≤ 100000000 := by omega
  by_cases hc : c < 0
  · have e : Hid ((-(c + 1)).tmod (n : Int) = (pickN c n : Int)) := by
      show _ = _
      have h3 := Int.emod_nonneg (-(c + 1)) (show (n : Int) ≠ 0 by omega)
      rw [pickN, if_pos hc, Int.tmod_eq_emod_of_nonneg (by omega)]
      omega
    go_enter Try.func43, Try.ntmps43
    go_wp2
    go_ret
    exact ⟨ret_int (by simpa using e.out), rfl⟩
  · have e : Hid (c.tmod (n : Int) = (pickN c n : Int)) := by
      show _ = _
      have h3 := Int.emod_nonneg c (show (n : Int) ≠ 0 by omega)
      rw [pickN, if_neg hc, Int.tmod_eq_emod_of_nonneg (by omega)]
      omega
    have hc' : 0 ≤ c := by omega
    go_enter Try.func43, Try.ntmps43
    go_wp2
    go_ret
    refine ⟨ret_int ?_, rfl⟩
    have := e.out
    rw [Int.tmod_eq_emod_of_nonneg (by omega)] at this
    simpa [Int.tmod_eq_emod_of_nonneg hc'] using this

theorem marks_get {n j : Nat} {m : Int} (h : j < n) : (marks n m)[j]? = some (.int .i64 m) := by simp [marks, h]

set_option maxRecDepth 100000 in
set_option maxHeartbeats 2000000 in
theorem dry_any (w0 w : World) (κ : Nat → Role) (bw : Nat) (vg vr vh : Value) (G : List GSt) (N : Nat) (H : List HSt) (h : PlIn w0 w κ bw vg vr vh G N H) (hH : H.length ≤ 4000000000) :
    Calls Try.prog 24 #[.pointer (some ⟨bw, 2, none⟩)] w fun e w' => e = .returned (.bool true) ∧ Below w.heap.size w w' := by
  have HP : Hid (PlIn w0 w κ bw vg vr vh G N H) := h
  obtain ⟨hl, ao, cp, rfl, hr⟩ := h.hs.rd
  have hc := h.c3
  obtain ⟨M, hM⟩ : ∃ M, M = H.length := ⟨_, rfl⟩
  have HM : Hid (M = H.length) := hM
  rw [← hM] at hr hc hH
  clear h hl hM
  go_enter Try.func24, Try.ntmps24
  go_wp2_with fail
  go_loopg [3] M (fun g s3 wr => ∃ k : Nat, k + g = M ∧ s3 = .int .i64 k ∧ Hid (Below w.heap.size w wr))
  case atStart => exact ⟨0, by omega, rfl, Below.refl _ _⟩
  case round =>
    obtain ⟨k, hkg, rfl, hbel⟩ := hrel
    have c3 : wr.cell? ⟨bw, 3, none⟩ = some (.slice ao M cp) := by rw [hbel.out.cell (World.block_lt_of_cell? w _ hc)]; exact hc
    by_cases hlt : k < M
    · rcases hr with hr | ⟨g, off, rfl, hr⟩
      · omega
      have hlt' : k < H.length := HM.out ▸ hlt
      obtain ⟨h0, h1⟩ := hcells_get H k hlt'
      have d0 := hr _ _ h0
      have d1 := hr _ _ h1
      rw [← Nat.add_assoc] at d1
      have c0 : wr.cell? ⟨g, off + k * 2, none⟩ = some H[k].v := by rw [hbel.out.cell (World.block_lt_of_cell? w _ d0)]; exact d0
      have c1 : wr.cell? ⟨g, off + k * 2 + 1, none⟩ = some (.int .i64 H[k].mark) := by rw [hbel.out.cell (World.block_lt_of_cell? w _ d1)]; exact d1
      obtain ⟨r1, r2, -⟩ := HP.out.lists H[k] (List.getElem_mem hlt')
      generalize H[k] = e at c0 c1 r1 r2
      obtain ⟨v, len, mark⟩ := e
      simp only at c0 c1 r1 r2
      obtain ⟨-, ao2, cp2, rfl, hr2⟩ := r1
      clear d0 d1 h0 h1 hlt'
      go_wp2_with fail
      clear c0 c1 c3
      have HB1 : Hid (Below w.heap.size w (wr.alloc (.cells #[.slice ao2 len cp2, .int .i64 mark] 86))) := hbel.out.alloc hbel.out.size _
      have HX1 : Hid ((wr.alloc (.cells #[.slice ao2 len cp2, .int .i64 mark] 86)).heap[wr.heap.size]? = some (.cells #[.slice ao2 len cp2, .int .i64 mark] 86 (0, 0))) := heap_new rfl
      generalize wr.heap.size = bx at HX1
      go_loopg [5] len (fun g2 s5 wy => ∃ j : Nat, j + g2 = len ∧ s5 = .int .i64 j ∧ Hid (Below w.heap.size w wy) ∧ Hid (wy.heap[bx]? = some (.cells #[.slice ao2 len cp2, .int .i64 mark] 86 (0, 0))))
      case atStart => exact ⟨0, by omega, rfl, HB1, HX1⟩
      case round =>
        clear hbel HB1 HX1
        obtain ⟨j, hjg, rfl, hbel, hX⟩ := hrel
        have x0 : wr.cell? ⟨bx, 0, none⟩ = some (.slice ao2 len cp2) := by simp [World.cell?, hX.out]
        have x1 : wr.cell? ⟨bx, 1, none⟩ = some (.int .i64 mark) := by simp [World.cell?, hX.out]
        by_cases hjl : j < len
        · rcases hr2 with hr2 | ⟨g2, off2, rfl, hr2⟩
          · omega
          have d2 := hr2 j _ (marks_get hjl)
          have c2 : wr.cell? ⟨g2, off2 + j, none⟩ = some (.int .i64 mark) := by rw [hbel.out.cell (World.block_lt_of_cell? w _ d2)]; exact d2
          clear d2
          go_wp2_with fail
          go_quiet (fail)
          go_wp2_with fail
          go_roundg (len - (j + 1))
          case measure => omega
          case rel => exact ⟨j + 1, by omega, by go_num, below_quiet hbel.out _, hX.out⟩
        · go_wp2_with fail
          go_roundg (M - (k + 1))
          case measure => omega
          case rel => exact ⟨k + 1, by omega, by go_num, hbel⟩
    · go_wp2_with fail
      go_ret
      exact ⟨rfl, hbel.out⟩

end Go.Proofs.Ytbddcodljmglfaa
