/- among: does a list have a number; next: an edge out of a node. -/
import Derived.Test.YtbddcodljmglfaaWebMake
import Derived.Test.YtbddcodljmglfaaDom
set_option linter.unusedSimpArgs false
set_option linter.unusedVariables false
namespace Go.Proofs.Ytbddcodljmglfaa
open Go.RowKit

set_option maxRecDepth 100000 in
set_option maxHeartbeats 1000000 in
theorem among_any (w : World) (l : List Nat) (v : Value) (hrd : RdS w 1 v l.length (nums l)) (hlen : l.length ≤ 17592186044100) (x : Nat) :
    Calls Try.prog 12 #[v, .int .i64 x] w fun e w' => e = .returned (.bool (decide (x ∈ l))) ∧ w' = w := by
  obtain ⟨hl, ao, cap, rfl, hr⟩ := hrd
  obtain ⟨N, hn⟩ : ∃ N, N = l.length := ⟨_, rfl⟩
  rw [← hn] at hr hlen ⊢
  have HN : Hid (N = l.length) := hn
  clear hn hl
  go_enter Try.func12, Try.ntmps12
  go_wp2
  go_loopg [5] N (fun g i wx => ∃ k : Nat, k + g = N ∧ i = .int .i64 k ∧ wx = w ∧ Hid (x ∉ l.take k))
  case atStart => exact ⟨0, by omega, rfl, rfl, by simp [Hid]⟩
  case round =>
    obtain ⟨k, hkg, rfl, rfl, hno⟩ := hrel
    by_cases hlt : k < N
    · rcases hr with hr | ⟨g, off, rfl, hr⟩
      · omega
      have hlt' : k < l.length := HN.out ▸ hlt
      have c0 := hr _ _ (nums_get hlt')
      have HE : Hid (l[k]? = some l[k]) := by show _ = _; simp [hlt']
      have HT : Hid (l.take (k + 1) = l.take k ++ [l[k]]) := by show _ = _; rw [List.take_add_one, List.getElem?_eq_getElem hlt']; rfl
      generalize l[k] = e0 at c0 HE HT
      clear hr hlt'
      by_cases hx : e0 = x
      · subst hx
        have hfin : Hid (decide (e0 ∈ l) = true) := by show _ = _; simp; exact List.mem_of_getElem? HE.out
        go_wp2
        go_ret
        exact ⟨by rw [hfin.out]; rfl, rfl⟩
      · have hx1 : ((e0 : Int) == (x : Int)) = false := by simp; omega
        have hx2 : ¬ (e0 : Int) = (x : Int) := by omega
        go_wp2
        go_roundg (N - (k + 1))
        case measure => omega
        case rel => exact ⟨k + 1, by omega, by go_num, rfl, by show _ ∉ _; rw [HT.out]; simp only [List.mem_append, List.mem_singleton, not_or]; exact ⟨hno.out, fun h => hx h.symm⟩⟩
    · have hk : k = N := by omega
      subst hk
      have hfin : Hid (decide (x ∈ l) = false) := by
        show _ = _
        have := hno.out
        rw [List.take_of_length_le (by have := HN.out; omega)] at this
        simp [this]
      go_wp2
      go_ret
      exact ⟨by rw [hfin.out]; rfl, rfl⟩

set_option maxRecDepth 100000 in
set_option maxHeartbeats 2000000 in
theorem webNext_any (w : World) (b : Nat) (E : List (Nat × Nat)) (v : Value) (hc : w.cell? ⟨b, 2, none⟩ = some v) (hrd : RdS w 2 v E.length (pcells E)) (hlen : E.length ≤ 1000000) (x : Nat) (c : Int) (hfc : fits c) :
    Calls Try.prog 10 #[.pointer (some ⟨b, 0, none⟩), .int .i64 x, .int .i64 c] w fun e w' => (e = .returned (.int .i64 (-1)) ∨ ∃ y : Nat, e = .returned (.int .i64 y) ∧ (x, y) ∈ E) ∧ Below w.heap.size w w' := by
  obtain ⟨hl, ao, cap, rfl, hr⟩ := hrd
  obtain ⟨N, hn⟩ : ∃ N, N = E.length := ⟨_, rfl⟩
  rw [← hn] at hr hlen hc
  have HN : Hid (N = E.length) := hn
  have hbw := World.block_lt_of_cell? w _ hc
  clear hn hl
  go_enter Try.func10, Try.ntmps10
  go_wp2
  go_loopg [7, 8] N (fun g s7 i wr => ∃ (k : Nat) (l : List Nat), k + g = N ∧ i = .int .i64 k ∧ Hid (OwnS wr w.heap.size 3 1 s7 l.length (nums l)) ∧ Hid (∀ y ∈ l, (x, y) ∈ E) ∧ l.length ≤ k ∧ Hid (Below w.heap.size w wr))
  case atStart => exact ⟨0, [], by omega, rfl, OwnS.nil _ _ _ _, by simp [Hid], by simp, Below.refl _ _⟩
  case round =>
    obtain ⟨k, l, hkg, rfl, hown, hmem, hlk, hbel⟩ := hrel
    have hc' : wr.cell? ⟨b, 2, none⟩ = some (.slice ao N cap) := by rw [hbel.out.cell hbw]; exact hc
    obtain ⟨ao7, cp7, rfl⟩ := hown.out.len
    by_cases hlt : k < N
    · rcases hr with hr | ⟨g, off, rfl, hr⟩
      · omega
      have hlt' : k < E.length := HN.out ▸ hlt
      obtain ⟨h0, h1⟩ := pcells_get E k hlt'
      have d0 := hr _ _ h0
      have d1 := hr _ _ h1
      rw [← Nat.add_assoc] at d1
      have c0 : wr.cell? ⟨g, off + k * 2, none⟩ = some (.int .i64 (E[k].1 : Int)) := by rw [hbel.out.cell (World.block_lt_of_cell? w _ d0)]; exact d0
      have c1 : wr.cell? ⟨g, off + k * 2 + 1, none⟩ = some (.int .i64 (E[k].2 : Int)) := by rw [hbel.out.cell (World.block_lt_of_cell? w _ d1)]; exact d1
      have HE : Hid ((E[k].1, E[k].2) ∈ E) := List.getElem_mem hlt'
      generalize E[k].1 = e0 at c0 HE
      generalize E[k].2 = e1 at c1 HE
      clear hr d0 d1 h0 h1 hlt' hc
      by_cases hx : e0 = x
      · subst hx
        obtain ⟨i0, hi, hz0, hz1, hz2⟩ := info_parts infoInt
        have hs := hbel.out.size
        go_wp2_with (first | (at_builtin; refine wpList_append_ownS _ rfl _ _ 26 rfl w.heap.size 3 i0 (.int .i64 0) 1 8 Try.underlying26 hi hz0 hz1 hz2 rfl (by decide) _ _ _ rfl (hown.out.alloc _) ⟨wr.heap.size, 0, none⟩ 1 1 [.int .i64 (e1 : Int)] rfl rfl (cell_new1 _ _ _) (fun u hu => nums_one u e1 hu) (by decide) (by unfold maxLen; omega) (by omega) (by simp; omega) ?_; intro g' off' cap' w3 hown3 hgrow3 hloc3 hlt3))
        have hb3 : Below w.heap.size w w3 := (hbel.out.alloc hs _).grown hgrow3 (by simp; omega) (fun j hj => (hown.out.lt j hj).1)
        go_wp2_with fail
        go_roundg (N - (k + 1))
        case measure => omega
        case rel => exact ⟨k + 1, l ++ [e1], by omega, by go_num, by show OwnS _ _ _ _ _ _ _; rw [nums_append]; simpa [nums] using hown3, by intro y hy; simp only [List.mem_append, List.mem_singleton] at hy; rcases hy with hy | rfl; exact hmem.out y hy; exact HE.out, by simp; omega, hb3⟩
      · have hx1 : ((e0 : Int) == (x : Int)) = false := by simp; omega
        have hx2 : ¬ (e0 : Int) = (x : Int) := by omega
        go_wp2_with fail
        go_roundg (N - (k + 1))
        case measure => omega
        case rel => exact ⟨k + 1, l, by omega, by go_num, hown, hmem, by omega, hbel⟩
    · by_cases hl0 : l.length = 0
      · have hlz : ((l.length : Int) == 0) = true := by rw [beq_iff_eq]; omega
        have hlz2 : (l.length : Int) = 0 := by omega
        go_wp2_with fail
        go_ret
        exact ⟨.inl rfl, hbel.out⟩
      · have hlz : ((l.length : Int) == 0) = false := by rw [beq_eq_false_iff_ne]; omega
        have hlz2 : ¬ (l.length : Int) = 0 := by omega
        have hpk := pickN_lt c (show 0 < l.length by omega)
        obtain ⟨hll, ao8, cp8, hf, hr8⟩ := hown.out.rd
        simp only [Value.slice.injEq] at hf
        obtain ⟨rfl, _, rfl⟩ := hf
        rcases hr8 with hr8 | ⟨g8, off8, rfl, hr8⟩
        · omega
        have c8 := hr8 _ _ (nums_get hpk)
        have hm8 := hmem.out l[pickN c l.length] (List.getElem_mem _)
        have hpc := pick_any c l.length wr hfc.1 hfc.2 (by omega) (by omega)
        have hpk0 : (0 : Int) ≤ (pickN c l.length : Int) := by omega
        have hpk1 : (pickN c l.length : Int) < (l.length : Int) := by omega
        generalize l[pickN c l.length] = y8 at c8 hm8
        generalize pickN c l.length = j8 at hpk hpc c8 hpk0 hpk1
        have HPC : Hid (Calls Try.prog 17 _ wr _) := hpc
        have HM8 : Hid ((x, y8) ∈ E) := hm8
        clear hr8 hll hmem hm8 hpc
        go_wp2_with (first | (go_at_call 17; refine HPC.out.mono ?_; rintro e w9 ⟨rfl, rfl⟩))
        go_ret
        exact ⟨.inr ⟨y8, rfl, HM8.out⟩, hbel.out⟩

end Go.Proofs.Ytbddcodljmglfaa
