/- slices.Clone of versions. -/
import Derived.Test.YtbddcodljmglfaaGreatDoorReadAll
import Derived.Lib.SliceRun
set_option linter.unusedSimpArgs false
set_option linter.unusedVariables false
namespace Go.Proofs.YtbddcodljmglfaaGreatDoor
open Go.RowKit

theorem eqNilV (w : World) (a : Option Addr) (n c n' c' : Nat) : (binOp .eql 49 (.slice a n c) (.slice none n' c')).run Tryz.prog w = .ok (.bool a.isNone) w := Lib.run_eql_slice_nil w _ _ a n c n' c' Tryz.underlying49

set_option maxRecDepth 100000 in
theorem clone_nil (w : World) : Calls Tryz.prog 83 #[.slice none 0 0] w fun e w' => e = .returned (.slice none 0 0) ∧ w' = w := by
  have q := eqNilV
  go_enter Tryz.func83, Tryz.ntmps83
  go_wp2_with fail
  go_ret
  exact ⟨rfl, rfl⟩

theorem vers_one (A : List Ver) : ∀ u ∈ vers A, u.oneCell' = true := by
  induction A with
  | nil => simp [vers]
  | cons a r ih =>
    intro u hu
    simp [vers] at hu
    rcases hu with rfl | rfl | hu
    · rfl
    · rfl
    · exact ih u hu
theorem OwnS.made (w : World) (t : TypeId) (size : Nat) : OwnS (w.alloc (.cells #[] t)) w.heap.size t size (.slice (some ⟨w.heap.size, 0, none⟩) 0 0) 0 [] := ⟨by simp, .inr ⟨_, _, _, _, rfl, Nat.le_refl _, heap_alloc_new w _, Nat.le_refl _, Nat.zero_le _, by simp, by simp⟩⟩

set_option maxRecDepth 100000 in
set_option maxHeartbeats 4000000 in
theorem clone_some (w : World) (g off cap : Nat) (A : List Ver) (hA : A.length ≤ 1000000) (h0 : 0 < A.length) (hc : ∀ j u, (vers A)[j]? = some u → w.cell? ⟨g, off + j, none⟩ = some u) : Calls Tryz.prog 83 #[.slice (some ⟨g, off, none⟩) A.length cap] w fun e w' => (∃ v, e = .returned v ∧ OwnS w' w.heap.size 111 2 v A.length (vers A)) ∧ Below w.heap.size w w' := by
  have q := eqNilV
  have HC : Hid (∀ j u, (vers A)[j]? = some u → w.cell? ⟨g, off + j, none⟩ = some u) := hc
  obtain ⟨i0, hi, hz0, hz1, hz2⟩ := info_parts infoVersion
  clear hc
  go_enter Tryz.func83, Tryz.ntmps83
  go_wp2_with (first | (at_builtin; refine wpList_append_ownS _ rfl _ _ 49 rfl w.heap.size 111 i0 _ 2 24 Tryz.underlying49 hi hz0 hz1 hz2 rfl (by decide) _ _ _ rfl (OwnS.made w _ _) ⟨g, off, none⟩ A.length cap (vers A) rfl (vers_length A) (fun j u hj => (by rw [Addr.add_lit]; have hq := HC.out j u hj; rw [World.cell?_of_block (Below.heap_alloc w _ _ (World.block_lt_of_cell? w _ hq))]; exact hq)) (vers_one A) h0 (by unfold maxLen; omega) (by omega) (by simp) ?_; intro g' off' cap' w7 hown7 hgrow7 hloc7 hlt7))
  go_ret
  refine ⟨⟨_, rfl, by simpa using hown7⟩, ?_⟩
  have hb : Below w.heap.size w (w.alloc (.cells #[] 111)) := (Below.refl _ _).alloc (Nat.le_refl _) _
  refine hb.trans ⟨hgrow7.os, hgrow7.tape, hgrow7.output, hgrow7.size, fun k hk => hgrow7.block k (by simp; omega) (fun e => ?_)⟩
  injection e with e
  have e2 : k = w.heap.size := e
  omega

end Go.Proofs.YtbddcodljmglfaaGreatDoor
