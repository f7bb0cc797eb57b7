/- ridgeref.Run, once the run of a text is known. -/
import Derived.Test.YtbddcodljmglfaaGreatDoorRV7
set_option linter.unusedSimpArgs false
set_option linter.unusedVariables false
namespace Go.Proofs.YtbddcodljmglfaaGreatDoor
open Go.RowKit

set_option maxRecDepth 100000 in
set_option maxHeartbeats 4000000 in
theorem dRun_err (w : World) (s : BA) (hs : s.size ≤ 4294967280) (c i : Nat) (hc : c ≠ 0) (hd : docG s = (c, i)) (argv : Value) (fuel : Int) :
    Calls Tryz.prog 26 #[.string s, argv, .int .i64 fuel] w fun e w' => e = .returned (.tuple #[resV ⟨false, 0, []⟩, .int .i64 (c : Int), .int .i64 (i : Int)]) ∧ Below w.heap.size w w' := by
  have HR : Hid (∀ W, Calls Tryz.prog 23 #[.string s] W fun e w' => (∃ pt, e = .returned (.tuple #[.pointer pt, .int .i64 (c : Int), .int .i64 (i : Int)])) ∧ Below W.heap.size W w') := fun W => (rRead_any W s hs).mono (by
    rintro e w' ⟨⟨pt, h1, -⟩, h2⟩
    rw [hd] at h1
    exact ⟨⟨pt, h1⟩, h2⟩)
  have hc' : ((c : Int) == 0) = false := by rw [beq_eq_false_iff_ne]; omega
  clear hd
  go_enter Tryz.func26, Tryz.ntmps26
  go_wp2_with (first
    | (go_at_call 23; refine (HR.out _).mono ?_; rintro e w1 ⟨⟨pt, rfl⟩, hb1⟩; have HB1 : Hid (Below w.heap.size w w1) := ((Below.refl _ _).alloc (Nat.le_refl _) _).trans (hb1.mono (by simp)); have HX1 : Hid (BoxIn w1 w.heap.size 44 [.bool false, .int .i64 0, .string ⟨#[]⟩]) := (BoxIn.new w 44 [.bool false, .int .i64 0, .string ⟨#[]⟩]).below hb1; clear hb1)
    | (refine wpList_store_box aggRes2 rfl _ _ rfl _ rfl _ [.bool false, .int .i64 0, .string ⟨#[]⟩] rfl HX1.out rfl rfl (one_res false 0 ⟨#[]⟩) ?_; intro w8 hb8 hg8 hs8))
  refine bodyPost_ret (results_box3 aggRes2 Tryz.results26 rfl rfl rfl rfl hb8) rfl ?_
  exact ⟨rfl, HB1.out.trans (hg8.below HB1.out.size (fun q hq => by omega))⟩

set_option maxRecDepth 100000 in
set_option maxHeartbeats 4000000 in
theorem dRun_conf (w : World) (s : BA) (hs : s.size ≤ 4294967280) (hd : docG s = (0, 0)) (argv : Value) (fuel : Int) (hf : fuel < 0 ∨ 2000 < fuel) :
    Calls Tryz.prog 26 #[.string s, argv, .int .i64 fuel] w fun e w' => e = .returned (.tuple #[resV ⟨false, 0, []⟩, .int .i64 12, .int .i64 0]) ∧ Below w.heap.size w w' := by
  have HR : Hid (∀ W, Calls Tryz.prog 23 #[.string s] W fun e w' => (∃ pt, e = .returned (.tuple #[.pointer pt, .int .i64 0, .int .i64 0])) ∧ Below W.heap.size W w') := fun W => (rRead_any W s hs).mono (by
    rintro e w' ⟨⟨pt, h1, -⟩, h2⟩
    rw [hd] at h1
    exact ⟨⟨pt, h1⟩, h2⟩)
  clear hd
  rcases (by omega : fuel < 0 ∨ (¬ fuel < 0 ∧ 2000 < fuel)) with h1 | ⟨h1, h2⟩
  all_goals go_enter Tryz.func26, Tryz.ntmps26
  all_goals go_wp2_with (first
    | (go_at_call 23; refine (HR.out _).mono ?_; rintro e w1 ⟨⟨pt, rfl⟩, hb1⟩; have HB1 : Hid (Below w.heap.size w w1) := ((Below.refl _ _).alloc (Nat.le_refl _) _).trans (hb1.mono (by simp)); have HX1 : Hid (BoxIn w1 w.heap.size 44 [.bool false, .int .i64 0, .string ⟨#[]⟩]) := (BoxIn.new w 44 [.bool false, .int .i64 0, .string ⟨#[]⟩]).below hb1; clear hb1)
    | (refine wpList_store_box aggRes2 rfl _ _ rfl _ rfl _ [.bool false, .int .i64 0, .string ⟨#[]⟩] rfl HX1.out rfl rfl (one_res false 0 ⟨#[]⟩) ?_; intro w8 hb8 hg8 hs8))
  all_goals refine bodyPost_ret (results_box3 aggRes2 Tryz.results26 rfl rfl rfl rfl hb8) rfl ?_
  all_goals exact ⟨rfl, HB1.out.trans (hg8.below HB1.out.size (fun q hq => by omega))⟩

set_option maxRecDepth 100000 in
set_option maxHeartbeats 4000000 in
theorem dRun_ok (w : World) (s : BA) (hs : s.size ≤ 4294967280) (hd : docG s = (0, 0)) (argv : Value) (F : Nat) (hF : F ≤ 2000) (R : RunR)
    (hR : ∀ W base tb bl lv bv vals, Below w.heap.size w W → TextIn base W tb (cuts 10 s) bl lv bv vals → bl = blkIdx 0 (cuts 10 s) → (∀ x ∈ cuts 10 s, PlainIn x) → Calls Tryz.prog 41 #[.pointer (some ⟨tb, 0, none⟩), argv, .int .i64 (F : Int)] W fun e w' => e = .returned (resV R) ∧ Below W.heap.size W w') :
    Calls Tryz.prog 26 #[.string s, argv, .int .i64 (F : Int)] w fun e w' => e = .returned (.tuple #[resV R, .int .i64 0, .int .i64 0]) ∧ Below w.heap.size w w' := by
  have HR : Hid (∀ W, Below w.heap.size w W → Calls Tryz.prog 23 #[.string s] W fun e w' => (∃ tb, e = .returned (.tuple #[.pointer (some ⟨tb, 0, none⟩), .int .i64 0, .int .i64 0]) ∧ ∀ W2, Below w'.heap.size w' W2 → Calls Tryz.prog 41 #[.pointer (some ⟨tb, 0, none⟩), argv, .int .i64 (F : Int)] W2 fun e w2 => e = .returned (resV R) ∧ Below W2.heap.size W2 w2) ∧ Below W.heap.size W w') := fun W hW => (rRead_any W s hs).mono (by
    rintro e w' ⟨⟨pt, h1, hT⟩, h2⟩
    rw [hd] at h1 hT
    obtain ⟨tb, bl, lv, bv, vals, rfl, hT, hb, hp⟩ := hT rfl
    exact ⟨⟨tb, h1, fun W2 h3 => hR W2 _ tb bl lv bv vals ((hW.trans (h2.mono hW.size)).trans (h3.mono (Nat.le_trans hW.size h2.size))) (hT.below h3) hb hp⟩, h2⟩)
  clear hd hR
  have h1 : ¬ (F : Int) < 0 := by omega
  have h2 : ¬ 2000 < (F : Int) := by omega
  obtain ⟨re, rv, rt⟩ := R
  unfold resV resCells at *
  go_enter Tryz.func26, Tryz.ntmps26
  go_wp2_with (first
    | (go_at_call 23; refine (HR.out _ ((Below.refl _ _).alloc (Nat.le_refl _) _)).mono ?_; rintro e w1 ⟨⟨tb, rfl, hrun⟩, hb1⟩; have HRN : Hid _ := hrun; have HB1 : Hid (Below w.heap.size w w1) := ((Below.refl _ _).alloc (Nat.le_refl _) _).trans (hb1.mono (by simp)); have HX1 : Hid (BoxIn w1 w.heap.size 44 [.bool false, .int .i64 0, .string ⟨#[]⟩]) := (BoxIn.new w 44 [.bool false, .int .i64 0, .string ⟨#[]⟩]).below hb1; clear hrun hb1)
    | (go_at_call 41; refine (HRN.out _ (Below.refl _ _)).mono ?_; rintro e w2 ⟨rfl, hb2⟩; have HB2 : Hid (Below w1.heap.size w1 w2) := hb2; clear hb2)
    | (refine wpList_store_box aggRes2 rfl _ _ rfl _ rfl _ [.bool re, .int .i64 rv, .string (traceB rt)] rfl (HX1.out.below HB2.out) rfl rfl (one_res _ _ _) ?_; intro w8 hb8 hg8 hs8))
  refine bodyPost_ret (results_box3 aggRes2 Tryz.results26 rfl rfl rfl rfl hb8) rfl ?_
  exact ⟨rfl, (HB1.out.trans (HB2.out.mono HB1.out.size)).trans (hg8.below (Nat.le_trans HB1.out.size HB2.out.size) (fun q hq => by omega))⟩

end Go.Proofs.YtbddcodljmglfaaGreatDoor
