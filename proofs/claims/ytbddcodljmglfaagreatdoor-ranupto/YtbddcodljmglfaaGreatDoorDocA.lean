/- The document's run of a text that is a program. And what follows on it. -/
import Derived.Test.YtbddcodljmglfaaGreatDoorRV8
import Derived.Test.YtbddcodljmglfaaGreatDoorVarsB
import Derived.Test.YtbddcodljmglfaaGreatDoorRanWalk
set_option linter.unusedSimpArgs false
set_option linter.unusedVariables false
namespace Go.Proofs.YtbddcodljmglfaaGreatDoor
open Go.RowKit

/-- The args of a program are the words of its first line. -/
theorem prog_args {s : BA} {A : List Ver} {bs : List BlockG} (h : progG s = .ok (A, bs)) : (cuts 10 s).length ≤ 120 ∧ ∃ x0, (cuts 10 s)[0]? = some x0 ∧ A = ((cuts 32 x0).drop 1).map (·, 0) := by
  unfold progG at h
  split at h
  · cases h
  · rename_i a bs' hr
    split at h
    · cases h
    · injection h with h
      injection h with h1 h2
      subst h1 h2
      unfold readG at hr
      split at hr
      · cases hr
      · rename_i hlen
        split at hr
        · cases hr
        · rename_i q hq
          split at hr
          · cases hr
          · injection hr with hr
            injection hr with h1 h2
            subst h1 h2
            refine ⟨by omega, ?_⟩
            have hne := cuts_ne 10 s
            generalize cuts 10 s = T at *
            cases T with
            | nil => exact absurd rfl hne
            | cons x r =>
              refine ⟨x, rfl, ?_⟩
              unfold runL at hq
              cases hst : stepL 0 20 0 x ⟨[], [], none⟩ with
              | none => rw [hst] at hq; cases hq
              | some p' =>
                rw [hst] at hq
                rw [run_args r 1 p' q (by omega) hq]
                rcases step_shape hst with ⟨-, -, h2⟩ | ⟨h0, -⟩ | ⟨h0, -⟩
                · obtain ⟨x0, bs, hc⟩ := cuts_cons x
                  rw [hc] at h2 ⊢
                  exact args_names h2
                · exact absurd rfl h0
                · exact absurd rfl h0

theorem drun_of (w : World) (s : BA) (A : List Ver) (bs : List BlockG) (hp : progG s = .ok (A, bs)) (F : Nat) (hF : F ≤ 2000) (argv : Value) (xs : List Int) (hx : RdS w 1 argv xs.length (ints xs)) (hx64 : ∀ x ∈ xs, fits64 x)
    (base tb : Nat) (bl : List Nat) (lv bv : Value) (vals : List Value) (hT : TextIn base w tb (cuts 10 s) bl lv bv vals) (hbi : bl = blkIdx 0 (cuts 10 s)) (hpl : ∀ x ∈ cuts 10 s, PlainIn x) :
    Calls Tryz.prog 41 #[.pointer (some ⟨tb, 0, none⟩), argv, .int .i64 (F : Int)] w fun e w' => e = .returned (resV (runG bs F (startG A xs) (linesAt bs 0) [])) ∧ Below w.heap.size w w' := by
  obtain ⟨hl, x0, h0, hA⟩ := prog_args hp
  obtain ⟨f1, f2, f3⟩ := prog_far hp
  obtain ⟨g1, g2, g3⟩ := prog_good hp
  obtain ⟨l1, l2⟩ := prog_lines hp
  rw [← hbi] at l1
  have hlen : bs.length = bl.length := by have := congrArg List.length l1; simpa using this
  have hfirst : ∀ b (h : b < bl.length), ∃ B, bs[b]? = some B ∧ B ∈ bs ∧ B.first = bl[b] + 1 := by
    intro b h
    have hb : b < bs.length := by omega
    refine ⟨bs[b], by simp [hb], List.getElem_mem hb, ?_⟩
    have := congrArg (·[b]?) l1
    simpa [hb, h] using this
  obtain ⟨gL, offL, cpL, v, rfl, -⟩ := hT.at (j := 0) (List.getElem?_eq_some_iff.1 h0).1
  obtain ⟨aoB, cpB, rfl, -, hB⟩ := hT.blocks.rdT.cell
  obtain ⟨gB, ofB, rfl, -⟩ := hB (by omega)
  refine drun_any w tb F base gL offL cpL gB ofB cpB (cuts 10 s) bl vals A bs argv xs x0 hT hF hx hx64 h0 (by omega) hA f1 hpl (by omega) (fun b hb => ?_) (by omega)
  obtain ⟨B, hBb, hBm, hBf⟩ := hfirst b hb
  have hls : linesAt bs b = B.lines := by simp [linesAt, hBb]
  obtain ⟨pre, last, he, hk, -⟩ := (g1 B hBm).lines
  rw [hls, ← hBf]
  refine ⟨?_, ⟨fun k l hkl => l2 B hBm k l hkl, ⟨pre, last, he, hk⟩, fun l hl k hkl => by rw [← hlen]; exact g3 B hBm l hl k hkl⟩⟩
  have h00 : ∃ l, B.lines[0]? = some l := by
    rw [he]
    cases pre with
    | nil => exact ⟨_, rfl⟩
    | cons a r => exact ⟨_, rfl⟩
  obtain ⟨l, hl0⟩ := h00
  obtain ⟨x, hx, -⟩ := l2 B hBm 0 l hl0
  have := (List.getElem?_eq_some_iff.1 hx).1
  omega

end Go.Proofs.YtbddcodljmglfaaGreatDoor

namespace Go.Proofs.YtbddcodljmglfaaGreatDoor
open Go.RowKit

set_option maxRecDepth 100000 in
set_option maxHeartbeats 4000000 in
theorem dRun_err (w : World) (s : BA) (hs : s.size ≤ 4294967280) (c i : Nat) (hc : c ≠ 0) (hd : docG s = (c, i)) (argv : Value) (fuel : Int) :
    Calls Tryz.prog 26 #[.string s, argv, .int .i64 fuel] w fun e w' => e = .returned (.tuple #[resV ⟨false, 0, []⟩, .int .i64 (c : Int), .int .i64 (i : Int)]) ∧ Below w.heap.size w w' := by
  have HR : Hid (∀ W, Calls Tryz.prog 23 #[.string s] W fun e w' => (∃ pt, e = .returned (.tuple #[.pointer pt, .int .i64 (c : Int), .int .i64 (i : Int)])) ∧ Below W.heap.size W w') := fun W => (rRead_any W s hs).mono (by
    rintro e w' ⟨⟨pt, h1, -⟩, h2⟩
    rw [hd] at h1
    exact ⟨⟨pt, h1⟩, h2⟩)
  have hc' : ((c : Int) == 0) = false := by rw [beq_eq_false_iff_ne]; omega
  clear hd
  go_enter Tryz.func26, Tryz.ntmps26
  go_wp2_with (first
    | (go_at_call 23; refine (HR.out _).mono ?_; rintro e w1 ⟨⟨pt, rfl⟩, hb1⟩; have HB1 : Hid (Below w.heap.size w w1) := ((Below.refl _ _).alloc (Nat.le_refl _) _).trans (hb1.mono (by simp)); have HX1 : Hid (BoxIn w1 w.heap.size 44 [.bool false, .int .i64 0, .string ⟨#[]⟩]) := (BoxIn.new w 44 [.bool false, .int .i64 0, .string ⟨#[]⟩]).below hb1; clear hb1)
    | (refine wpList_store_box aggRes2 rfl _ _ rfl _ rfl _ [.bool false, .int .i64 0, .string ⟨#[]⟩] rfl HX1.out rfl rfl (one_res false 0 ⟨#[]⟩) ?_; intro w8 hb8 hg8 hs8))
  refine bodyPost_ret (results_box3 aggRes2 Tryz.results26 rfl rfl rfl rfl hb8) rfl ?_
  exact ⟨rfl, HB1.out.trans (hg8.below HB1.out.size (fun q hq => by omega))⟩

set_option maxRecDepth 100000 in
set_option maxHeartbeats 4000000 in
theorem dRun_conf (w : World) (s : BA) (hs : s.size ≤ 4294967280) (hd : docG s = (0, 0)) (argv : Value) (fuel : Int) (hf : fuel < 0 ∨ 2000 < fuel) :
    Calls Tryz.prog 26 #[.string s, argv, .int .i64 fuel] w fun e w' => e = .returned (.tuple #[resV ⟨false, 0, []⟩, .int .i64 12, .int .i64 0]) ∧ Below w.heap.size w w' := by
  have HR : Hid (∀ W, Calls Tryz.prog 23 #[.string s] W fun e w' => (∃ pt, e = .returned (.tuple #[.pointer pt, .int .i64 0, .int .i64 0])) ∧ Below W.heap.size W w') := fun W => (rRead_any W s hs).mono (by
    rintro e w' ⟨⟨pt, h1, -⟩, h2⟩
    rw [hd] at h1
    exact ⟨⟨pt, h1⟩, h2⟩)
  clear hd
  rcases (by omega : fuel < 0 ∨ (¬ fuel < 0 ∧ 2000 < fuel)) with h1 | ⟨h1, h2⟩
  all_goals go_enter Tryz.func26, Tryz.ntmps26
  all_goals go_wp2_with (first
    | (go_at_call 23; refine (HR.out _).mono ?_; rintro e w1 ⟨⟨pt, rfl⟩, hb1⟩; have HB1 : Hid (Below w.heap.size w w1) := ((Below.refl _ _).alloc (Nat.le_refl _) _).trans (hb1.mono (by simp)); have HX1 : Hid (BoxIn w1 w.heap.size 44 [.bool false, .int .i64 0, .string ⟨#[]⟩]) := (BoxIn.new w 44 [.bool false, .int .i64 0, .string ⟨#[]⟩]).below hb1; clear hb1)
    | (refine wpList_store_box aggRes2 rfl _ _ rfl _ rfl _ [.bool false, .int .i64 0, .string ⟨#[]⟩] rfl HX1.out rfl rfl (one_res false 0 ⟨#[]⟩) ?_; intro w8 hb8 hg8 hs8))
  all_goals refine bodyPost_ret (results_box3 aggRes2 Tryz.results26 rfl rfl rfl rfl hb8) rfl ?_
  all_goals exact ⟨rfl, HB1.out.trans (hg8.below HB1.out.size (fun q hq => by omega))⟩

set_option maxRecDepth 100000 in
set_option maxHeartbeats 4000000 in
theorem dRun_ok (w : World) (s : BA) (hs : s.size ≤ 4294967280) (hd : docG s = (0, 0)) (argv : Value) (F : Nat) (hF : F ≤ 2000) (R : RunR)
    (hR : ∀ W base tb bl lv bv vals, Below w.heap.size w W → TextIn base W tb (cuts 10 s) bl lv bv vals → bl = blkIdx 0 (cuts 10 s) → (∀ x ∈ cuts 10 s, PlainIn x) → Calls Tryz.prog 41 #[.pointer (some ⟨tb, 0, none⟩), argv, .int .i64 (F : Int)] W fun e w' => e = .returned (resV R) ∧ Below W.heap.size W w') :
    Calls Tryz.prog 26 #[.string s, argv, .int .i64 (F : Int)] w fun e w' => e = .returned (.tuple #[resV R, .int .i64 0, .int .i64 0]) ∧ Below w.heap.size w w' := by
  have HR : Hid (∀ W, Below w.heap.size w W → Calls Tryz.prog 23 #[.string s] W fun e w' => (∃ tb, e = .returned (.tuple #[.pointer (some ⟨tb, 0, none⟩), .int .i64 0, .int .i64 0]) ∧ ∀ W2, Below w'.heap.size w' W2 → Calls Tryz.prog 41 #[.pointer (some ⟨tb, 0, none⟩), argv, .int .i64 (F : Int)] W2 fun e w2 => e = .returned (resV R) ∧ Below W2.heap.size W2 w2) ∧ Below W.heap.size W w') := fun W hW => (rRead_any W s hs).mono (by
    rintro e w' ⟨⟨pt, h1, hT⟩, h2⟩
    rw [hd] at h1 hT
    obtain ⟨tb, bl, lv, bv, vals, rfl, hT, hb, hp⟩ := hT rfl
    exact ⟨⟨tb, h1, fun W2 h3 => hR W2 _ tb bl lv bv vals ((hW.trans (h2.mono hW.size)).trans (h3.mono (Nat.le_trans hW.size h2.size))) (hT.below h3) hb hp⟩, h2⟩)
  clear hd hR
  have h1 : ¬ (F : Int) < 0 := by omega
  have h2 : ¬ 2000 < (F : Int) := by omega
  obtain ⟨re, rv, rt⟩ := R
  unfold resV resCells at *
  go_enter Tryz.func26, Tryz.ntmps26
  go_wp2_with (first
    | (go_at_call 23; refine (HR.out _ ((Below.refl _ _).alloc (Nat.le_refl _) _)).mono ?_; rintro e w1 ⟨⟨tb, rfl, hrun⟩, hb1⟩; have HRN : Hid _ := hrun; have HB1 : Hid (Below w.heap.size w w1) := ((Below.refl _ _).alloc (Nat.le_refl _) _).trans (hb1.mono (by simp)); have HX1 : Hid (BoxIn w1 w.heap.size 44 [.bool false, .int .i64 0, .string ⟨#[]⟩]) := (BoxIn.new w 44 [.bool false, .int .i64 0, .string ⟨#[]⟩]).below hb1; clear hrun hb1)
    | (go_at_call 41; refine (HRN.out _ (Below.refl _ _)).mono ?_; rintro e w2 ⟨rfl, hb2⟩; have HB2 : Hid (Below w1.heap.size w1 w2) := hb2; clear hb2)
    | (refine wpList_store_box aggRes2 rfl _ _ rfl _ rfl _ [.bool re, .int .i64 rv, .string (traceB rt)] rfl (HX1.out.below HB2.out) rfl rfl (one_res _ _ _) ?_; intro w8 hb8 hg8 hs8))
  refine bodyPost_ret (results_box3 aggRes2 Tryz.results26 rfl rfl rfl rfl hb8) rfl ?_
  exact ⟨rfl, (HB1.out.trans (HB2.out.mono HB1.out.size)).trans (hg8.below (Nat.le_trans HB1.out.size HB2.out.size) (fun q hq => by omega))⟩

end Go.Proofs.YtbddcodljmglfaaGreatDoor

namespace Go.Proofs.YtbddcodljmglfaaGreatDoor
open Go.RowKit

theorem runsDoc : RunsDoc := by
  intro w s hs argv xs hx hx64 fuel
  unfold resG
  have hd := doc_eq s
  cases hp : progG s with
  | error e =>
    rw [hp] at hd
    simp only at hd ⊢
    exact dRun_err w s hs e.1 e.2 (by have := prog_err hp; omega) hd argv fuel
  | ok r =>
    obtain ⟨A, bs⟩ := r
    rw [hp] at hd
    simp only at hd ⊢
    by_cases hf : fuel < 0 ∨ 2000 < fuel
    · simp only [hf, if_true]
      exact dRun_conf w s hs hd argv fuel hf
    · simp only [hf, if_false]
      obtain ⟨F, rfl⟩ : ∃ F : Nat, fuel = F := ⟨fuel.toNat, by omega⟩
      rw [Int.toNat_natCast]
      exact dRun_ok w s hs hd argv F (by omega) _ (fun W base tb bl lv bv vals hb hT hbi hpl => drun_of W s A bs hp F (by omega) argv xs (hx.below hb) hx64 base tb bl lv bv vals hT hbi hpl)

end Go.Proofs.YtbddcodljmglfaaGreatDoor
