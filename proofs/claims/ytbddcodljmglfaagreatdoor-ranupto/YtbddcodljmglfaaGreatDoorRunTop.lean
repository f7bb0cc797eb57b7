/- ridge.Run. -/
import Derived.Test.YtbddcodljmglfaaGreatDoorRunFn
import Derived.Test.YtbddcodljmglfaaGreatDoorPRead
set_option linter.unusedSimpArgs false
set_option linter.unusedVariables false
namespace Go.Proofs.YtbddcodljmglfaaGreatDoor
open Go.RowKit

set_option maxRecDepth 100000 in
set_option maxHeartbeats 4000000 in
theorem rrun_err (w : World) (v : Value) (hv : IsProg v) (c i : Nat) (hc : c ≠ 0) (argv : Value) (fuel : Int) :
    Calls Tryz.prog 30 #[v, .int .i64 (c : Int), .int .i64 (i : Int), argv, .int .i64 fuel] w fun e w' => e = .returned (.tuple #[resV ⟨false, 0, []⟩, .int .i64 (c : Int), .int .i64 (i : Int)]) ∧ Below w.heap.size w w' := by
  obtain ⟨x2, y2, a2, b2, c2, d2, rfl⟩ := hv
  have hc' : ((c : Int) == 0) = false := by rw [beq_eq_false_iff_ne]; omega
  go_enter Tryz.func30, Tryz.ntmps30
  go_wp2
  refine bodyPost_ret (results_box3 aggRes Tryz.results30 rfl rfl rfl (cs := [.bool false, .int .i64 0, .string ⟨#[]⟩]) rfl heap_alloc_new2) rfl ?_
  exact ⟨rfl, ((Below.refl _ _).alloc (Nat.le_refl _) _).alloc (by simp) _⟩

set_option maxRecDepth 100000 in
set_option maxHeartbeats 4000000 in
theorem rrun_conf (w : World) (v : Value) (hv : IsProg v) (argv : Value) (fuel : Int) (hf : fuel < 0 ∨ 2000 < fuel) :
    Calls Tryz.prog 30 #[v, .int .i64 0, .int .i64 0, argv, .int .i64 fuel] w fun e w' => e = .returned (.tuple #[resV ⟨false, 0, []⟩, .int .i64 12, .int .i64 0]) ∧ Below w.heap.size w w' := by
  obtain ⟨x2, y2, a2, b2, c2, d2, rfl⟩ := hv
  rcases (by omega : fuel < 0 ∨ (¬ fuel < 0 ∧ 2000 < fuel)) with h1 | ⟨h1, h2⟩
  all_goals go_enter Tryz.func30, Tryz.ntmps30
  all_goals go_wp2
  all_goals refine bodyPost_ret (results_box3 aggRes Tryz.results30 rfl rfl rfl (cs := [.bool false, .int .i64 0, .string ⟨#[]⟩]) rfl heap_alloc_new2) rfl ?_
  all_goals exact ⟨rfl, ((Below.refl _ _).alloc (Nat.le_refl _) _).alloc (by simp) _⟩

set_option maxRecDepth 100000 in
set_option maxHeartbeats 4000000 in
theorem rrun_ok (w : World) (base0 F : Nat) (av bv : Value) (A : List Ver) (B : List BV) (argv : Value) (xs : List Int) (hv : IsProg (.agg #[av, bv])) (hE : Env base0 w) (hP : ProgIn w av bv A B) (hA : A.length ≤ 1000000) (hB : B.length ≤ 1000000) (hF : F ≤ 2000)
    (hx : RdS w 1 argv xs.length (ints xs)) (hx64 : ∀ x ∈ xs, fits64 x) (hg : ∀ b ∈ B, GoodB b.g) (hpos : 0 < B.length) (hlead : ∀ b ∈ B, ∀ l ∈ b.g.lines, ∀ k ∈ l.leads, k < B.length) (hmany : ∀ b ∈ B, b.lines.length ≤ 1000000) :
    Calls Tryz.prog 30 #[.agg #[av, bv], .int .i64 0, .int .i64 0, argv, .int .i64 (F : Int)] w fun e w' => e = .returned (.tuple #[resV (runG (B.map BV.g) F (startG A xs) (linesAt (B.map BV.g) 0) []), .int .i64 0, .int .i64 0]) ∧ Below w.heap.size w w' := by
  have HR : Hid (∀ W, Below w.heap.size w W → BoxIn W w.heap.size 52 [av, bv] → Calls Tryz.prog 44 #[.pointer (some ⟨w.heap.size, 0, none⟩), argv, .int .i64 (F : Int)] W fun e w' => e = .returned (resV (runG (B.map BV.g) F (startG A xs) (linesAt (B.map BV.g) 0) [])) ∧ Below W.heap.size W w') := fun W hb hbx => run_any W base0 w.heap.size F av bv A B argv xs (hE.below hb) hbx (hP.below hb) hA hB hF (hx.below hb) hx64 hg hpos hlead hmany
  generalize runG (B.map BV.g) F (startG A xs) (linesAt (B.map BV.g) 0) [] = R at *
  have h1 : ¬ (F : Int) < 0 := by omega
  have h2 : ¬ 2000 < (F : Int) := by omega
  have hbx : Hid (∀ o, BoxIn ((w.alloc (.cells #[av, bv] 52)).alloc o) w.heap.size 52 [av, bv]) := fun o => (BoxIn.new w 52 [av, bv]).below ((Below.refl _ _).alloc (Nat.le_refl _) o)
  obtain ⟨x2, y2, a2, b2, c2, d2, hvv⟩ := hv
  injection hvv with hvv
  have hvv' : av = .slice x2 a2 b2 ∧ bv = .slice y2 c2 d2 := by simpa using hvv
  obtain ⟨rfl, rfl⟩ := hvv'
  clear hvv hE hP hx hg hlead hmany hx64
  obtain ⟨re, rv, rt⟩ := R
  unfold resV resCells at *
  go_enter Tryz.func30, Tryz.ntmps30
  go_wp2_with (first
    | (go_at_call 44; refine (HR.out _ (((Below.refl _ _).alloc (Nat.le_refl _) _).alloc (by simp) _) (hbx.out _)).mono ?_; rintro e w1 ⟨rfl, hb1⟩; have HB1 : Hid (Below w.heap.size w w1) := (((Below.refl _ _).alloc (Nat.le_refl _) _).alloc (by simp) _).trans (hb1.mono (by simp; omega)); have HX1 : Hid (BoxIn w1 (w.heap.size + 1) 30 [.bool false, .int .i64 0, .string ⟨#[]⟩]) := (show BoxIn _ _ _ _ from heap_alloc_new2).below hb1; clear hb1)
    | (refine wpList_store_box aggRes rfl _ _ rfl _ rfl _ [.bool re, .int .i64 rv, .string (traceB rt)] rfl HX1.out rfl rfl (one_res _ _ _) ?_; intro w8 hb8 hg8 hs8))
  refine bodyPost_ret (results_box3 aggRes Tryz.results30 rfl rfl rfl rfl hb8) rfl ?_
  exact ⟨rfl, HB1.out.trans (hg8.below HB1.out.size (fun q hq => by omega))⟩

theorem prog_err {s : BA} {e : Nat × Nat} (h : progG s = .error e) : 6 ≤ e.1 ∧ e.1 ≤ 9 := by
  unfold progG at h
  split at h
  · rename_i c hr
    injection h with h
    subst h
    have := readG_err (c := c.1) (i := c.2) hr
    omega
  · split at h
    · injection h with h
      subst h
      simp
    · cases h
/-- How far a program that is read reaches. -/
theorem prog_far {s : BA} {A : List Ver} {bs : List BlockG} (h : progG s = .ok (A, bs)) : A.length ≤ 4 ∧ bs.length ≤ 120 ∧ ∀ b ∈ bs, b.lines.length ≤ 120 := by
  unfold progG at h
  split at h
  · cases h
  · rename_i a bs' hr
    split at h
    · cases h
    · injection h with h
      injection h with h1 h2
      subst h1 h2
      obtain ⟨p, N, hf, h1, h2, h3⟩ := readG_far hr
      subst h1 h2
      refine ⟨hf.args, ?_, fun b hb => ?_⟩
      · rcases hf.count with h | ⟨h, -⟩
        · omega
        · rw [h]; simp
      · have := hf.closed b hb; omega

set_option maxRecDepth 100000 in
set_option maxHeartbeats 4000000 in
theorem rRun_any (w : World) (base0 : Nat) (s : BA) (hs : s.size ≤ 4294967280) (hE : Env base0 w) (argv : Value) (xs : List Int) (hx : RdS w 1 argv xs.length (ints xs)) (hx64 : ∀ x ∈ xs, fits64 x) (fuel : Int) :
    Calls Tryz.prog 14 #[.string s, argv, .int .i64 fuel] w fun e w' => e = .returned (.tuple #[resV (resG s xs fuel).1, .int .i64 ((resG s xs fuel).2.1 : Int), .int .i64 ((resG s xs fuel).2.2 : Int)]) ∧ Below w.heap.size w w' := by
  have HR : Hid (∀ W, Below w.heap.size w W → Calls Tryz.prog 29 #[.string s] W fun e w' => (∃ (v : Value) (c i : Nat), e = .returned (.tuple #[v, .int .i64 (c : Int), .int .i64 (i : Int)]) ∧ IsProg v ∧ ∀ W2, Below w'.heap.size w' W2 → Calls Tryz.prog 30 #[v, .int .i64 (c : Int), .int .i64 (i : Int), argv, .int .i64 fuel] W2 fun e w3 => e = .returned (.tuple #[resV (resG s xs fuel).1, .int .i64 ((resG s xs fuel).2.1 : Int), .int .i64 ((resG s xs fuel).2.2 : Int)]) ∧ Below W2.heap.size W2 w3) ∧ Below W.heap.size W w') := by
    intro W hb
    refine (pread_any W base0 s hs (hE.below hb)).mono ?_
    rintro e w' ⟨h1, h2, h3⟩
    refine ⟨?_, h3⟩
    unfold resG
    cases hp : progG s with
    | ok r =>
      obtain ⟨A, bs⟩ := r
      obtain ⟨av, bv, B, h, hPI, hBG, hi⟩ := h1 A bs hp
      refine ⟨_, 0, 0, h, hi, fun W2 hb2 => ?_⟩
      by_cases hf : fuel < 0 ∨ 2000 < fuel
      · simp only [hf, if_true]
        exact rrun_conf W2 _ hi argv fuel hf
      · simp only [hf, if_false]
        obtain ⟨F, rfl⟩ : ∃ F : Nat, fuel = F := ⟨fuel.toNat, by omega⟩
        obtain ⟨f1, f2, f3⟩ := prog_far hp
        obtain ⟨g1, g2, g3⟩ := prog_good hp
        rw [← hBG] at f2 f3 g1 g2 g3
        simp only [List.length_map] at f2 g2 g3
        have hbw : Below w.heap.size w W2 := hb.trans ((h3.trans (hb2.mono h3.size)).mono hb.size)
        rw [← hBG, Int.toNat_natCast]
        exact rrun_ok W2 base0 F av bv A B argv xs hi (hE.below hbw) (hPI.below hb2) (by omega) (by omega) (by omega) (hx.below hbw) hx64 (fun b hb => g1 _ (List.mem_map.2 ⟨b, hb, rfl⟩)) g2 (fun b hb => g3 _ (List.mem_map.2 ⟨b, hb, rfl⟩)) (fun b hb => by
          have := f3 b.g (List.mem_map.2 ⟨b, hb, rfl⟩)
          simp [BV.g] at this
          omega)
    | error ci =>
      obtain ⟨v, h, hi⟩ := h2 ci.1 ci.2 hp
      refine ⟨v, ci.1, ci.2, h, hi, fun W2 hb2 => rrun_err W2 v hi ci.1 ci.2 ?_ argv fuel⟩
      have := prog_err hp
      omega
  generalize resG s xs fuel = q at *
  clear hE hx
  obtain ⟨⟨re, rv, rt⟩, q1, q2⟩ := q
  unfold resV resCells at *
  go_enter Tryz.func14, Tryz.ntmps14
  go_wp2_with (first
    | (go_at_call 29; refine (HR.out _ ((Below.refl _ _).alloc (Nat.le_refl _) _)).mono ?_; rintro e w1 ⟨⟨v, c, i, rfl, ⟨x2, y2, a2, b2, c2, d2, rfl⟩, hrun⟩, hb1⟩; have HRN : Hid _ := hrun; have HB1 : Hid (Below w.heap.size w w1) := ((Below.refl _ _).alloc (Nat.le_refl _) _).trans (hb1.mono (by simp)); have HX1 : Hid (BoxIn w1 w.heap.size 30 [.bool false, .int .i64 0, .string ⟨#[]⟩]) := (BoxIn.new w 30 [.bool false, .int .i64 0, .string ⟨#[]⟩]).below hb1; clear hrun hb1)
    | (go_at_call 30; refine (HRN.out _ ((Below.refl _ _).alloc (Nat.le_refl _) _)).mono ?_; rintro e w2 ⟨rfl, hb2⟩; have HB2 : Hid (Below w1.heap.size w1 w2) := ((Below.refl _ _).alloc (Nat.le_refl _) _).trans (hb2.mono (by simp)); clear hb2)
    | (refine wpList_store_box aggRes rfl _ _ rfl _ rfl _ [.bool re, .int .i64 rv, .string (traceB rt)] rfl (HX1.out.below HB2.out) rfl rfl (one_res _ _ _) ?_; intro w8 hb8 hg8 hs8))
  refine bodyPost_ret (results_box3 aggRes Tryz.results14 rfl rfl rfl rfl hb8) rfl ?_
  exact ⟨rfl, (HB1.out.trans (HB2.out.mono HB1.out.size)).trans (hg8.below (Nat.le_trans HB1.out.size HB2.out.size) (fun q hq => by omega))⟩

end Go.Proofs.YtbddcodljmglfaaGreatDoor
