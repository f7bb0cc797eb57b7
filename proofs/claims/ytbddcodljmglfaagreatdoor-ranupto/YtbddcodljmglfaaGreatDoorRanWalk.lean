/- ridgelaw.run and Ran, once the document's Run is known. -/
import Derived.Test.YtbddcodljmglfaaGreatDoorRunTop
import Derived.Test.YtbddcodljmglfaaGreatDoorRunEx
import Derived.Test.YtbddcodljmglfaaGreatDoorCheckedWalk
import Derived.Test.YtbddcodljmglfaaGreatDoorRanFns
set_option linter.unusedSimpArgs false
set_option linter.unusedVariables false
namespace Go.Proofs.YtbddcodljmglfaaGreatDoor
open Go.RowKit

/-- What the document's Run does. -/
def RunsDoc : Prop := ∀ (w : World) (s : BA), s.size ≤ 4294967280 → ∀ (argv : Value) (xs : List Int), RdS w 1 argv xs.length (ints xs) → (∀ x ∈ xs, fits64 x) → ∀ (fuel : Int),
  Calls Tryz.prog 26 #[.string s, argv, .int .i64 fuel] w fun e w' => e = .returned (.tuple #[resV (resG s xs fuel).1, .int .i64 ((resG s xs fuel).2.1 : Int), .int .i64 ((resG s xs fuel).2.2 : Int)]) ∧ Below w.heap.size w w'

theorem lent_shape {w : World} {x : Value} {zs : List Int} (h : LentIn w x zs) : ∃ a l c y b d, x = .slice a l c ∧ y = .slice b zs.length d ∧ RdS w 1 y zs.length (ints zs) ∧ ∀ W, (Instr.slice 24 x none (some (.int .i64 (zs.length : Int))) none).run Tryz.prog W = .ok y W := by
  rcases h with ⟨rfl, rfl⟩ | ⟨g, rfl, hg⟩
  · exact ⟨_, _, _, _, _, _, rfl, rfl, ⟨rfl, none, 0, rfl, .inl rfl⟩, fun W => front_nil W⟩
  · refine ⟨_, _, _, _, _, _, rfl, rfl, ⟨by simp [ints], _, _, rfl, .inr ⟨_, _, rfl, fun j u hj => ?_⟩⟩, fun W => front_nums g 0 _ _ zs.length (by omega) (by omega) (by omega) W⟩
    have hjl : j < zs.length := by have := (List.getElem?_eq_some_iff.1 hj).1; simpa [ints] using this
    simp only [World.cell?, hg, List.getElem?_toArray, Nat.zero_add, lentOut]
    rw [List.getElem?_append_left (by simpa [ints] using hjl)]
    exact hj

set_option maxRecDepth 100000 in
set_option maxHeartbeats 8000000 in
theorem lrun_any (hD : RunsDoc) (w : World) (base0 : Nat) (s : BA) (hs : s.size ≤ 4294967280) (hE : Env base0 w) (v : Value) (zs : List Int) (hv : RdS w 1 v zs.length (ints zs)) (hz64 : ∀ z ∈ zs, fits64 z) (hzl : zs.length ≤ 10000000) (fuel : Int) :
    Calls Tryz.prog 11 #[.string s, v, .int .i64 fuel] w fun e w' => e = .returned (.bool true) ∧ Below w.heap.size w w' := by
  have HLN : Hid (∀ W, Below w.heap.size w W → Calls Tryz.prog 25 #[v] W fun e w' => (∃ x, e = .returned x ∧ LentIn w' x zs) ∧ Below W.heap.size W w') := fun W hb => lent_any W v zs (hv.below hb) hzl
  have HR : Hid (∀ W y, Below w.heap.size w W → RdS W 1 y zs.length (ints zs) → Calls Tryz.prog 14 #[.string s, y, .int .i64 fuel] W fun e w' => e = .returned (.tuple #[resV (resG s zs fuel).1, .int .i64 ((resG s zs fuel).2.1 : Int), .int .i64 ((resG s zs fuel).2.2 : Int)]) ∧ Below W.heap.size W w') := fun W y hb hy => rRun_any W base0 s hs (hE.below hb) y zs hy hz64 fuel
  have HDR : Hid (∀ W, Below w.heap.size w W → Calls Tryz.prog 26 #[.string s, v, .int .i64 fuel] W fun e w' => e = .returned (.tuple #[resV (resG s zs fuel).1, .int .i64 ((resG s zs fuel).2.1 : Int), .int .i64 ((resG s zs fuel).2.2 : Int)]) ∧ Below W.heap.size W w') := fun W hb => hD W s hs v zs (hv.below hb) hz64 fuel
  have HSA : Hid (∀ W R, Calls Tryz.prog 27 #[resV R, resV R] W fun e w' => e = .returned (.bool true) ∧ Below W.heap.size W w') := fun W R => same_any W R
  have HST : Hid (∀ W x, Below w.heap.size w W → LentIn W x zs → Calls Tryz.prog 28 #[x, v] W fun e w' => e = .returned (.bool true) ∧ Below W.heap.size W w') := fun W x hb hx => still_any W x v zs hx (hv.below hb) hzl
  have HNM : Hid (∀ W (n : Nat), Calls Tryz.prog 24 #[.int .i64 (n : Int)] W fun e w' => e = .returned (.int .i64 (n : Int)) ∧ w' = W) := fun W n => num_any W n
  have HLS : Hid (∀ W x, LentIn W x zs → ∃ a l c y b d, x = .slice a l c ∧ y = .slice b zs.length d ∧ RdS W 1 y zs.length (ints zs) ∧ ∀ W', (Instr.slice 24 x none (some (.int .i64 (zs.length : Int))) none).run Tryz.prog W' = .ok y W') := fun W x h => lent_shape h
  clear hD hE hz64
  obtain ⟨ao, cp, rfl, -⟩ := hv.cells
  generalize resG s zs fuel = q at *
  clear hv
  obtain ⟨⟨re, rv, rt⟩, q1, q2⟩ := q
  have HSA' : Hid (∀ W, Calls Tryz.prog 27 #[.agg #[.bool re, .int .i64 rv, .string (traceB rt)], .agg #[.bool re, .int .i64 rv, .string (traceB rt)]] W fun e w' => e = .returned (.bool true) ∧ Below W.heap.size W w') := fun W => HSA.out W ⟨re, rv, rt⟩
  clear HSA
  unfold resV resCells at *
  generalize traceB rt = tt at *
  obtain ⟨M, hM⟩ : ∃ M, M = zs.length := ⟨_, rfl⟩
  rw [← hM] at HLN HR HDR HST HLS hzl ⊢
  clear hM
  go_enter Tryz.func11, Tryz.ntmps11
  go_wp2_with (first
    | (go_at_call 25; refine (HLN.out _ (Below.refl _ _)).mono ?_; rintro e w1 ⟨⟨x, rfl, hL⟩, hb1⟩; have HL1 : Hid (LentIn w1 x zs) := hL; have HB1 : Hid (Below w.heap.size w w1) := hb1; obtain ⟨ax, lx, cx, y, bx, dx, rfl, rfl, hry, hsl⟩ := HLS.out w1 x hL; have HRY : Hid _ := hry; clear hL hb1 hry)
    | (go_at_call 14; refine (HR.out _ _ HB1.out HRY.out).mono ?_; rintro e w2 ⟨rfl, hb2⟩; have HB2 : Hid (Below w1.heap.size w1 w2) := hb2; clear hb2)
    | (go_at_call 26; refine (HDR.out _ ((HB1.out.trans (HB2.out.mono HB1.out.size)).alloc (Nat.le_trans HB1.out.size HB2.out.size) _)).mono ?_; rintro e w4 ⟨rfl, hb4⟩; have HB4 : Hid (Below w2.heap.size w2 w4) := ((Below.refl _ _).alloc (Nat.le_refl _) _).trans (hb4.mono (by simp)); have HX4 : Hid (BoxIn w4 w2.heap.size 30 [.bool re, .int .i64 rv, .string tt]) := (BoxIn.new w2 30 [.bool re, .int .i64 rv, .string tt]).below hb4; clear hb4)
    | (refine wpList_load_box aggRes rfl _ rfl _ rfl _ rfl (HX4.out.below ((Below.refl _ _).alloc (Nat.le_refl _) _)) ?_)
    | (go_at_call 27; refine (HSA'.out _).mono ?_; rintro e w5 ⟨rfl, hb5⟩; have HB5 : Hid (Below w1.heap.size w1 w5) := (HB2.out.trans (HB4.out.mono HB2.out.size)).trans (((Below.refl _ _).alloc (Nat.le_refl _) _).trans (hb5.mono (by simp)) |>.mono (Nat.le_trans HB2.out.size HB4.out.size)); clear hb5)
    | (go_at_call 28; refine (HST.out _ _ (HB1.out.trans (HB5.out.mono HB1.out.size)) (HL1.out.below HB5.out)).mono ?_; rintro e w6 ⟨rfl, hb6⟩; have HB6 : Hid (Below w.heap.size w w6) := (HB1.out.trans (HB5.out.mono HB1.out.size)).trans (hb6.mono (Nat.le_trans HB1.out.size HB5.out.size)); clear hb6)
    | (go_at_call 24; refine (HNM.out _ _).mono ?_; rintro e w3 ⟨rfl, hw3⟩; rw [hw3]; clear hw3))
  go_ret
  exact ⟨by simp, HB6.out⟩

set_option maxRecDepth 100000 in
set_option maxHeartbeats 1000000 in
theorem ran_any (hD : RunsDoc) (w : World) (base0 : Nat) (s t : BA) (hs : s.size ≤ 4294967280) (ht : t.size ≤ 4294967280) (hE : Env base0 w) (v v2 : Value) (zs zs2 : List Int) (hv : RdS w 1 v zs.length (ints zs)) (hz64 : ∀ z ∈ zs, fits64 z) (hzl : zs.length ≤ 10000000) (hv2 : RdS w 1 v2 zs2.length (ints zs2)) (hz64' : ∀ z ∈ zs2, fits64 z) (hzl2 : zs2.length ≤ 10000000) (fuel less : Int) :
    Calls Tryz.prog 4 #[.string s, v, .int .i64 fuel, .string t, v2, .int .i64 less] w fun e w' => e = .returned (.bool true) ∧ Below w.heap.size w w' := by
  have HC1 : Hid (∀ W x f, Below w.heap.size w W → x.size ≤ 4294967280 → Calls Tryz.prog 11 #[.string x, v, .int .i64 f] W fun e w' => e = .returned (.bool true) ∧ Below w.heap.size w w') := fun W x f hb hx => (lrun_any hD W base0 x hx (hE.below hb) v zs (hv.below hb) hz64 hzl f).mono (by rintro e w' ⟨h1, h2⟩; exact ⟨h1, hb.trans (h2.mono hb.size)⟩)
  have HC2 : Hid (∀ W x f, Below w.heap.size w W → x.size ≤ 4294967280 → Calls Tryz.prog 11 #[.string x, v2, .int .i64 f] W fun e w' => e = .returned (.bool true) ∧ Below w.heap.size w w') := fun W x f hb hx => (lrun_any hD W base0 x hx (hE.below hb) v2 zs2 (hv2.below hb) hz64' hzl2 f).mono (by rintro e w' ⟨h1, h2⟩; exact ⟨h1, hb.trans (h2.mono hb.size)⟩)
  have HC3 : Hid (∀ W W0 x f, W = W0.alloc (.cells #[.int .i64 2] 2) → Below w.heap.size w W0 → x.size ≤ 4294967280 → Calls Tryz.prog 11 #[.string x, .slice (some ⟨W0.heap.size, 0, none⟩) 1 1, .int .i64 f] W fun e w' => e = .returned (.bool true) ∧ Below w.heap.size w w') := by
    intro W W0 x f hW hb hx
    have hb' : Below w.heap.size w W := by rw [hW]; exact hb.alloc hb.size _
    refine (lrun_any hD W base0 x hx (hE.below hb') _ [2] ?_ (by simp [fits64]) (by simp) f).mono (by rintro e w' ⟨h1, h2⟩; exact ⟨h1, hb'.trans (h2.mono hb'.size)⟩)
    rw [hW]
    exact ⟨rfl, _, _, rfl, .inr ⟨W0.heap.size, 0, rfl, fun j u hj => by rw [Nat.zero_add]; exact (BoxIn.new W0 2 [.int .i64 2]).cell hj⟩⟩
  obtain ⟨ao, cp, rfl, -⟩ := hv.cells
  obtain ⟨ao2, cp2, rfl, -⟩ := hv2.cells
  clear hD hE hv hz64 hv2 hz64'
  have HB0 : Hid (Below w.heap.size w w) := Below.refl _ _
  go_enter Tryz.func4, Tryz.ntmps4
  go_wp2_with (first
    | (go_at_call_of 11 (Value.slice ao zs.length cp); refine (HC1.out _ _ _ HB0.out (by first | exact hs | exact ht)).mono ?_; rintro e w1 ⟨rfl, hb1⟩; clear HB0; have HB0 : Hid (Below w.heap.size w w1) := hb1; clear hb1)
    | (go_at_call_of 11 (Value.slice ao2 zs2.length cp2); refine (HC2.out _ _ _ HB0.out (by first | exact hs | exact ht)).mono ?_; rintro e w1 ⟨rfl, hb1⟩; clear HB0; have HB0 : Hid (Below w.heap.size w w1) := hb1; clear hb1)
    | (go_at_call 11; refine (HC3.out _ _ _ _ rfl HB0.out (by decide)).mono ?_; rintro e w1 ⟨rfl, hb1⟩; clear HB0; have HB0 : Hid (Below w.heap.size w w1) := hb1; clear hb1))
  go_ret
  exact ⟨by simp, HB0.out⟩

end Go.Proofs.YtbddcodljmglfaaGreatDoor
