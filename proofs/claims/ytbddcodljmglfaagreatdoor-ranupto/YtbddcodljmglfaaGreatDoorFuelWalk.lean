/- Fueled: more fuel goes on where less has stopped. -/
import Derived.Test.YtbddcodljmglfaaGreatDoorRunTop
import Derived.Test.YtbddcodljmglfaaGreatDoorRunEx
import Derived.Deep.RegionWith
set_option linter.unusedSimpArgs false
set_option linter.unusedVariables false
namespace Go.Proofs.YtbddcodljmglfaaGreatDoor
open Go.RowKit

def pickN (c : Int) (n : Nat) : Nat := ((if c < 0 then -(c + 1) else c) % (n : Int)).toNat
theorem pickN_lt (c : Int) {n : Nat} (h : 0 < n) : pickN c n < n := by
  unfold pickN
  have h1 := Int.emod_lt_of_pos (if c < 0 then -(c + 1) else c) (show (0 : Int) < (n : Int) by omega)
  have h2 := Int.emod_nonneg (if c < 0 then -(c + 1) else c) (show (n : Int) ≠ 0 by omega)
  omega
theorem ret_int {k : IntKind} {a b : Int} (h : a = b) : Ending.returned (.int k a) = .returned (.int k b) := by rw [h]

theorem pick_any (c : Int) (n : Nat) (w : World) (h1 : -9223372036854775808 ≤ c) (h2 : c ≤ 9223372036854775807) (hn : 0 < n) (hn2 : n ≤ 1000000) :
    Calls Tryz.prog 13 #[.int .i64 c, .int .i64 n] w fun e w' => e = .returned (.int .i64 (pickN c n)) ∧ w' = w := by
  have hn' : (0 : Int) < (n : Int) := by omega
  have hn3 : (n : Int) ≤ 1000000 := by omega
  by_cases hc : c < 0
  · have e : Hid ((-(c + 1)).tmod (n : Int) = (pickN c n : Int)) := by
      show _ = _
      have h3 := Int.emod_nonneg (-(c + 1)) (show (n : Int) ≠ 0 by omega)
      rw [pickN, if_pos hc, Int.tmod_eq_emod_of_nonneg (by omega)]
      omega
    go_enter Tryz.func13, Tryz.ntmps13
    go_wp2
    go_ret
    exact ⟨ret_int (by simpa using e.out), rfl⟩
  · have e : Hid (c.tmod (n : Int) = (pickN c n : Int)) := by
      show _ = _
      have h3 := Int.emod_nonneg c (show (n : Int) ≠ 0 by omega)
      rw [pickN, if_neg hc, Int.tmod_eq_emod_of_nonneg (by omega)]
      omega
    have hc' : 0 ≤ c := by omega
    go_enter Tryz.func13, Tryz.ntmps13
    go_wp2
    go_ret
    refine ⟨ret_int ?_, rfl⟩
    have := e.out
    rw [Int.tmod_eq_emod_of_nonneg (by omega)] at this
    simpa [Int.tmod_eq_emod_of_nonneg hc'] using this

/-- Does a text begin with another one, up to a blank? -/
def Starts (s t : BA) : Prop := t.size = 0 ∨ s = t ∨ ∃ u, s.data.toList = t.data.toList ++ 32 :: u

theorem ba_nil3 {x : BA} : ByteArray.toList x = [] ↔ x.size = 0 := by
  rw [ByteArray.toList_eq]
  constructor
  · intro h
    have h2 : x.data.toList.length = 0 := by rw [h]; rfl
    rw [Array.length_toList] at h2
    exact h2
  · intro h
    apply List.eq_nil_of_length_eq_zero
    rw [Array.length_toList]
    exact h
theorem joinTail_app (sep : List UInt8) (a b : List (List UInt8)) : Lib.joinTail sep (a ++ b) = Lib.joinTail sep a ++ Lib.joinTail sep b := by simp [Lib.joinTail]
theorem trace_starts (tr C : List Int) : Starts (traceB (tr ++ C)) (traceB tr) := by
  cases tr with
  | nil => exact .inl rfl
  | cons a r =>
    cases C with
    | nil => right; left; rw [List.append_nil]
    | cons c C =>
      right; right
      refine ⟨Lib.itoa c ++ Lib.joinTail [32] (C.map Lib.itoa), ?_⟩
      show Lib.join ((a :: r ++ c :: C).map Lib.itoa) [32] = Lib.join ((a :: r).map Lib.itoa) [32] ++ _
      rw [List.map_append, List.map_cons, List.cons_append, Lib.join_cons, Lib.join_cons, joinTail_app, List.append_assoc, List.map_cons]
      simp [Lib.joinTail]

set_option maxRecDepth 100000 in
theorem starts_true (w : World) (s t : BA) (h : Starts s t) : Calls Tryz.prog 15 #[.string s, .string t] w fun e w' => e = .returned (.bool true) ∧ w' = w := by
  by_cases h0 : t.size = 0
  · have ht : (ByteArray.toList t == []) = true := by rw [beq_iff_eq]; exact ba_nil3.2 h0
    clear h h0
    go_enter Tryz.func15, Tryz.ntmps15
    go_wp2
    go_ret
    exact ⟨rfl, rfl⟩
  · have ht : (ByteArray.toList t == []) = false := by rw [beq_eq_false_iff_ne]; exact fun h => h0 (ba_nil3.1 h)
    rcases h with h | rfl | ⟨u, h⟩
    · exact absurd h h0
    · clear h0
      go_enter Tryz.func15, Tryz.ntmps15
      go_wp2
      go_ret
      exact ⟨by simp, rfl⟩
    · have hsz : s.size = t.size + 1 + u.length := by
        have := congrArg List.length h
        rw [Array.length_toList, List.length_append, Array.length_toList] at this
        simp only [List.length_cons] at this
        show s.data.size = t.data.size + 1 + u.length
        omega
      have hne : (ByteArray.toList s == ByteArray.toList t) = false := by
        rw [beq_eq_false_iff_ne]
        intro e
        have := ba_ext e
        subst this
        omega
      have hlt : (t.size : Int) < (s.size : Int) := by omega
      have hlt2 : t.size < s.size := by omega
      have hle : (t.size : Int) ≤ (s.size : Int) := by omega
      have hpre : (ByteArray.toList (s.extract 0 t.size) == ByteArray.toList t) = true := by
        rw [beq_iff_eq, ByteArray.toList_eq, ByteArray.toList_eq, extract_list, h]
        have e : t.size = t.data.toList.length := by rw [Array.length_toList]; rfl
        rw [e]
        simp
      have hb : (s[t.size]).toNat = 32 := by
        have e : s.data.toList[t.size]? = some 32 := by
          rw [h]
          have e : t.size = t.data.toList.length := by rw [Array.length_toList]; rfl
          rw [e]
          simp
        have e2 : s.data.toList[t.size]? = some s[t.size] := by
          rw [Array.getElem?_toList, Array.getElem?_eq_getElem hlt2]
          rfl
        rw [e2] at e
        injection e with e
        rw [e]
        rfl
      clear h hsz
      go_enter Tryz.func15, Tryz.ntmps15
      go_wp2
      go_ret
      exact ⟨by simp, rfl⟩

set_option maxRecDepth 100000 in
set_option maxHeartbeats 4000000 in
theorem awake_any (w : World) (base0 : Nat) (hE : Env base0 w) : Calls Tryz.prog 12 #[] w fun e w' => e = .returned (.bool true) ∧ Below w.heap.size w w' := by
  have HR : Hid (∀ W b, Below w.heap.size w W → RdS W 1 (.slice (some ⟨b, 0, none⟩) 1 1) 1 [.int .i64 2] → Calls Tryz.prog 14 #[.string exB, .slice (some ⟨b, 0, none⟩) 1 1, .int .i64 30] W fun e w' => e = .returned (.tuple #[.agg #[.bool true, .int .i64 2, .string (traceB [0, 1])], .int .i64 0, .int .i64 0]) ∧ Below W.heap.size W w') := by
    intro W b hb hx
    have := rRun_any W base0 exB (by decide) (hE.below hb) _ [2] hx (by simp [fits64]) 30
    rw [ex_run] at this
    exact this
  have HT : traceB [0, 1] = ⟨#[48, 32, 49]⟩ := by kernel_rfl
  rw [HT] at HR
  clear hE HT
  unfold exB at HR
  go_enter Tryz.func12, Tryz.ntmps12
  have hx : Hid (RdS (w.alloc (.cells #[.int .i64 2] 2)) 1 (.slice (some ⟨w.heap.size, 0, none⟩) 1 1) 1 [.int .i64 2]) := ⟨rfl, _, _, rfl, .inr ⟨w.heap.size, 0, rfl, fun j u hj => by rw [Nat.zero_add]; exact (BoxIn.new w 2 [.int .i64 2]).cell hj⟩⟩
  go_wp2_with (first
    | (go_at_call 14; refine (HR.out _ _ ((Below.refl _ _).alloc (Nat.le_refl _) _) hx.out).mono ?_; rintro e w1 ⟨rfl, hb1⟩; have HB1 : Hid (Below w.heap.size w w1) := ((Below.refl _ _).alloc (Nat.le_refl _) _).trans (hb1.mono (by simp)); clear hb1))
  go_ret
  exact ⟨rfl, HB1.out.alloc HB1.out.size _⟩

theorem resG_fuel (s : BA) (xs : List Int) (n m : Nat) (hn : n ≤ m) (hm : m ≤ 2000) :
    (resG s xs (n : Int)).2 = (resG s xs (m : Int)).2 ∧ ((resG s xs (n : Int)).2.1 ≠ 0 → (resG s xs (n : Int)).1 = ⟨false, 0, []⟩ ∧ (resG s xs (m : Int)).1 = ⟨false, 0, []⟩) ∧
    ((resG s xs (n : Int)).1.ended = true → (resG s xs (m : Int)).1 = (resG s xs (n : Int)).1) ∧ ((resG s xs (n : Int)).1.ended = false → (resG s xs (n : Int)).1.value = 0) ∧ Starts (traceB (resG s xs (m : Int)).1.trace) (traceB (resG s xs (n : Int)).1.trace) := by
  unfold resG
  cases hp : progG s with
  | error e => exact ⟨rfl, fun _ => ⟨rfl, rfl⟩, fun _ => rfl, fun _ => rfl, .inl rfl⟩
  | ok r =>
    obtain ⟨A, bs⟩ := r
    have h1 : ¬ ((n : Int) < 0 ∨ 2000 < (n : Int)) := by omega
    have h2 : ¬ ((m : Int) < 0 ∨ 2000 < (m : Int)) := by omega
    simp only [h1, h2, if_false, Int.toNat_natCast]
    obtain ⟨d, rfl⟩ : ∃ d, m = n + d := ⟨m - n, by omega⟩
    obtain ⟨g1, g2, C, g3, -⟩ := runG_more bs n d (startG A xs) (linesAt bs 0) []
    refine ⟨by simp, by simp, g1, g2, ?_⟩
    rw [g3]
    exact trace_starts _ C

set_option maxRecDepth 100000 in
set_option maxHeartbeats 8000000 in
theorem fueled_any (w : World) (base0 : Nat) (s : BA) (hs : s.size ≤ 4294967280) (hE : Env base0 w) (argv : Value) (xs : List Int) (hx : RdS w 1 argv xs.length (ints xs)) (hx64 : ∀ x ∈ xs, fits64 x) (fuel more : Int) (hf : fits64 fuel) (hm : fits64 more) :
    Calls Tryz.prog 5 #[.string s, argv, .int .i64 fuel, .int .i64 more] w fun e w' => e = .returned (.bool true) ∧ Below w.heap.size w w' := by
  have HA : Hid (Calls Tryz.prog 12 #[] w fun e w' => e = .returned (.bool true) ∧ Below w.heap.size w w') := awake_any w base0 hE
  obtain ⟨n, hn⟩ : ∃ n, n = pickN fuel 2001 := ⟨_, rfl⟩
  have hn2 : n ≤ 2000 := by have := pickN_lt fuel (show 0 < 2001 by decide); omega
  obtain ⟨d, hd⟩ : ∃ d, d = pickN more (2001 - n) := ⟨_, rfl⟩
  have hd2 : n + d ≤ 2000 := by have := pickN_lt more (show 0 < 2001 - n by omega); omega
  have HP1 : Hid (∀ W, Calls Tryz.prog 13 #[.int .i64 fuel, .int .i64 2001] W fun e w' => e = .returned (.int .i64 (n : Int)) ∧ w' = W) := fun W => by rw [hn]; exact pick_any fuel 2001 W hf.1 hf.2 (by decide) (by decide)
  have HP2 : Hid (∀ W, Calls Tryz.prog 13 #[.int .i64 more, .int .i64 (2001 - (n : Int))] W fun e w' => e = .returned (.int .i64 (d : Int)) ∧ w' = W) := fun W => by
    have := pick_any more (2001 - n) W hm.1 hm.2 (by omega) (by omega)
    rw [show (((2001 - n : Nat)) : Int) = 2001 - (n : Int) by omega] at this
    rw [hd]
    exact this
  have HR : Hid (∀ W (k : Nat), Below w.heap.size w W → Calls Tryz.prog 14 #[.string s, argv, .int .i64 (k : Int)] W fun e w' => e = .returned (.tuple #[resV (resG s xs (k : Int)).1, .int .i64 ((resG s xs (k : Int)).2.1 : Int), .int .i64 ((resG s xs (k : Int)).2.2 : Int)]) ∧ Below W.heap.size W w') := fun W k hb => rRun_any W base0 s hs (hE.below hb) argv xs (hx.below hb) hx64 k
  have HF := resG_fuel s xs n (n + d) (by omega) hd2
  have HR1 : Hid (∀ W, Below w.heap.size w W → Calls Tryz.prog 14 #[.string s, argv, .int .i64 (n : Int)] W fun e w' => e = .returned (.tuple #[resV (resG s xs (n : Int)).1, .int .i64 ((resG s xs (n : Int)).2.1 : Int), .int .i64 ((resG s xs (n : Int)).2.2 : Int)]) ∧ Below W.heap.size W w') := fun W hb => HR.out W n hb
  have HR2 : Hid (∀ W, Below w.heap.size w W → Calls Tryz.prog 14 #[.string s, argv, .int .i64 ((n : Int) + (d : Int))] W fun e w' => e = .returned (.tuple #[resV (resG s xs ((n + d : Nat) : Int)).1, .int .i64 ((resG s xs ((n + d : Nat) : Int)).2.1 : Int), .int .i64 ((resG s xs ((n + d : Nat) : Int)).2.2 : Int)]) ∧ Below W.heap.size W w') := fun W hb => by
    have := HR.out W (n + d) hb
    rw [show (((n + d : Nat)) : Int) = (n : Int) + (d : Int) by omega] at this ⊢
    exact this
  generalize resG s xs (n : Int) = q1 at HF HR1
  generalize resG s xs ((n + d : Nat) : Int) = q2 at HF HR2
  obtain ⟨⟨e1, v1, t1⟩, c1, i1⟩ := q1
  obtain ⟨⟨e2, v2, t2⟩, c2, i2⟩ := q2
  obtain ⟨f1, f2, f3, f4, f5⟩ := HF
  simp only [Prod.mk.injEq] at f1
  obtain ⟨rfl, rfl⟩ := f1
  simp only [RunR.mk.injEq] at f2 f3
  simp only at f4 f5
  have HS : Hid (∀ W, Calls Tryz.prog 15 #[.string (traceB t2), .string (traceB t1)] W fun e w' => e = .returned (.bool true) ∧ w' = W) := fun W => starts_true W _ _ f5
  have hnn : (n : Int) ≤ 2000 := by omega
  have hnd : (n : Int) + (d : Int) ≤ 2000 := by omega
  have hn0 : (0 : Int) ≤ (n : Int) := by omega
  have hd0 : (0 : Int) ≤ (d : Int) := by omega
  unfold resV resCells at HR1 HR2
  clear hE hx HR f5 hn hd hx64 hf hm
  simp only at HR1 HR2
  have h2s : c1 ≠ 0 → e1 = false ∧ v1 = 0 ∧ traceB t1 = ⟨#[]⟩ ∧ e2 = false ∧ v2 = 0 ∧ traceB t2 = ⟨#[]⟩ := by
    intro h
    obtain ⟨⟨a1, a2, a3⟩, b1, b2, b3⟩ := f2 h
    exact ⟨a1, a2, by rw [a3]; rfl, b1, b2, by rw [b3]; rfl⟩
  have h3s : e1 = true → e2 = true ∧ v2 = v1 ∧ traceB t2 = traceB t1 := by
    intro h
    obtain ⟨a1, a2, a3⟩ := f3 h
    exact ⟨by rw [a1, h], a2, by rw [a3]⟩
  generalize traceB t1 = s1 at *
  generalize traceB t2 = s2 at *
  clear f2 f3
  by_cases hc : c1 = 0
  · subst hc
    clear h2s
    cases he : e1 with
    | true =>
      subst he
      obtain ⟨rfl, rfl, rfl⟩ := h3s rfl
      clear h3s f4
      go_enter Tryz.func5, Tryz.ntmps5
      go_wp2_with (first
        | (go_at_call 12; refine HA.out.mono ?_; rintro e w1 ⟨rfl, hb1⟩; have HB1 : Hid (Below w.heap.size w w1) := hb1; clear hb1)
        | (go_at_call_of 13 (Value.int IntKind.i64 fuel); refine (HP1.out _).mono ?_; rintro e w2 ⟨rfl, hw2⟩; rw [hw2]; clear hw2)
        | (go_at_call_of 13 (Value.int IntKind.i64 more); refine (HP2.out _).mono ?_; rintro e w2 ⟨rfl, hw2⟩; rw [hw2]; clear hw2)
        | (go_at_call_of 14 (Value.int IntKind.i64 (n : Int)); refine (HR1.out _ HB1.out).mono ?_; rintro e w3 ⟨rfl, hb3⟩; have HB3 : Hid (Below w.heap.size w w3) := HB1.out.trans (hb3.mono HB1.out.size); clear hb3)
        | (go_at_call_of 14 (Value.int IntKind.i64 ((n : Int) + (d : Int))); refine (HR2.out _ (HB3.out.alloc HB3.out.size _)).mono ?_; rintro e w4 ⟨rfl, hb4⟩; have HB4 : Hid (Below w.heap.size w w4) := (HB3.out.alloc HB3.out.size _).trans (hb4.mono (Nat.le_trans HB3.out.size (by simp))); have HX4 : Hid (BoxIn w4 w3.heap.size 30 [.bool true, .int .i64 v2, .string s2]) := (BoxIn.new w3 30 [.bool true, .int .i64 v2, .string s2]).below hb4; have z0 := HX4.out.cell (k := 0) rfl; have z1 := HX4.out.cell (k := 1) rfl; have z2 := HX4.out.cell (k := 2) rfl; have hz3 : w3.heap.size < w4.heap.size := HX4.out.lt; clear hb4)
        | (go_at_call 15; refine (HS.out _).mono ?_; rintro e w5 ⟨rfl, hw5⟩; rw [hw5]; clear hw5))
      all_goals go_ret
      all_goals exact ⟨by first | rfl | simp, by first | exact HB4.out.alloc HB4.out.size _ | exact (HB4.out.alloc HB4.out.size _).drew⟩
    | false =>
      subst he
      obtain rfl := f4 rfl
      clear h3s f4
      go_enter Tryz.func5, Tryz.ntmps5
      go_wp2_with (first
        | (go_at_call 12; refine HA.out.mono ?_; rintro e w1 ⟨rfl, hb1⟩; have HB1 : Hid (Below w.heap.size w w1) := hb1; clear hb1)
        | (go_at_call_of 13 (Value.int IntKind.i64 fuel); refine (HP1.out _).mono ?_; rintro e w2 ⟨rfl, hw2⟩; rw [hw2]; clear hw2)
        | (go_at_call_of 13 (Value.int IntKind.i64 more); refine (HP2.out _).mono ?_; rintro e w2 ⟨rfl, hw2⟩; rw [hw2]; clear hw2)
        | (go_at_call_of 14 (Value.int IntKind.i64 (n : Int)); refine (HR1.out _ HB1.out).mono ?_; rintro e w3 ⟨rfl, hb3⟩; have HB3 : Hid (Below w.heap.size w w3) := HB1.out.trans (hb3.mono HB1.out.size); clear hb3)
        | (go_at_call_of 14 (Value.int IntKind.i64 ((n : Int) + (d : Int))); refine (HR2.out _ (HB3.out.alloc HB3.out.size _)).mono ?_; rintro e w4 ⟨rfl, hb4⟩; have HB4 : Hid (Below w.heap.size w w4) := (HB3.out.alloc HB3.out.size _).trans (hb4.mono (Nat.le_trans HB3.out.size (by simp))); have HX4 : Hid (BoxIn w4 w3.heap.size 30 [.bool false, .int .i64 0, .string s1]) := (BoxIn.new w3 30 [.bool false, .int .i64 0, .string s1]).below hb4; have z0 := HX4.out.cell (k := 0) rfl; have z1 := HX4.out.cell (k := 1) rfl; have z2 := HX4.out.cell (k := 2) rfl; have hz3 : w3.heap.size < w4.heap.size := HX4.out.lt; clear hb4)
        | (go_at_call 15; refine (HS.out _).mono ?_; rintro e w5 ⟨rfl, hw5⟩; rw [hw5]; clear hw5))
      all_goals go_ret
      all_goals exact ⟨by first | rfl | simp, by first | exact HB4.out.alloc HB4.out.size _ | exact (HB4.out.alloc HB4.out.size _).drew⟩
  · obtain ⟨rfl, rfl, rfl, rfl, rfl, rfl⟩ := h2s hc
    have hc' : ((c1 : Int) == 0) = false := by rw [beq_eq_false_iff_ne]; omega
    clear h2s h3s f4 hc
    go_enter Tryz.func5, Tryz.ntmps5
    go_wp2_with (first
        | (go_at_call 12; refine HA.out.mono ?_; rintro e w1 ⟨rfl, hb1⟩; have HB1 : Hid (Below w.heap.size w w1) := hb1; clear hb1)
        | (go_at_call_of 13 (Value.int IntKind.i64 fuel); refine (HP1.out _).mono ?_; rintro e w2 ⟨rfl, hw2⟩; rw [hw2]; clear hw2)
        | (go_at_call_of 13 (Value.int IntKind.i64 more); refine (HP2.out _).mono ?_; rintro e w2 ⟨rfl, hw2⟩; rw [hw2]; clear hw2)
        | (go_at_call_of 14 (Value.int IntKind.i64 (n : Int)); refine (HR1.out _ HB1.out).mono ?_; rintro e w3 ⟨rfl, hb3⟩; have HB3 : Hid (Below w.heap.size w w3) := HB1.out.trans (hb3.mono HB1.out.size); clear hb3)
        | (go_at_call_of 14 (Value.int IntKind.i64 ((n : Int) + (d : Int))); refine (HR2.out _ (HB3.out.alloc HB3.out.size _)).mono ?_; rintro e w4 ⟨rfl, hb4⟩; have HB4 : Hid (Below w.heap.size w w4) := (HB3.out.alloc HB3.out.size _).trans (hb4.mono (Nat.le_trans HB3.out.size (by simp))); have HX4 : Hid (BoxIn w4 w3.heap.size 30 [.bool false, .int .i64 0, .string ⟨#[]⟩]) := (BoxIn.new w3 30 [.bool false, .int .i64 0, .string ⟨#[]⟩]).below hb4; have z0 := HX4.out.cell (k := 0) rfl; have z1 := HX4.out.cell (k := 1) rfl; have z2 := HX4.out.cell (k := 2) rfl; have hz3 : w3.heap.size < w4.heap.size := HX4.out.lt; clear hb4)
        | (go_at_call 15; refine (HS.out _).mono ?_; rintro e w5 ⟨rfl, hw5⟩; rw [hw5]; clear hw5))
    all_goals go_ret
    all_goals exact ⟨by first | rfl | simp, by first | exact HB4.out.alloc HB4.out.size _ | exact (HB4.out.alloc HB4.out.size _).drew⟩

end Go.Proofs.YtbddcodljmglfaaGreatDoor
