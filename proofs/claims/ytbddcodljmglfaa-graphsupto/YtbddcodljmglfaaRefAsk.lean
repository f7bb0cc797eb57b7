/- The document's own: is, over, Over, ends, under, Under. -/
import Derived.Test.YtbddcodljmglfaaRefFrom
import Derived.Test.YtbddcodljmglfaaAsk
import Derived.Deep.LoopGhost
set_option linter.unusedSimpArgs false
set_option linter.unusedVariables false
namespace Go.Proofs.Ytbddcodljmglfaa
open Go.RowKit

theorem refIs_any (w : World) (g n : Nat) (c0 : w.cell? ⟨g, 0, none⟩ = some (.int .i64 n)) (a : Int) :
    Calls Try.prog 66 #[.pointer (some ⟨g, 0, none⟩), .int .i64 a] w fun e w' => e = .returned (.bool (isNode n a)) ∧ w' = w := by
  by_cases h1 : 0 ≤ a
  · by_cases h2 : a < n
    · have e : Hid (isNode n a = true) := isNode_iff.2 ⟨h1, h2⟩
      go_enter Try.func66, Try.ntmps66
      go_wp2
      go_ret
      exact ⟨by rw [e.out]; rfl, rfl⟩
    · have e : Hid (isNode n a = false) := isNode_no.2 (by omega)
      go_enter Try.func66, Try.ntmps66
      go_wp2
      go_ret
      exact ⟨by rw [e.out]; rfl, rfl⟩
  · have e : Hid (isNode n a = false) := isNode_no.2 (by omega)
    go_enter Try.func66, Try.ntmps66
    go_wp2
    go_ret
    exact ⟨by rw [e.out]; rfl, rfl⟩

set_option maxRecDepth 100000 in
set_option maxHeartbeats 1000000 in
theorem refOver_in (w : World) (g n : Nat) (L : List (Nat × Nat)) (D : List Bool) (h : RefIn w g n L D) (a b : Nat) (ha : a < n) (hb : b < n) :
    Calls Try.prog 67 #[.pointer (some ⟨g, 0, none⟩), .int .i64 a, .int .i64 b] w fun e w' => ∃ r : Bool, e = .returned (.bool r) ∧ (r = true ↔ HeldF L a b) ∧ Below w.heap.size w w' := by
  have HR : Hid (RefIn w g n L D) := h
  have hle := h.le
  clear h
  go_enter Try.func67, Try.ntmps67
  go_wp2_with fail
  refine (refFrom_any w g n L D HR.out 0 HR.out.pos (-1)).mono ?_
  rintro e w1 ⟨S1, rfl, hl1, hs1, hB1⟩
  go_wp2_with (first | (refine wpList_keep_arr rfl rfl rfl _ _ rfl S1 hl1 rfl rfl ?_; intro w2 hA2 hB2 hS2))
  have HB2 : Hid (Below w.heap.size w w2) := hB1.trans (hB2.mono hB1.size)
  refine (refFrom_any w2 g n L D (HR.out.below HB2.out) 0 HR.out.pos a).mono ?_
  rintro e w3 ⟨S2, rfl, hl2, hs2, hB3⟩
  have hA3 := hA2.below hB3
  have HB3 : Hid (Below w.heap.size w w3) := HB2.out.trans (hB3.mono HB2.out.size)
  have hlt1 := blk_lt hA3.blk
  obtain ⟨r1, hr1⟩ : ∃ r1, S1.getD b false = r1 := ⟨_, rfl⟩
  obtain ⟨r2, hr2⟩ : ∃ r2, S2.getD b false = r2 := ⟨_, rfl⟩
  have H1 : Hid (S1.getD b false = r1) := hr1
  have H2 : Hid (S2.getD b false = r2) := hr2
  have HFIN : Hid ((r1 && !r2) = true ↔ HeldF L a b) := by
    show _ ↔ _
    rw [← hr1, ← hr2]
    unfold HeldF
    rw [show Fwd L (-1) b ↔ S1.getD b false = true from (hs1 b).symm, show Fwd L a b ↔ S2.getD b false = true from (hs2 b).symm]
    simp only [Bool.and_eq_true, Bool.not_eq_true', Bool.not_eq_true]
  clear hB1 hB2 hB3 hA2 hr1 hr2 hs1 hs2
  generalize w1.heap.size = k1 at hA3 hlt1 ⊢
  cases r1 <;> cases r2
  all_goals
    go_wp2_with (first | (refine wpList_keep_arr rfl rfl rfl _ _ rfl S2 hl2 rfl rfl ?_; intro w4 hA4 hB4 hS4; have hA34 := hA3.below hB4; have c1 := (hA34.cell (k := b) (by omega)).1; rw [H1.out] at c1; have c2 := (hA4.cell (k := b) (by omega)).1; rw [H2.out] at c2; have HB4 : Hid (Below w.heap.size w w4) := HB3.out.trans (hB4.mono HB3.out.size)))
    go_ret
    exact ⟨_, rfl, HFIN.out, HB4.out⟩

theorem RA.via {S : Nat → Prop} {E : Nat → Nat → Prop} {x : Int} {a b : Nat} (h : RA S E x a) (hb : RA (· = a) E x b) : RA S E x b :=
  Reach.ind hb (fun b => RA S E x b) (fun c hc => by rw [hc.1]; exact h) (fun _ _ _ h he => Reach.step h he)

theorem bwd_ends {L : List (Nat × Nat)} {D : List Bool} {x : Int} {b : Nat} : Bwd L D x b ↔ ∃ e, RA (· = b) (fun u v => (u, v) ∈ L) x e ∧ D.getD e false = true := by
  constructor
  · intro h
    refine Reach.ind h (fun b => ∃ e, RA (· = b) (fun u v => (u, v) ∈ L) x e ∧ D.getD e false = true) (fun a ha => ⟨a, Reach.start ⟨rfl, ha.2⟩, ha.1⟩) ?_
    rintro a c _ ⟨e, he, hd⟩ ⟨hL, hc⟩
    have hax : (a : Int) ≠ x := Reach.ind he (fun _ => (a : Int) ≠ x) (fun z hz => by rw [← hz.1]; exact hz.2) (fun _ _ _ h _ => h)
    exact ⟨e, RA.via (Reach.step (Reach.start ⟨rfl, hc⟩) ⟨hL, hax⟩) he, hd⟩
  · rintro ⟨e, he, hd⟩
    exact Reach.ind he (fun v => Bwd L D x v → Bwd L D x b) (fun z hz h => by rw [← hz.1]; exact h) (fun u v hu hp hE hv => hp (Reach.step hv ⟨hE.1, RA.ne hu⟩)) (Reach.start ⟨hd, RA.ne he⟩)

theorem getD_lt {D : List Bool} {e n : Nat} (hl : D.length = n) (h : D.getD e false = true) : e < n := by
  rcases Nat.lt_or_ge e D.length with h' | h'
  · omega
  · simp [List.getD, List.getElem?_eq_none h'] at h

set_option maxRecDepth 100000 in
set_option maxHeartbeats 1000000 in
theorem refEnds_any (w : World) (g n : Nat) (L : List (Nat × Nat)) (D : List Bool) (h : RefIn w g n L D) (b : Nat) (hb : b < n) (x : Int) :
    Calls Try.prog 70 #[.pointer (some ⟨g, 0, none⟩), .int .i64 b, .int .i64 x] w fun e w' => ∃ r : Bool, e = .returned (.bool r) ∧ (r = true ↔ Bwd L D x b) ∧ Below w.heap.size w w' := by
  have HR : Hid (RefIn w g n L D) := h
  have hle := h.le
  clear h
  go_enter Try.func70, Try.ntmps70
  go_wp2_with fail
  refine (refFrom_any w g n L D HR.out b hb x).mono ?_
  rintro e w1 ⟨S, rfl, hl, hs, hB1⟩
  have HS : Hid (∀ y, S.getD y false = true ↔ RA (· = b) (fun u v => (u, v) ∈ L) x y) := hs
  have HB1 : Hid (Below w.heap.size w w1) := hB1
  clear hs hB1
  go_wp2_with (first | (refine wpList_keep_arr rfl rfl rfl _ _ rfl S hl rfl rfl ?_; intro w2 hA2 hB2 hS2))
  have HB2 : Hid (Below w.heap.size w w2) := HB1.out.trans (hB2.mono HB1.out.size)
  have HR2 : Hid (RefIn w2 g n L D) := HR.out.below HB2.out
  have HA2 : Hid (ArrIn w2 w1.heap.size S) := hA2
  clear hB2 hS2 hA2
  generalize w1.heap.size = k1 at HA2 ⊢
  go_loopg [8] n (fun gk s8 wr => ∃ k : Nat, k + gk = n ∧ s8 = .int .i64 k ∧ wr = w2 ∧ Hid (∀ e, e < k → S.getD e false = true → D.getD e false = false))
  case atStart => exact ⟨0, by omega, rfl, rfl, fun e he => by omega⟩
  case round =>
    obtain ⟨k, hkg, rfl, rfl, hno⟩ := hrel
    have c0 := HR2.out.c0
    by_cases hlt : k < n
    · have c1 := (HA2.out.cell (k := k) (by omega)).1
      have c2 := (HR2.out.cD (a := k) (by omega)).1
      obtain ⟨r1, hr1⟩ : ∃ r1, S.getD k false = r1 := ⟨_, rfl⟩
      obtain ⟨r2, hr2⟩ : ∃ r2, D.getD k false = r2 := ⟨_, rfl⟩
      rw [hr1] at c1
      rw [hr2] at c2
      have H1 : Hid (S.getD k false = r1) := hr1
      have H2 : Hid (D.getD k false = r2) := hr2
      have hnext : Hid (¬ (r1 = true ∧ r2 = true) → ∀ e, e < k + 1 → S.getD e false = true → D.getD e false = false) := by
        intro hn e he hse
        by_cases ek : e = k
        · rw [ek] at hse ⊢
          rw [hr1] at hse
          rw [hr2]
          cases r2
          · rfl
          · exact absurd ⟨hse, rfl⟩ hn
        · exact hno.out e (by omega) hse
      clear hr1 hr2
      cases r1
      · go_wp2_with fail
        go_roundg (n - (k + 1))
        case measure => omega
        case rel => exact ⟨k + 1, by omega, by go_num, rfl, hnext.out (by simp)⟩
      · cases r2
        · go_wp2_with fail
          go_roundg (n - (k + 1))
          case measure => omega
          case rel => exact ⟨k + 1, by omega, by go_num, rfl, hnext.out (by simp)⟩
        · have hfin : Hid (Bwd L D x b) := bwd_ends.2 ⟨k, (HS.out k).1 H1.out, H2.out⟩
          go_wp2_with fail
          try rw [Exit.noGoto_ret]
          go_ret
          first | exact .inr ⟨rfl, hfin.out, HB2.out⟩ | exact ⟨true, rfl, by simp [hfin.out], HB2.out⟩
    · have hfin : Hid (¬ Bwd L D x b) := by
        intro hbw
        obtain ⟨e, he, hd⟩ := bwd_ends.1 hbw
        have := hno.out e (by have := getD_lt HR2.out.len hd; omega) ((HS.out e).2 he)
        rw [this] at hd
        simp at hd
      go_wp2_with fail
      try rw [Exit.noGoto_ret]
      go_ret
      exact ⟨false, rfl, by simp [hfin.out], HB2.out⟩

theorem refUnder_in (w : World) (g n : Nat) (L : List (Nat × Nat)) (D : List Bool) (h : RefIn w g n L D) (a b : Nat) (ha : a < n) (hb : b < n) :
    Calls Try.prog 68 #[.pointer (some ⟨g, 0, none⟩), .int .i64 a, .int .i64 b] w fun e w' => ∃ r : Bool, e = .returned (.bool r) ∧ (r = true ↔ HeldB L D a b) ∧ Below w.heap.size w w' := by
  have HR : Hid (RefIn w g n L D) := h
  clear h
  go_enter Try.func68, Try.ntmps68
  go_wp2_with fail
  refine (refEnds_any w g n L D HR.out b hb (-1)).mono ?_
  rintro e w1 ⟨r1, rfl, hr1, hB1⟩
  have H1 : Hid (r1 = true ↔ Bwd L D (-1) b) := hr1
  have HB1 : Hid (Below w.heap.size w w1) := hB1
  clear hr1 hB1
  go_wp2_with fail
  refine (refEnds_any w1 g n L D (HR.out.below HB1.out) b hb a).mono ?_
  rintro e w2 ⟨r2, rfl, hr2, hB2⟩
  have HB2 : Hid (Below w.heap.size w w2) := HB1.out.trans (hB2.mono HB1.out.size)
  have HFIN : Hid ((r1 && !r2) = true ↔ HeldB L D a b) := by
    show _ ↔ _
    unfold HeldB
    rw [← H1.out, ← hr2]
    simp only [Bool.and_eq_true, Bool.not_eq_true', Bool.not_eq_true]
  clear hr2 hB2 H1
  cases r1 <;> cases r2
  all_goals
    go_wp2_with fail
    go_ret
    exact ⟨_, rfl, HFIN.out, HB2.out⟩

section
variable (w : World) (g n : Nat) (L : List (Nat × Nat)) (D : List Bool)
theorem refOver_no (h : RefIn w g n L D) (a b : Int) (hn : isNode n a = false ∨ isNode n b = false) :
    Calls Try.prog 47 #[.pointer (some ⟨g, 0, none⟩), .int .i64 a, .int .i64 b] w fun e w' => e = .returned (.tuple #[.bool false, .int .i64 2]) ∧ w' = w := by
  have c0 := h.c0
  clear h
  go_enter Try.func47, Try.ntmps47
  go_wp2_with fail
  refine (refIs_any w g n c0 a).mono ?_
  rintro e w' ⟨rfl, h9⟩
  replace h9 := h9.symm
  subst h9
  go_wp2_with fail
  refine (refIs_any w g n c0 b).mono ?_
  rintro e w' ⟨rfl, h9⟩
  replace h9 := h9.symm
  subst h9
  generalize isNode n a = r1 at hn
  generalize isNode n b = r2 at hn
  cases r1 <;> cases r2
  case true.true => simp at hn
  all_goals
    clear hn
    go_wp2_with fail
    go_ret2
    exact ⟨rfl, rfl⟩

theorem refOver_ok (h : RefIn w g n L D) (a b : Nat) (ha : a < n) (hb : b < n) :
    Calls Try.prog 47 #[.pointer (some ⟨g, 0, none⟩), .int .i64 a, .int .i64 b] w fun e w' => ∃ r : Bool, e = .returned (.tuple #[.bool r, .int .i64 0]) ∧ (r = true ↔ HeldF L a b) ∧ Below w.heap.size w w' := by
  have c0 := h.c0
  have HR : Hid (RefIn w g n L D) := h
  clear h
  go_enter Try.func47, Try.ntmps47
  go_wp2_with fail
  refine (refIs_any w g n c0 a).mono ?_
  rintro e w' ⟨rfl, h9⟩
  replace h9 := h9.symm
  subst h9
  go_wp2_with fail
  refine (refIs_any w g n c0 b).mono ?_
  rintro e w' ⟨rfl, h9⟩
  replace h9 := h9.symm
  subst h9
  rw [isNode_nat ha, isNode_nat hb]
  go_wp2_with fail
  refine (refOver_in w g n L D HR.out a b ha hb).mono ?_
  rintro e w1 ⟨r, rfl, hr, hB⟩
  have HFIN : Hid (∃ r' : Bool, Ending.returned (.tuple #[.bool r, .int .i64 0]) = .returned (.tuple #[.bool r', .int .i64 0]) ∧ (r' = true ↔ HeldF L a b) ∧ Below w.heap.size w w1) := ⟨r, rfl, hr, hB⟩
  clear hr hB
  go_wp2_with fail
  go_ret2
  exact HFIN.out
theorem refUnder_no (h : RefIn w g n L D) (a b : Int) (hn : isNode n a = false ∨ isNode n b = false) :
    Calls Try.prog 48 #[.pointer (some ⟨g, 0, none⟩), .int .i64 a, .int .i64 b] w fun e w' => e = .returned (.tuple #[.bool false, .int .i64 2]) ∧ w' = w := by
  have c0 := h.c0
  clear h
  go_enter Try.func48, Try.ntmps48
  go_wp2_with fail
  refine (refIs_any w g n c0 a).mono ?_
  rintro e w' ⟨rfl, h9⟩
  replace h9 := h9.symm
  subst h9
  go_wp2_with fail
  refine (refIs_any w g n c0 b).mono ?_
  rintro e w' ⟨rfl, h9⟩
  replace h9 := h9.symm
  subst h9
  generalize isNode n a = r1 at hn
  generalize isNode n b = r2 at hn
  cases r1 <;> cases r2
  case true.true => simp at hn
  all_goals
    clear hn
    go_wp2_with fail
    go_ret2
    exact ⟨rfl, rfl⟩

theorem refUnder_ok (h : RefIn w g n L D) (a b : Nat) (ha : a < n) (hb : b < n) :
    Calls Try.prog 48 #[.pointer (some ⟨g, 0, none⟩), .int .i64 a, .int .i64 b] w fun e w' => ∃ r : Bool, e = .returned (.tuple #[.bool r, .int .i64 0]) ∧ (r = true ↔ HeldB L D a b) ∧ Below w.heap.size w w' := by
  have c0 := h.c0
  have HR : Hid (RefIn w g n L D) := h
  clear h
  go_enter Try.func48, Try.ntmps48
  go_wp2_with fail
  refine (refIs_any w g n c0 a).mono ?_
  rintro e w' ⟨rfl, h9⟩
  replace h9 := h9.symm
  subst h9
  go_wp2_with fail
  refine (refIs_any w g n c0 b).mono ?_
  rintro e w' ⟨rfl, h9⟩
  replace h9 := h9.symm
  subst h9
  rw [isNode_nat ha, isNode_nat hb]
  go_wp2_with fail
  refine (refUnder_in w g n L D HR.out a b ha hb).mono ?_
  rintro e w1 ⟨r, rfl, hr, hB⟩
  have HFIN : Hid (∃ r' : Bool, Ending.returned (.tuple #[.bool r, .int .i64 0]) = .returned (.tuple #[.bool r', .int .i64 0]) ∧ (r' = true ↔ HeldB L D a b) ∧ Below w.heap.size w w1) := ⟨r, rfl, hr, hB⟩
  clear hr hB
  go_wp2_with fail
  go_ret2
  exact HFIN.out
end

end Go.Proofs.Ytbddcodljmglfaa
