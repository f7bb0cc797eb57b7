/- graph: one step on a graph, each kind for itself. -/
import Derived.Test.YtbddcodljmglfaaPlayNews
set_option linter.unusedSimpArgs false
set_option linter.unusedVariables false
namespace Go.Proofs.Ytbddcodljmglfaa
open Go.RowKit

def SameN (G G' : List GSt) : Prop := G'.length = G.length ∧ ∀ (i : Nat) (x : GSt), G[i]? = some x → ∃ x', G'[i]? = some x' ∧ x'.n = x.n
theorem SameN.refl (G : List GSt) : SameN G G := ⟨rfl, fun i x h => ⟨x, h, rfl⟩⟩
theorem SameN.set {G : List GSt} {i : Nat} {x y : GSt} (hi : G[i]? = some x) (hn : y.n = x.n) : SameN G (G.set i y) := by
  refine ⟨by simp, fun j z hz => ?_⟩
  by_cases e : i = j
  · subst e
    rw [hi] at hz
    simp at hz
    subst hz
    exact ⟨y, by simp [(List.getElem?_eq_some_iff.1 hi).1], hn⟩
  · exact ⟨z, by rw [List.getElem?_set_ne e]; exact hz, rfl⟩

def GraphPost (w0 : World) (bw : Nat) (vg vr : Value) (G : List GSt) (N : Nat) (H : List HSt) (e : Ending) (w' : World) : Prop :=
  e = .returned (.bool true) ∧ ∃ κ' vh' G' N' H', PlIn w0 w' κ' bw vg vr vh' G' N' H' ∧ SameN G G' ∧ H'.length ≤ H.length + 8 ∧ N' ≤ N + 2

theorem OwnS.at {w : World} {base : Nat} {e : TypeId} {v : Value} {n : Nat} {xs : List Value} (h : OwnS w base e 1 v n xs) {i : Nat} {u : Value} (hi : i < n) (hu : xs[i]? = some u) : ∃ g off cap, v = .slice (some ⟨g, off, none⟩) n cap ∧ w.cell? ⟨g, off + i, none⟩ = some u ∧ g < w.heap.size := by
  rcases h.2 with ⟨_, h1⟩ | ⟨g, off, cap, cur, h1, hb, hg, hnc, hcm, hcs, hc⟩
  · omega
  · exact ⟨g, off, cap, h1, by simp [World.cell?, hg, hc i u hu], blk_lt hg⟩

theorem one_node {n : Nat} {a : Int} (h : ¬ isNode n a = false) : ∃ b : Nat, a = (b : Int) ∧ b < n := by
  have h1 : isNode n a = true := by simpa using h
  obtain ⟨h2, h3⟩ := isNode_iff.1 h1
  exact ⟨a.toNat, by omega, by omega⟩
theorem two_nodes {n : Nat} {a b : Int} (h : ¬ (isNode n a = false ∨ isNode n b = false)) : ∃ c d : Nat, a = (c : Int) ∧ b = (d : Int) ∧ c < n ∧ d < n := by
  obtain ⟨c, h1, h2⟩ := one_node (fun e => h (.inl e))
  obtain ⟨d, h3, h4⟩ := one_node (fun e => h (.inr e))
  exact ⟨c, d, h1, h3, h2, h4⟩

section
variable (w0 w : World) (κ : Nat → Role) (bw : Nat) (vg vr vh : Value) (G : List GSt) (N : Nat) (H : List HSt)

set_option maxRecDepth 100000 in
set_option maxHeartbeats 4000000 in
theorem graph_over (h : PlIn w0 w κ bw vg vr vh G N H) (hGl : G.length ≤ 10000000) (i : Nat) (x : GSt) (hi : G[i]? = some x) (A B C : Int) (vL : Value) (y : Bool) :
    Calls Try.prog 25 #[.pointer (some ⟨bw, 0, none⟩), .int .i64 i, .agg #[.int .i64 5, .int .i64 A, .int .i64 B, .int .i64 C, vL, .bool y]] w (GraphPost w0 bw vg vr G N H) := by
  have hil : i < G.length := (List.getElem?_eq_some_iff.1 hi).1
  obtain ⟨gg, og, cg, rfl, cG, lG⟩ := h.gs.at hil (u := gptr x) (by simp [hi])
  obtain ⟨gr, or, cr, rfl, cR, lR⟩ := h.rs.at hil (u := rptr x) (by simp [hi])
  have c0 := h.c0
  have c1 := h.c1
  have hb := h.bwLt
  have HP : Hid (PlIn w0 w κ bw (.slice (some ⟨gg, og, none⟩) G.length cg) (.slice (some ⟨gr, or, none⟩) G.length cr) vh G N H) := h
  have HI : Hid (G[i]? = some x) := hi
  obtain ⟨p, m, q, g, n, L, D⟩ := x
  simp only [gptr, rptr] at cG cR
  clear h hi
  go_enter Try.func25, Try.ntmps25
  go_wp2_with fail
  have HX : Hid ((w.alloc (.cells #[.int .i64 5, .int .i64 A, .int .i64 B, .int .i64 C, vL, .bool y] 55)).heap[w.heap.size]? = some (.cells #[.int .i64 5, .int .i64 A, .int .i64 B, .int .i64 C, vL, .bool y] 55 (0, 0))) := heap_new rfl
  have HP1 : Hid (PlIn w0 (w.alloc (.cells #[.int .i64 5, .int .i64 A, .int .i64 B, .int .i64 C, vL, .bool y] 55)) κ bw (.slice (some ⟨gg, og, none⟩) G.length cg) (.slice (some ⟨gr, or, none⟩) G.length cr) vh G N H) := HP.out.below ((Below.refl _ _).alloc (Nat.le_refl _) _)
  have HKO : Hid (κ w.heap.size = .other ∧ w0.heap.size ≤ w.heap.size) := ⟨HP.out.fresh _ (Nat.le_refl _), HP.out.bel.size⟩
  generalize w.alloc (.cells #[.int .i64 5, .int .i64 A, .int .i64 B, .int .i64 C, vL, .bool y] 55) = W1 at HX HP1 ⊢
  generalize w.heap.size = bo at HX HKO ⊢
  have HGR : Hid (GraphIn W1 p m q n L D ∧ RefIn W1 g n L D) := HP1.out.gr i _ HI.out
  clear c0 c1 cG cR lG lR hb
  by_cases hno : isNode n A = false ∨ isNode n B = false
  · have HNO : Hid (isNode n A = false ∨ isNode n B = false) := hno
    clear hno
    refine (gOver_no W1 p m q n L D HGR.out.1 A B HNO.out).mono ?_
    rintro e w2 ⟨rfl, hB2⟩
    have HP2 : Hid (PlIn w0 w2 κ bw _ _ vh G N H) := HP1.out.below hB2
    have HR2 : Hid (RefIn w2 g n L D) := HGR.out.2.below hB2
    have HX2 : Hid (w2.heap[bo]? = some (.cells #[.int .i64 5, .int .i64 A, .int .i64 B, .int .i64 C, vL, .bool y] 55 (0, 0))) := (hB2.block _ (blk_lt HX.out)).trans HX.out
    have xa : w2.cell? ⟨bo, 1, none⟩ = some (.int .i64 A) := by simp [World.cell?, HX2.out]
    have xb : w2.cell? ⟨bo, 2, none⟩ = some (.int .i64 B) := by simp [World.cell?, HX2.out]
    have xy : w2.cell? ⟨bo, 5, none⟩ = some (.bool y) := by simp [World.cell?, HX2.out]
    clear hB2
    go_wp2_with fail
    refine (refOver_no w2 g n L D HR2.out A B HNO.out).mono ?_
    rintro e w9 ⟨rfl, h9⟩
    replace h9 := h9.symm
    subst h9
    go_wp2_with fail
    refine (num_any w2 2).mono ?_
    rintro e w9 ⟨rfl, h9⟩
    replace h9 := h9.symm
    subst h9
    go_wp2_with fail
    go_ret
    exact ⟨rfl, κ, vh, G, N, H, HP2.out, SameN.refl G, by omega, by omega⟩
  · obtain ⟨a, b, rfl, rfl, ha, hb⟩ := two_nodes hno
    clear hno
    refine (gOver_any W1 p m q n L D HGR.out.1 a b ha hb).mono ?_
    rintro e w2 ⟨r, rfl, hr, hB2⟩
    have H1 : Hid (r = true ↔ HeldF L a b) := hr
    have HP2 : Hid (PlIn w0 w2 κ bw _ _ vh G N H) := HP1.out.below hB2
    have HR2 : Hid (RefIn w2 g n L D) := HGR.out.2.below hB2
    have HX2 : Hid (w2.heap[bo]? = some (.cells #[.int .i64 5, .int .i64 (a : Int), .int .i64 (b : Int), .int .i64 C, vL, .bool y] 55 (0, 0))) := (hB2.block _ (blk_lt HX.out)).trans HX.out
    have xa : w2.cell? ⟨bo, 1, none⟩ = some (.int .i64 (a : Int)) := by simp [World.cell?, HX2.out]
    have xb : w2.cell? ⟨bo, 2, none⟩ = some (.int .i64 (b : Int)) := by simp [World.cell?, HX2.out]
    have xy : w2.cell? ⟨bo, 5, none⟩ = some (.bool y) := by simp [World.cell?, HX2.out]
    clear hB2 hr
    go_wp2_with fail
    refine (refOver_ok w2 g n L D HR2.out a b ha hb).mono ?_
    rintro e w3 ⟨r', rfl, hr', hB3⟩
    have e1 : r' = r := by rw [Bool.eq_iff_iff, hr', H1.out]
    subst e1
    have HP3 : Hid (PlIn w0 w3 κ bw _ _ vh G N H) := HP2.out.below hB3
    clear hB3 hr' H1
    cases r'
    all_goals
      go_wp2_with fail
      refine (num_any w3 0).mono ?_
      rintro e w9 ⟨rfl, h9⟩
      replace h9 := h9.symm
      subst h9
      go_wp2_with fail
      go_ret
      exact ⟨rfl, κ, vh, G, N, H, HP3.out, SameN.refl G, by omega, by omega⟩

set_option maxRecDepth 100000 in
set_option maxHeartbeats 4000000 in
theorem graph_under (h : PlIn w0 w κ bw vg vr vh G N H) (hGl : G.length ≤ 10000000) (i : Nat) (x : GSt) (hi : G[i]? = some x) (A B C : Int) (vL : Value) (y : Bool) :
    Calls Try.prog 25 #[.pointer (some ⟨bw, 0, none⟩), .int .i64 i, .agg #[.int .i64 9, .int .i64 A, .int .i64 B, .int .i64 C, vL, .bool y]] w (GraphPost w0 bw vg vr G N H) := by
  have hil : i < G.length := (List.getElem?_eq_some_iff.1 hi).1
  obtain ⟨gg, og, cg, rfl, cG, lG⟩ := h.gs.at hil (u := gptr x) (by simp [hi])
  obtain ⟨gr, or, cr, rfl, cR, lR⟩ := h.rs.at hil (u := rptr x) (by simp [hi])
  have c0 := h.c0
  have c1 := h.c1
  have hb := h.bwLt
  have HP : Hid (PlIn w0 w κ bw (.slice (some ⟨gg, og, none⟩) G.length cg) (.slice (some ⟨gr, or, none⟩) G.length cr) vh G N H) := h
  have HI : Hid (G[i]? = some x) := hi
  obtain ⟨p, m, q, g, n, L, D⟩ := x
  simp only [gptr, rptr] at cG cR
  clear h hi
  go_enter Try.func25, Try.ntmps25
  go_wp2_with fail
  have HX : Hid ((w.alloc (.cells #[.int .i64 9, .int .i64 A, .int .i64 B, .int .i64 C, vL, .bool y] 55)).heap[w.heap.size]? = some (.cells #[.int .i64 9, .int .i64 A, .int .i64 B, .int .i64 C, vL, .bool y] 55 (0, 0))) := heap_new rfl
  have HP1 : Hid (PlIn w0 (w.alloc (.cells #[.int .i64 9, .int .i64 A, .int .i64 B, .int .i64 C, vL, .bool y] 55)) κ bw (.slice (some ⟨gg, og, none⟩) G.length cg) (.slice (some ⟨gr, or, none⟩) G.length cr) vh G N H) := HP.out.below ((Below.refl _ _).alloc (Nat.le_refl _) _)
  have HKO : Hid (κ w.heap.size = .other ∧ w0.heap.size ≤ w.heap.size) := ⟨HP.out.fresh _ (Nat.le_refl _), HP.out.bel.size⟩
  generalize w.alloc (.cells #[.int .i64 9, .int .i64 A, .int .i64 B, .int .i64 C, vL, .bool y] 55) = W1 at HX HP1 ⊢
  generalize w.heap.size = bo at HX HKO ⊢
  have HGR : Hid (GraphIn W1 p m q n L D ∧ RefIn W1 g n L D) := HP1.out.gr i _ HI.out
  clear c0 c1 cG cR lG lR hb
  by_cases hno : isNode n A = false ∨ isNode n B = false
  · have HNO : Hid (isNode n A = false ∨ isNode n B = false) := hno
    clear hno
    refine (gUnder_no W1 p m q n L D HGR.out.1 A B HNO.out).mono ?_
    rintro e w2 ⟨rfl, hB2⟩
    have HP2 : Hid (PlIn w0 w2 κ bw _ _ vh G N H) := HP1.out.below hB2
    have HR2 : Hid (RefIn w2 g n L D) := HGR.out.2.below hB2
    have HX2 : Hid (w2.heap[bo]? = some (.cells #[.int .i64 9, .int .i64 A, .int .i64 B, .int .i64 C, vL, .bool y] 55 (0, 0))) := (hB2.block _ (blk_lt HX.out)).trans HX.out
    have xa : w2.cell? ⟨bo, 1, none⟩ = some (.int .i64 A) := by simp [World.cell?, HX2.out]
    have xb : w2.cell? ⟨bo, 2, none⟩ = some (.int .i64 B) := by simp [World.cell?, HX2.out]
    have xy : w2.cell? ⟨bo, 5, none⟩ = some (.bool y) := by simp [World.cell?, HX2.out]
    clear hB2
    go_wp2_with fail
    refine (refUnder_no w2 g n L D HR2.out A B HNO.out).mono ?_
    rintro e w9 ⟨rfl, h9⟩
    replace h9 := h9.symm
    subst h9
    go_wp2_with fail
    refine (num_any w2 2).mono ?_
    rintro e w9 ⟨rfl, h9⟩
    replace h9 := h9.symm
    subst h9
    go_wp2_with fail
    go_ret
    exact ⟨rfl, κ, vh, G, N, H, HP2.out, SameN.refl G, by omega, by omega⟩
  · obtain ⟨a, b, rfl, rfl, ha, hb⟩ := two_nodes hno
    clear hno
    refine (gUnder_any W1 p m q n L D HGR.out.1 a b ha hb).mono ?_
    rintro e w2 ⟨r, rfl, hr, hB2⟩
    have H1 : Hid (r = true ↔ HeldB L D a b) := hr
    have HP2 : Hid (PlIn w0 w2 κ bw _ _ vh G N H) := HP1.out.below hB2
    have HR2 : Hid (RefIn w2 g n L D) := HGR.out.2.below hB2
    have HX2 : Hid (w2.heap[bo]? = some (.cells #[.int .i64 9, .int .i64 (a : Int), .int .i64 (b : Int), .int .i64 C, vL, .bool y] 55 (0, 0))) := (hB2.block _ (blk_lt HX.out)).trans HX.out
    have xa : w2.cell? ⟨bo, 1, none⟩ = some (.int .i64 (a : Int)) := by simp [World.cell?, HX2.out]
    have xb : w2.cell? ⟨bo, 2, none⟩ = some (.int .i64 (b : Int)) := by simp [World.cell?, HX2.out]
    have xy : w2.cell? ⟨bo, 5, none⟩ = some (.bool y) := by simp [World.cell?, HX2.out]
    clear hB2 hr
    go_wp2_with fail
    refine (refUnder_ok w2 g n L D HR2.out a b ha hb).mono ?_
    rintro e w3 ⟨r', rfl, hr', hB3⟩
    have e1 : r' = r := by rw [Bool.eq_iff_iff, hr', H1.out]
    subst e1
    have HP3 : Hid (PlIn w0 w3 κ bw _ _ vh G N H) := HP2.out.below hB3
    clear hB3 hr' H1
    cases r'
    all_goals
      go_wp2_with fail
      refine (num_any w3 0).mono ?_
      rintro e w9 ⟨rfl, h9⟩
      replace h9 := h9.symm
      subst h9
      go_wp2_with fail
      go_ret
      exact ⟨rfl, κ, vh, G, N, H, HP3.out, SameN.refl G, by omega, by omega⟩

set_option maxRecDepth 100000 in
set_option maxHeartbeats 4000000 in
theorem graph_last (h : PlIn w0 w κ bw vg vr vh G N H) (hGl : G.length ≤ 10000000) (i : Nat) (x : GSt) (hi : G[i]? = some x) (A B C : Int) (vL : Value) (y : Bool) :
    Calls Try.prog 25 #[.pointer (some ⟨bw, 0, none⟩), .int .i64 i, .agg #[.int .i64 6, .int .i64 A, .int .i64 B, .int .i64 C, vL, .bool y]] w (GraphPost w0 bw vg vr G N H) := by
  have hil : i < G.length := (List.getElem?_eq_some_iff.1 hi).1
  obtain ⟨gg, og, cg, rfl, cG, lG⟩ := h.gs.at hil (u := gptr x) (by simp [hi])
  obtain ⟨gr, or, cr, rfl, cR, lR⟩ := h.rs.at hil (u := rptr x) (by simp [hi])
  have c0 := h.c0
  have c1 := h.c1
  have hb := h.bwLt
  have HP : Hid (PlIn w0 w κ bw (.slice (some ⟨gg, og, none⟩) G.length cg) (.slice (some ⟨gr, or, none⟩) G.length cr) vh G N H) := h
  have HI : Hid (G[i]? = some x) := hi
  obtain ⟨p, m, q, g, n, L, D⟩ := x
  simp only [gptr, rptr] at cG cR
  clear h hi
  go_enter Try.func25, Try.ntmps25
  go_wp2_with fail
  have HX : Hid ((w.alloc (.cells #[.int .i64 6, .int .i64 A, .int .i64 B, .int .i64 C, vL, .bool y] 55)).heap[w.heap.size]? = some (.cells #[.int .i64 6, .int .i64 A, .int .i64 B, .int .i64 C, vL, .bool y] 55 (0, 0))) := heap_new rfl
  have HP1 : Hid (PlIn w0 (w.alloc (.cells #[.int .i64 6, .int .i64 A, .int .i64 B, .int .i64 C, vL, .bool y] 55)) κ bw (.slice (some ⟨gg, og, none⟩) G.length cg) (.slice (some ⟨gr, or, none⟩) G.length cr) vh G N H) := HP.out.below ((Below.refl _ _).alloc (Nat.le_refl _) _)
  have HKO : Hid (κ w.heap.size = .other ∧ w0.heap.size ≤ w.heap.size) := ⟨HP.out.fresh _ (Nat.le_refl _), HP.out.bel.size⟩
  generalize w.alloc (.cells #[.int .i64 6, .int .i64 A, .int .i64 B, .int .i64 C, vL, .bool y] 55) = W1 at HX HP1 ⊢
  generalize w.heap.size = bo at HX HKO ⊢
  have HGR : Hid (GraphIn W1 p m q n L D ∧ RefIn W1 g n L D) := HP1.out.gr i _ HI.out
  clear c0 c1 cG cR lG lR hb
  by_cases hno : isNode n A = false
  · have HNO : Hid (isNode n A = false) := hno
    clear hno
    refine (gLast_no W1 p m q n L D HGR.out.1 A HNO.out).mono ?_
    rintro e w2 ⟨rfl, hB2⟩
    have HP2 : Hid (PlIn w0 w2 κ bw _ _ vh G N H) := HP1.out.below hB2
    have HR2 : Hid (RefIn w2 g n L D) := HGR.out.2.below hB2
    have HX2 : Hid (w2.heap[bo]? = some (.cells #[.int .i64 6, .int .i64 A, .int .i64 B, .int .i64 C, vL, .bool y] 55 (0, 0))) := (hB2.block _ (blk_lt HX.out)).trans HX.out
    have xa : w2.cell? ⟨bo, 1, none⟩ = some (.int .i64 A) := by simp [World.cell?, HX2.out]
    have xb : w2.cell? ⟨bo, 2, none⟩ = some (.int .i64 B) := by simp [World.cell?, HX2.out]
    have xy : w2.cell? ⟨bo, 5, none⟩ = some (.bool y) := by simp [World.cell?, HX2.out]
    clear hB2
    go_wp2_with fail
    refine (refLast_no w2 g n L D HR2.out A HNO.out).mono ?_
    rintro e w9 ⟨rfl, h9⟩
    replace h9 := h9.symm
    subst h9
    go_wp2_with fail
    refine (num_any w2 2).mono ?_
    rintro e w9 ⟨rfl, h9⟩
    replace h9 := h9.symm
    subst h9
    go_wp2_with fail
    go_ret
    exact ⟨rfl, κ, vh, G, N, H, HP2.out, SameN.refl G, by omega, by omega⟩
  · obtain ⟨a, rfl, ha⟩ := one_node hno
    clear hno
    refine (gLast_any W1 p m q n L D HGR.out.1 a ha).mono ?_
    rintro e w2 ⟨v, u, rfl, hr, hB2⟩
    have H1 : Hid (LastAns n (Fwd L (-1) a) (fun a c => HeldF L a c) a v u) := hr
    have HP2 : Hid (PlIn w0 w2 κ bw _ _ vh G N H) := HP1.out.below hB2
    have HR2 : Hid (RefIn w2 g n L D) := HGR.out.2.below hB2
    have HX2 : Hid (w2.heap[bo]? = some (.cells #[.int .i64 6, .int .i64 (a : Int), .int .i64 B, .int .i64 C, vL, .bool y] 55 (0, 0))) := (hB2.block _ (blk_lt HX.out)).trans HX.out
    have xa : w2.cell? ⟨bo, 1, none⟩ = some (.int .i64 (a : Int)) := by simp [World.cell?, HX2.out]
    have xb : w2.cell? ⟨bo, 2, none⟩ = some (.int .i64 B) := by simp [World.cell?, HX2.out]
    have xy : w2.cell? ⟨bo, 5, none⟩ = some (.bool y) := by simp [World.cell?, HX2.out]
    clear hB2 hr
    go_wp2_with fail
    refine (refLast_ok w2 g n L D HR2.out a ha).mono ?_
    rintro e w3 ⟨v', u', rfl, hr', hB3⟩
    obtain ⟨rfl, rfl⟩ := lastAns_one ha H1.out hr'
    have HP3 : Hid (PlIn w0 w3 κ bw _ _ vh G N H) := HP2.out.below hB3
    clear hB3 hr' H1
    go_wp2_with fail
    refine (num_any w3 u).mono ?_
    rintro e w9 ⟨rfl, h9⟩
    replace h9 := h9.symm
    subst h9
    go_wp2_with fail
    go_ret
    exact ⟨rfl, κ, vh, G, N, H, HP3.out, SameN.refl G, by omega, by omega⟩

set_option maxRecDepth 100000 in
set_option maxHeartbeats 4000000 in
theorem graph_next (h : PlIn w0 w κ bw vg vr vh G N H) (hGl : G.length ≤ 10000000) (i : Nat) (x : GSt) (hi : G[i]? = some x) (A B C : Int) (vL : Value) (y : Bool) :
    Calls Try.prog 25 #[.pointer (some ⟨bw, 0, none⟩), .int .i64 i, .agg #[.int .i64 10, .int .i64 A, .int .i64 B, .int .i64 C, vL, .bool y]] w (GraphPost w0 bw vg vr G N H) := by
  have hil : i < G.length := (List.getElem?_eq_some_iff.1 hi).1
  obtain ⟨gg, og, cg, rfl, cG, lG⟩ := h.gs.at hil (u := gptr x) (by simp [hi])
  obtain ⟨gr, or, cr, rfl, cR, lR⟩ := h.rs.at hil (u := rptr x) (by simp [hi])
  have c0 := h.c0
  have c1 := h.c1
  have hb := h.bwLt
  have HP : Hid (PlIn w0 w κ bw (.slice (some ⟨gg, og, none⟩) G.length cg) (.slice (some ⟨gr, or, none⟩) G.length cr) vh G N H) := h
  have HI : Hid (G[i]? = some x) := hi
  obtain ⟨p, m, q, g, n, L, D⟩ := x
  simp only [gptr, rptr] at cG cR
  clear h hi
  go_enter Try.func25, Try.ntmps25
  go_wp2_with fail
  have HX : Hid ((w.alloc (.cells #[.int .i64 10, .int .i64 A, .int .i64 B, .int .i64 C, vL, .bool y] 55)).heap[w.heap.size]? = some (.cells #[.int .i64 10, .int .i64 A, .int .i64 B, .int .i64 C, vL, .bool y] 55 (0, 0))) := heap_new rfl
  have HP1 : Hid (PlIn w0 (w.alloc (.cells #[.int .i64 10, .int .i64 A, .int .i64 B, .int .i64 C, vL, .bool y] 55)) κ bw (.slice (some ⟨gg, og, none⟩) G.length cg) (.slice (some ⟨gr, or, none⟩) G.length cr) vh G N H) := HP.out.below ((Below.refl _ _).alloc (Nat.le_refl _) _)
  have HKO : Hid (κ w.heap.size = .other ∧ w0.heap.size ≤ w.heap.size) := ⟨HP.out.fresh _ (Nat.le_refl _), HP.out.bel.size⟩
  generalize w.alloc (.cells #[.int .i64 10, .int .i64 A, .int .i64 B, .int .i64 C, vL, .bool y] 55) = W1 at HX HP1 ⊢
  generalize w.heap.size = bo at HX HKO ⊢
  have HGR : Hid (GraphIn W1 p m q n L D ∧ RefIn W1 g n L D) := HP1.out.gr i _ HI.out
  clear c0 c1 cG cR lG lR hb
  by_cases hno : isNode n A = false
  · have HNO : Hid (isNode n A = false) := hno
    clear hno
    refine (gNext_no W1 p m q n L D HGR.out.1 A HNO.out).mono ?_
    rintro e w2 ⟨rfl, hB2⟩
    have HP2 : Hid (PlIn w0 w2 κ bw _ _ vh G N H) := HP1.out.below hB2
    have HR2 : Hid (RefIn w2 g n L D) := HGR.out.2.below hB2
    have HX2 : Hid (w2.heap[bo]? = some (.cells #[.int .i64 10, .int .i64 A, .int .i64 B, .int .i64 C, vL, .bool y] 55 (0, 0))) := (hB2.block _ (blk_lt HX.out)).trans HX.out
    have xa : w2.cell? ⟨bo, 1, none⟩ = some (.int .i64 A) := by simp [World.cell?, HX2.out]
    have xb : w2.cell? ⟨bo, 2, none⟩ = some (.int .i64 B) := by simp [World.cell?, HX2.out]
    have xy : w2.cell? ⟨bo, 5, none⟩ = some (.bool y) := by simp [World.cell?, HX2.out]
    clear hB2
    go_wp2_with fail
    refine (refNext_no w2 g n L D HR2.out A HNO.out).mono ?_
    rintro e w9 ⟨rfl, h9⟩
    replace h9 := h9.symm
    subst h9
    go_wp2_with fail
    refine (num_any w2 2).mono ?_
    rintro e w9 ⟨rfl, h9⟩
    replace h9 := h9.symm
    subst h9
    go_wp2_with fail
    go_ret
    exact ⟨rfl, κ, vh, G, N, H, HP2.out, SameN.refl G, by omega, by omega⟩
  · obtain ⟨a, rfl, ha⟩ := one_node hno
    clear hno
    refine (gNext_any W1 p m q n L D HGR.out.1 a ha).mono ?_
    rintro e w2 ⟨v, u, rfl, hr, hB2⟩
    have H1 : Hid (LastAns n (Bwd L D (-1) a) (fun a c => HeldB L D a c) a v u) := hr
    have HP2 : Hid (PlIn w0 w2 κ bw _ _ vh G N H) := HP1.out.below hB2
    have HR2 : Hid (RefIn w2 g n L D) := HGR.out.2.below hB2
    have HX2 : Hid (w2.heap[bo]? = some (.cells #[.int .i64 10, .int .i64 (a : Int), .int .i64 B, .int .i64 C, vL, .bool y] 55 (0, 0))) := (hB2.block _ (blk_lt HX.out)).trans HX.out
    have xa : w2.cell? ⟨bo, 1, none⟩ = some (.int .i64 (a : Int)) := by simp [World.cell?, HX2.out]
    have xb : w2.cell? ⟨bo, 2, none⟩ = some (.int .i64 B) := by simp [World.cell?, HX2.out]
    have xy : w2.cell? ⟨bo, 5, none⟩ = some (.bool y) := by simp [World.cell?, HX2.out]
    clear hB2 hr
    go_wp2_with fail
    refine (refNext_ok w2 g n L D HR2.out a ha).mono ?_
    rintro e w3 ⟨v', u', rfl, hr', hB3⟩
    obtain ⟨rfl, rfl⟩ := lastAns_one ha H1.out hr'
    have HP3 : Hid (PlIn w0 w3 κ bw _ _ vh G N H) := HP2.out.below hB3
    clear hB3 hr' H1
    go_wp2_with fail
    refine (num_any w3 u).mono ?_
    rintro e w9 ⟨rfl, h9⟩
    replace h9 := h9.symm
    subst h9
    go_wp2_with fail
    go_ret
    exact ⟨rfl, κ, vh, G, N, H, HP3.out, SameN.refl G, by omega, by omega⟩

set_option maxRecDepth 100000 in
set_option maxHeartbeats 4000000 in
theorem graph_add (h : PlIn w0 w κ bw vg vr vh G N H) (hGl : G.length ≤ 10000000) (i : Nat) (x : GSt) (hi : G[i]? = some x) (A B C : Int) (vL : Value) (y : Bool) :
    Calls Try.prog 25 #[.pointer (some ⟨bw, 0, none⟩), .int .i64 i, .agg #[.int .i64 2, .int .i64 A, .int .i64 B, .int .i64 C, vL, .bool y]] w (GraphPost w0 bw vg vr G N H) := by
  have hil : i < G.length := (List.getElem?_eq_some_iff.1 hi).1
  obtain ⟨gg, og, cg, rfl, cG, lG⟩ := h.gs.at hil (u := gptr x) (by simp [hi])
  obtain ⟨gr, or, cr, rfl, cR, lR⟩ := h.rs.at hil (u := rptr x) (by simp [hi])
  have c0 := h.c0
  have c1 := h.c1
  have hb := h.bwLt
  have HP : Hid (PlIn w0 w κ bw (.slice (some ⟨gg, og, none⟩) G.length cg) (.slice (some ⟨gr, or, none⟩) G.length cr) vh G N H) := h
  have HI : Hid (G[i]? = some x) := hi
  obtain ⟨p, m, q, g, n, L, D⟩ := x
  simp only [gptr, rptr] at cG cR
  clear h hi
  go_enter Try.func25, Try.ntmps25
  go_wp2_with fail
  have HX : Hid ((w.alloc (.cells #[.int .i64 2, .int .i64 A, .int .i64 B, .int .i64 C, vL, .bool y] 55)).heap[w.heap.size]? = some (.cells #[.int .i64 2, .int .i64 A, .int .i64 B, .int .i64 C, vL, .bool y] 55 (0, 0))) := heap_new rfl
  have HP1 : Hid (PlIn w0 (w.alloc (.cells #[.int .i64 2, .int .i64 A, .int .i64 B, .int .i64 C, vL, .bool y] 55)) κ bw (.slice (some ⟨gg, og, none⟩) G.length cg) (.slice (some ⟨gr, or, none⟩) G.length cr) vh G N H) := HP.out.below ((Below.refl _ _).alloc (Nat.le_refl _) _)
  have HKO : Hid (κ w.heap.size = .other ∧ w0.heap.size ≤ w.heap.size) := ⟨HP.out.fresh _ (Nat.le_refl _), HP.out.bel.size⟩
  generalize w.alloc (.cells #[.int .i64 2, .int .i64 A, .int .i64 B, .int .i64 C, vL, .bool y] 55) = W1 at HX HP1 ⊢
  generalize w.heap.size = bo at HX HKO ⊢
  have HGR : Hid (GraphIn W1 p m q n L D ∧ RefIn W1 g n L D) := HP1.out.gr i _ HI.out
  clear c0 c1 cG cR lG lR hb
  by_cases hno : isNode n A = false ∨ isNode n B = false
  · have HNO : Hid (isNode n A = false ∨ isNode n B = false) := hno
    clear hno
    refine (gAdd_no W1 p m q n L D HGR.out.1 A B HNO.out).mono ?_
    rintro e w2 ⟨rfl, hB2⟩
    have HP2 : Hid (PlIn w0 w2 κ bw _ _ vh G N H) := HP1.out.below hB2
    have HR2 : Hid (RefIn w2 g n L D) := HGR.out.2.below hB2
    have HX2 : Hid (w2.heap[bo]? = some (.cells #[.int .i64 2, .int .i64 A, .int .i64 B, .int .i64 C, vL, .bool y] 55 (0, 0))) := (hB2.block _ (blk_lt HX.out)).trans HX.out
    have xa : w2.cell? ⟨bo, 1, none⟩ = some (.int .i64 A) := by simp [World.cell?, HX2.out]
    have xb : w2.cell? ⟨bo, 2, none⟩ = some (.int .i64 B) := by simp [World.cell?, HX2.out]
    have xy : w2.cell? ⟨bo, 5, none⟩ = some (.bool y) := by simp [World.cell?, HX2.out]
    clear hB2
    go_wp2_with fail
    refine (refAdd_no w2 g n L D HR2.out A B HNO.out).mono ?_
    rintro e w9 ⟨rfl, h9⟩
    replace h9 := h9.symm
    subst h9
    go_wp2_with fail
    refine (num_any w2 2).mono ?_
    rintro e w9 ⟨rfl, h9⟩
    replace h9 := h9.symm
    subst h9
    go_wp2_with fail
    go_ret
    exact ⟨rfl, κ, vh, G, N, H, HP2.out, SameN.refl G, by omega, by omega⟩
  · obtain ⟨a, b, rfl, rfl, ha, hb⟩ := two_nodes hno
    clear hno
    by_cases hm : (a, b) ∈ L
    · have HM : Hid ((a, b) ∈ L) := hm
      clear hm
      refine (gAdd_twice W1 p m q n L D HGR.out.1 a b ha hb HM.out).mono ?_
      rintro e w2 ⟨rfl, hB2⟩
      have HP2 : Hid (PlIn w0 w2 κ bw _ _ vh G N H) := HP1.out.below hB2
      have HR2 : Hid (RefIn w2 g n L D) := HGR.out.2.below hB2
      have HX2 : Hid (w2.heap[bo]? = some (.cells #[.int .i64 2, .int .i64 (a : Int), .int .i64 (b : Int), .int .i64 C, vL, .bool y] 55 (0, 0))) := (hB2.block _ (blk_lt HX.out)).trans HX.out
      have xa : w2.cell? ⟨bo, 1, none⟩ = some (.int .i64 (a : Int)) := by simp [World.cell?, HX2.out]
      have xb : w2.cell? ⟨bo, 2, none⟩ = some (.int .i64 (b : Int)) := by simp [World.cell?, HX2.out]
      have xy : w2.cell? ⟨bo, 5, none⟩ = some (.bool y) := by simp [World.cell?, HX2.out]
      clear hB2
      go_wp2_with fail
      refine (refAdd_twice w2 g n L D HR2.out a b ha hb HM.out).mono ?_
      rintro e w9 ⟨rfl, h9⟩
      replace h9 := h9.symm
      subst h9
      go_wp2_with fail
      refine (num_any w2 3).mono ?_
      rintro e w9 ⟨rfl, h9⟩
      replace h9 := h9.symm
      subst h9
      go_wp2_with fail
      go_ret
      exact ⟨rfl, κ, vh, G, N, H, HP2.out, SameN.refl G, by omega, by omega⟩
    · have HM : Hid ((a, b) ∉ L) := hm
      clear hm
      have HDS : Hid (bo ≠ m ∧ g ≠ m ∧ p ≠ g ∧ m ≠ g ∧ q ≠ g) := by
        obtain ⟨k1, k2, k3, k4⟩ := HP1.out.kgr i _ HI.out
        have ko := HKO.out.1
        simp only at k1 k2 k3 k4
        refine ⟨fun e => ?_, fun e => ?_, fun e => ?_, fun e => ?_, fun e => ?_⟩
        · rw [e, k2.1] at ko; simp at ko
        · have := k4.1; rw [e, k2.1] at this; simp at this
        · have := k1.1; rw [e, k4.1] at this; simp at this
        · have := k2.1; rw [e, k4.1] at this; simp at this
        · have := k3.1; rw [e, k4.1] at this; simp at this
      refine (gAdd_ok W1 p m q n L D HGR.out.1 a b ha hb HM.out).mono ?_
      rintro e w2 ⟨rfl, hG2, hgr2⟩
      have HR2 : Hid (RefIn w2 g n L D) := HGR.out.2.of_block (hgr2.block _ HDS.out.2.1 HGR.out.2.gLt)
      have HG2 : Hid (GraphIn w2 p m q n (L ++ [(a, b)]) D ∧ Grew W1 w2 (fun k => k = m)) := ⟨hG2, hgr2⟩
      have HX2 : Hid (w2.heap[bo]? = some (.cells #[.int .i64 2, .int .i64 (a : Int), .int .i64 (b : Int), .int .i64 C, vL, .bool y] 55 (0, 0))) := (hgr2.block _ HDS.out.1 (blk_lt HX.out)).trans HX.out
      have xa : w2.cell? ⟨bo, 1, none⟩ = some (.int .i64 (a : Int)) := by simp [World.cell?, HX2.out]
      have xb : w2.cell? ⟨bo, 2, none⟩ = some (.int .i64 (b : Int)) := by simp [World.cell?, HX2.out]
      have xy : w2.cell? ⟨bo, 5, none⟩ = some (.bool y) := by simp [World.cell?, HX2.out]
      clear hG2 hgr2
      go_wp2_with fail
      refine (refAdd_ok w2 g n L D HR2.out a b ha hb HM.out).mono ?_
      rintro e w3 ⟨rfl, hR3, hgr3⟩
      have HP3 : Hid (PlIn w0 w3 κ bw (.slice (some ⟨gg, og, none⟩) G.length cg) (.slice (some ⟨gr, or, none⟩) G.length cr) vh (G.set i ⟨p, m, q, g, n, (L ++ [(a, b)]), D⟩) N H) := by
        refine HP1.out.graph HI.out ((HG2.out.2.mono (fun k hk => .inl hk)).trans (hgr3.mono (fun k hk => .inr (.inr hk)))) ?_ hR3
        exact HG2.out.1.of_block (hgr3.block _ HDS.out.2.2.1 HG2.out.1.pLt) (hgr3.block _ HDS.out.2.2.2.1 HG2.out.1.mLt) (hgr3.block _ HDS.out.2.2.2.2 HG2.out.1.qLt)
      clear hR3 hgr3
      go_wp2_with fail
      refine (num_any w3 0).mono ?_
      rintro e w9 ⟨rfl, h9⟩
      replace h9 := h9.symm
      subst h9
      go_wp2_with fail
      go_ret
      exact ⟨rfl, κ, vh, _, N, H, HP3.out, SameN.set HI.out rfl, by omega, by omega⟩

set_option maxRecDepth 100000 in
set_option maxHeartbeats 4000000 in
theorem graph_cut (h : PlIn w0 w κ bw vg vr vh G N H) (hGl : G.length ≤ 10000000) (i : Nat) (x : GSt) (hi : G[i]? = some x) (A B C : Int) (vL : Value) (y : Bool) :
    Calls Try.prog 25 #[.pointer (some ⟨bw, 0, none⟩), .int .i64 i, .agg #[.int .i64 3, .int .i64 A, .int .i64 B, .int .i64 C, vL, .bool y]] w (GraphPost w0 bw vg vr G N H) := by
  have hil : i < G.length := (List.getElem?_eq_some_iff.1 hi).1
  obtain ⟨gg, og, cg, rfl, cG, lG⟩ := h.gs.at hil (u := gptr x) (by simp [hi])
  obtain ⟨gr, or, cr, rfl, cR, lR⟩ := h.rs.at hil (u := rptr x) (by simp [hi])
  have c0 := h.c0
  have c1 := h.c1
  have hb := h.bwLt
  have HP : Hid (PlIn w0 w κ bw (.slice (some ⟨gg, og, none⟩) G.length cg) (.slice (some ⟨gr, or, none⟩) G.length cr) vh G N H) := h
  have HI : Hid (G[i]? = some x) := hi
  obtain ⟨p, m, q, g, n, L, D⟩ := x
  simp only [gptr, rptr] at cG cR
  clear h hi
  go_enter Try.func25, Try.ntmps25
  go_wp2_with fail
  have HX : Hid ((w.alloc (.cells #[.int .i64 3, .int .i64 A, .int .i64 B, .int .i64 C, vL, .bool y] 55)).heap[w.heap.size]? = some (.cells #[.int .i64 3, .int .i64 A, .int .i64 B, .int .i64 C, vL, .bool y] 55 (0, 0))) := heap_new rfl
  have HP1 : Hid (PlIn w0 (w.alloc (.cells #[.int .i64 3, .int .i64 A, .int .i64 B, .int .i64 C, vL, .bool y] 55)) κ bw (.slice (some ⟨gg, og, none⟩) G.length cg) (.slice (some ⟨gr, or, none⟩) G.length cr) vh G N H) := HP.out.below ((Below.refl _ _).alloc (Nat.le_refl _) _)
  have HKO : Hid (κ w.heap.size = .other ∧ w0.heap.size ≤ w.heap.size) := ⟨HP.out.fresh _ (Nat.le_refl _), HP.out.bel.size⟩
  generalize w.alloc (.cells #[.int .i64 3, .int .i64 A, .int .i64 B, .int .i64 C, vL, .bool y] 55) = W1 at HX HP1 ⊢
  generalize w.heap.size = bo at HX HKO ⊢
  have HGR : Hid (GraphIn W1 p m q n L D ∧ RefIn W1 g n L D) := HP1.out.gr i _ HI.out
  clear c0 c1 cG cR lG lR hb
  by_cases hno : isNode n A = false ∨ isNode n B = false
  · have HNO : Hid (isNode n A = false ∨ isNode n B = false) := hno
    clear hno
    refine (gCut_no W1 p m q n L D HGR.out.1 A B HNO.out).mono ?_
    rintro e w2 ⟨rfl, hB2⟩
    have HP2 : Hid (PlIn w0 w2 κ bw _ _ vh G N H) := HP1.out.below hB2
    have HR2 : Hid (RefIn w2 g n L D) := HGR.out.2.below hB2
    have HX2 : Hid (w2.heap[bo]? = some (.cells #[.int .i64 3, .int .i64 A, .int .i64 B, .int .i64 C, vL, .bool y] 55 (0, 0))) := (hB2.block _ (blk_lt HX.out)).trans HX.out
    have xa : w2.cell? ⟨bo, 1, none⟩ = some (.int .i64 A) := by simp [World.cell?, HX2.out]
    have xb : w2.cell? ⟨bo, 2, none⟩ = some (.int .i64 B) := by simp [World.cell?, HX2.out]
    have xy : w2.cell? ⟨bo, 5, none⟩ = some (.bool y) := by simp [World.cell?, HX2.out]
    clear hB2
    go_wp2_with fail
    refine (refCut_no w2 g n L D HR2.out A B HNO.out).mono ?_
    rintro e w9 ⟨rfl, h9⟩
    replace h9 := h9.symm
    subst h9
    go_wp2_with fail
    refine (num_any w2 2).mono ?_
    rintro e w9 ⟨rfl, h9⟩
    replace h9 := h9.symm
    subst h9
    go_wp2_with fail
    go_ret
    exact ⟨rfl, κ, vh, G, N, H, HP2.out, SameN.refl G, by omega, by omega⟩
  · obtain ⟨a, b, rfl, rfl, ha, hb⟩ := two_nodes hno
    clear hno
    by_cases hm : (a, b) ∉ L
    · have HM : Hid ((a, b) ∉ L) := hm
      clear hm
      refine (gCut_none W1 p m q n L D HGR.out.1 a b ha hb HM.out).mono ?_
      rintro e w2 ⟨rfl, hB2⟩
      have HP2 : Hid (PlIn w0 w2 κ bw _ _ vh G N H) := HP1.out.below hB2
      have HR2 : Hid (RefIn w2 g n L D) := HGR.out.2.below hB2
      have HX2 : Hid (w2.heap[bo]? = some (.cells #[.int .i64 3, .int .i64 (a : Int), .int .i64 (b : Int), .int .i64 C, vL, .bool y] 55 (0, 0))) := (hB2.block _ (blk_lt HX.out)).trans HX.out
      have xa : w2.cell? ⟨bo, 1, none⟩ = some (.int .i64 (a : Int)) := by simp [World.cell?, HX2.out]
      have xb : w2.cell? ⟨bo, 2, none⟩ = some (.int .i64 (b : Int)) := by simp [World.cell?, HX2.out]
      have xy : w2.cell? ⟨bo, 5, none⟩ = some (.bool y) := by simp [World.cell?, HX2.out]
      clear hB2
      go_wp2_with fail
      refine (refCut_none w2 g n L D HR2.out a b ha hb HM.out).mono ?_
      rintro e w9 ⟨rfl, h9⟩
      replace h9 := h9.symm
      subst h9
      go_wp2_with fail
      refine (num_any w2 4).mono ?_
      rintro e w9 ⟨rfl, h9⟩
      replace h9 := h9.symm
      subst h9
      go_wp2_with fail
      go_ret
      exact ⟨rfl, κ, vh, G, N, H, HP2.out, SameN.refl G, by omega, by omega⟩
    · have HM : Hid ((a, b) ∈ L) := Classical.not_not.1 hm
      clear hm
      have HDS : Hid (bo ≠ m ∧ g ≠ m ∧ p ≠ g ∧ m ≠ g ∧ q ≠ g) := by
        obtain ⟨k1, k2, k3, k4⟩ := HP1.out.kgr i _ HI.out
        have ko := HKO.out.1
        simp only at k1 k2 k3 k4
        refine ⟨fun e => ?_, fun e => ?_, fun e => ?_, fun e => ?_, fun e => ?_⟩
        · rw [e, k2.1] at ko; simp at ko
        · have := k4.1; rw [e, k2.1] at this; simp at this
        · have := k1.1; rw [e, k4.1] at this; simp at this
        · have := k2.1; rw [e, k4.1] at this; simp at this
        · have := k3.1; rw [e, k4.1] at this; simp at this
      refine (gCut_ok W1 p m q n L D HGR.out.1 a b ha hb HM.out).mono ?_
      rintro e w2 ⟨rfl, L', hL', hG2, hgr2⟩
      have HL' : Hid (∀ z, z ∈ L' ↔ z ∈ L ∧ z ≠ (a, b)) := hL'
      clear hL'
      have HR2 : Hid (RefIn w2 g n L D) := HGR.out.2.of_block (hgr2.block _ HDS.out.2.1 HGR.out.2.gLt)
      have HG2 : Hid (GraphIn w2 p m q n L' D ∧ Grew W1 w2 (fun k => k = m)) := ⟨hG2, hgr2⟩
      have HX2 : Hid (w2.heap[bo]? = some (.cells #[.int .i64 3, .int .i64 (a : Int), .int .i64 (b : Int), .int .i64 C, vL, .bool y] 55 (0, 0))) := (hgr2.block _ HDS.out.1 (blk_lt HX.out)).trans HX.out
      have xa : w2.cell? ⟨bo, 1, none⟩ = some (.int .i64 (a : Int)) := by simp [World.cell?, HX2.out]
      have xb : w2.cell? ⟨bo, 2, none⟩ = some (.int .i64 (b : Int)) := by simp [World.cell?, HX2.out]
      have xy : w2.cell? ⟨bo, 5, none⟩ = some (.bool y) := by simp [World.cell?, HX2.out]
      clear hG2 hgr2
      go_wp2_with fail
      refine (refCut_ok w2 g n L D HR2.out a b ha hb HM.out L' HL'.out).mono ?_
      rintro e w3 ⟨rfl, hR3, hgr3⟩
      have HP3 : Hid (PlIn w0 w3 κ bw (.slice (some ⟨gg, og, none⟩) G.length cg) (.slice (some ⟨gr, or, none⟩) G.length cr) vh (G.set i ⟨p, m, q, g, n, L', D⟩) N H) := by
        refine HP1.out.graph HI.out ((HG2.out.2.mono (fun k hk => .inl hk)).trans (hgr3.mono (fun k hk => .inr (.inr hk)))) ?_ hR3
        exact HG2.out.1.of_block (hgr3.block _ HDS.out.2.2.1 HG2.out.1.pLt) (hgr3.block _ HDS.out.2.2.2.1 HG2.out.1.mLt) (hgr3.block _ HDS.out.2.2.2.2 HG2.out.1.qLt)
      clear hR3 hgr3
      go_wp2_with fail
      refine (num_any w3 0).mono ?_
      rintro e w9 ⟨rfl, h9⟩
      replace h9 := h9.symm
      subst h9
      go_wp2_with fail
      go_ret
      exact ⟨rfl, κ, vh, _, N, H, HP3.out, SameN.set HI.out rfl, by omega, by omega⟩

set_option maxRecDepth 100000 in
set_option maxHeartbeats 4000000 in
theorem graph_end (h : PlIn w0 w κ bw vg vr vh G N H) (hGl : G.length ≤ 10000000) (i : Nat) (x : GSt) (hi : G[i]? = some x) (A B C : Int) (vL : Value) (y : Bool) :
    Calls Try.prog 25 #[.pointer (some ⟨bw, 0, none⟩), .int .i64 i, .agg #[.int .i64 4, .int .i64 A, .int .i64 B, .int .i64 C, vL, .bool y]] w (GraphPost w0 bw vg vr G N H) := by
  have hil : i < G.length := (List.getElem?_eq_some_iff.1 hi).1
  obtain ⟨gg, og, cg, rfl, cG, lG⟩ := h.gs.at hil (u := gptr x) (by simp [hi])
  obtain ⟨gr, or, cr, rfl, cR, lR⟩ := h.rs.at hil (u := rptr x) (by simp [hi])
  have c0 := h.c0
  have c1 := h.c1
  have hb := h.bwLt
  have HP : Hid (PlIn w0 w κ bw (.slice (some ⟨gg, og, none⟩) G.length cg) (.slice (some ⟨gr, or, none⟩) G.length cr) vh G N H) := h
  have HI : Hid (G[i]? = some x) := hi
  obtain ⟨p, m, q, g, n, L, D⟩ := x
  simp only [gptr, rptr] at cG cR
  clear h hi
  go_enter Try.func25, Try.ntmps25
  go_wp2_with fail
  have HX : Hid ((w.alloc (.cells #[.int .i64 4, .int .i64 A, .int .i64 B, .int .i64 C, vL, .bool y] 55)).heap[w.heap.size]? = some (.cells #[.int .i64 4, .int .i64 A, .int .i64 B, .int .i64 C, vL, .bool y] 55 (0, 0))) := heap_new rfl
  have HP1 : Hid (PlIn w0 (w.alloc (.cells #[.int .i64 4, .int .i64 A, .int .i64 B, .int .i64 C, vL, .bool y] 55)) κ bw (.slice (some ⟨gg, og, none⟩) G.length cg) (.slice (some ⟨gr, or, none⟩) G.length cr) vh G N H) := HP.out.below ((Below.refl _ _).alloc (Nat.le_refl _) _)
  have HKO : Hid (κ w.heap.size = .other ∧ w0.heap.size ≤ w.heap.size) := ⟨HP.out.fresh _ (Nat.le_refl _), HP.out.bel.size⟩
  generalize w.alloc (.cells #[.int .i64 4, .int .i64 A, .int .i64 B, .int .i64 C, vL, .bool y] 55) = W1 at HX HP1 ⊢
  generalize w.heap.size = bo at HX HKO ⊢
  have HGR : Hid (GraphIn W1 p m q n L D ∧ RefIn W1 g n L D) := HP1.out.gr i _ HI.out
  clear c0 c1 cG cR lG lR hb
  by_cases hno : isNode n A = false
  · have HNO : Hid (isNode n A = false) := hno
    clear hno
    refine (gEnd_no W1 p m q n L D HGR.out.1 A y HNO.out).mono ?_
    rintro e w2 ⟨rfl, hB2⟩
    have HP2 : Hid (PlIn w0 w2 κ bw _ _ vh G N H) := HP1.out.below hB2
    have HR2 : Hid (RefIn w2 g n L D) := HGR.out.2.below hB2
    have HX2 : Hid (w2.heap[bo]? = some (.cells #[.int .i64 4, .int .i64 A, .int .i64 B, .int .i64 C, vL, .bool y] 55 (0, 0))) := (hB2.block _ (blk_lt HX.out)).trans HX.out
    have xa : w2.cell? ⟨bo, 1, none⟩ = some (.int .i64 A) := by simp [World.cell?, HX2.out]
    have xb : w2.cell? ⟨bo, 2, none⟩ = some (.int .i64 B) := by simp [World.cell?, HX2.out]
    have xy : w2.cell? ⟨bo, 5, none⟩ = some (.bool y) := by simp [World.cell?, HX2.out]
    clear hB2
    go_wp2_with fail
    refine (refEnd_no w2 g n L D HR2.out A y HNO.out).mono ?_
    rintro e w9 ⟨rfl, h9⟩
    replace h9 := h9.symm
    subst h9
    go_wp2_with fail
    refine (num_any w2 2).mono ?_
    rintro e w9 ⟨rfl, h9⟩
    replace h9 := h9.symm
    subst h9
    go_wp2_with fail
    go_ret
    exact ⟨rfl, κ, vh, G, N, H, HP2.out, SameN.refl G, by omega, by omega⟩
  · obtain ⟨a, rfl, ha⟩ := one_node hno
    clear hno
    have HDS : Hid (bo ≠ q ∧ g ≠ q ∧ p ≠ g ∧ m ≠ g ∧ q ≠ g) := by
      obtain ⟨k1, k2, k3, k4⟩ := HP1.out.kgr i _ HI.out
      have ko := HKO.out.1
      simp only at k1 k2 k3 k4
      refine ⟨fun e => ?_, fun e => ?_, fun e => ?_, fun e => ?_, fun e => ?_⟩
      · rw [e, k3.1] at ko; simp at ko
      · have := k4.1; rw [e, k3.1] at this; simp at this
      · have := k1.1; rw [e, k4.1] at this; simp at this
      · have := k2.1; rw [e, k4.1] at this; simp at this
      · have := k3.1; rw [e, k4.1] at this; simp at this
    refine (gEnd_ok W1 p m q n L D HGR.out.1 a y ha).mono ?_
    rintro e w2 ⟨rfl, hG2, hgr2⟩
    have HR2 : Hid (RefIn w2 g n L D) := HGR.out.2.of_block (hgr2.block _ HDS.out.2.1 HGR.out.2.gLt)
    have HG2 : Hid (GraphIn w2 p m q n L (D.set a y) ∧ Grew W1 w2 (fun k => k = q)) := ⟨hG2, hgr2⟩
    have HX2 : Hid (w2.heap[bo]? = some (.cells #[.int .i64 4, .int .i64 (a : Int), .int .i64 B, .int .i64 C, vL, .bool y] 55 (0, 0))) := (hgr2.block _ HDS.out.1 (blk_lt HX.out)).trans HX.out
    have xa : w2.cell? ⟨bo, 1, none⟩ = some (.int .i64 (a : Int)) := by simp [World.cell?, HX2.out]
    have xb : w2.cell? ⟨bo, 2, none⟩ = some (.int .i64 B) := by simp [World.cell?, HX2.out]
    have xy : w2.cell? ⟨bo, 5, none⟩ = some (.bool y) := by simp [World.cell?, HX2.out]
    clear hG2 hgr2
    go_wp2_with fail
    refine (refEnd_ok w2 g n L D HR2.out a y ha).mono ?_
    rintro e w3 ⟨rfl, hR3, hgr3⟩
    have HP3 : Hid (PlIn w0 w3 κ bw (.slice (some ⟨gg, og, none⟩) G.length cg) (.slice (some ⟨gr, or, none⟩) G.length cr) vh (G.set i ⟨p, m, q, g, n, L, D.set a y⟩) N H) := by
      refine HP1.out.graph HI.out ((HG2.out.2.mono (fun k hk => .inr (.inl hk))).trans (hgr3.mono (fun k hk => .inr (.inr hk)))) ?_ hR3
      exact HG2.out.1.of_block (hgr3.block _ HDS.out.2.2.1 HG2.out.1.pLt) (hgr3.block _ HDS.out.2.2.2.1 HG2.out.1.mLt) (hgr3.block _ HDS.out.2.2.2.2 HG2.out.1.qLt)
    clear hR3 hgr3
    go_wp2_with fail
    refine (num_any w3 0).mono ?_
    rintro e w9 ⟨rfl, h9⟩
    replace h9 := h9.symm
    subst h9
    go_wp2_with fail
    go_ret
    exact ⟨rfl, κ, vh, _, N, H, HP3.out, SameN.set HI.out rfl, by omega, by omega⟩

end

end Go.Proofs.Ytbddcodljmglfaa
