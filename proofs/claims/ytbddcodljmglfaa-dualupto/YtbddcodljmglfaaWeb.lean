/- The graph that a statement makes of raw numbers, in memory; has, over, under, among, next. -/
import Derived.Test.YtbddcodljmglfaaAsk
set_option linter.unusedSimpArgs false
set_option linter.unusedVariables false
namespace Go.Proofs.Ytbddcodljmglfaa
open Go.RowKit

def pcells (l : List (Nat × Nat)) : List Value := l.flatMap fun p => [.int .i64 (p.1 : Int), .int .i64 (p.2 : Int)]
theorem pcells_length (l : List (Nat × Nat)) : (pcells l).length = l.length * 2 := by
  induction l with
  | nil => rfl
  | cons x l ih => simp [pcells] at ih ⊢; omega
theorem pcells_append (a b : List (Nat × Nat)) : pcells (a ++ b) = pcells a ++ pcells b := by simp [pcells]
theorem pcells_get : ∀ (l : List (Nat × Nat)) (k : Nat) (h : k < l.length), (pcells l)[k * 2]? = some (.int .i64 (l[k].1 : Int)) ∧ (pcells l)[k * 2 + 1]? = some (.int .i64 (l[k].2 : Int))
  | [], k, h => by simp at h
  | x :: l, 0, h => by simp [pcells]
  | x :: l, k + 1, h => by
    have e : pcells (x :: l) = .int .i64 (x.1 : Int) :: .int .i64 (x.2 : Int) :: pcells l := by simp [pcells]
    have ih := pcells_get l k (by simpa using h)
    rw [e]
    have e1 : (k + 1) * 2 = k * 2 + 1 + 1 := by omega
    rw [e1]
    simpa using ih

def pickN (c : Int) (n : Nat) : Nat := ((if c < 0 then -(c + 1) else c) % (n : Int)).toNat
theorem pickN_lt (c : Int) {n : Nat} (h : 0 < n) : pickN c n < n := by
  unfold pickN
  have h1 := Int.emod_lt_of_pos (if c < 0 then -(c + 1) else c) (show (0 : Int) < (n : Int) by omega)
  have h2 := Int.emod_nonneg (if c < 0 then -(c + 1) else c) (show (n : Int) ≠ 0 by omega)
  omega
theorem pickN_nat {c n : Nat} (h : c < n) : pickN (c : Int) n = c := by
  unfold pickN
  rw [if_neg (by omega), Int.emod_eq_of_lt (by omega) (by omega)]
  simp

theorem ret_int {k : IntKind} {a b : Int} (h : a = b) : Ending.returned (.int k a) = .returned (.int k b) := by rw [h]

theorem pick_any (c : Int) (n : Nat) (w : World) (h1 : -9223372036854775808 ≤ c) (h2 : c ≤ 9223372036854775807) (hn : 0 < n) (hn2 : n ≤ 1000000) :
    Calls Try.prog 17 #[.int .i64 c, .int .i64 n] w fun e w' => e = .returned (.int .i64 (pickN c n)) ∧ w' = w := by
  have hn' : (0 : Int) < (n : Int) := by omega
  have hn3 : (n : Int) ≤ 1000000 := by omega
  by_cases hc : c < 0
  · have e : Hid ((-(c + 1)).tmod (n : Int) = (pickN c n : Int)) := by
      show _ = _
      have h3 := Int.emod_nonneg (-(c + 1)) (show (n : Int) ≠ 0 by omega)
      rw [pickN, if_pos hc, Int.tmod_eq_emod_of_nonneg (by omega)]
      omega
    go_enter Try.func17, Try.ntmps17
    go_wp2
    go_ret
    exact ⟨ret_int (by simpa using e.out), rfl⟩
  · have e : Hid (c.tmod (n : Int) = (pickN c n : Int)) := by
      show _ = _
      have h3 := Int.emod_nonneg c (show (n : Int) ≠ 0 by omega)
      rw [pickN, if_neg hc, Int.tmod_eq_emod_of_nonneg (by omega)]
      omega
    have hc' : 0 ≤ c := by omega
    go_enter Try.func17, Try.ntmps17
    go_wp2
    go_ret
    refine ⟨ret_int ?_, rfl⟩
    have := e.out
    rw [Int.tmod_eq_emod_of_nonneg (by omega)] at this
    simpa [Int.tmod_eq_emod_of_nonneg hc'] using this

set_option maxRecDepth 100000 in
set_option maxHeartbeats 1000000 in
theorem webHas_any (w : World) (b : Nat) (E : List (Nat × Nat)) (v : Value) (hc : w.cell? ⟨b, 2, none⟩ = some v) (hrd : RdS w 2 v E.length (pcells E)) (hlen : E.length ≤ 1000000) (x y : Nat) :
    Calls Try.prog 18 #[.pointer (some ⟨b, 0, none⟩), .int .i64 x, .int .i64 y] w fun e w' => e = .returned (.bool (decide ((x, y) ∈ E))) ∧ w' = w := by
  obtain ⟨hl, ao, cap, rfl, hr⟩ := hrd
  obtain ⟨N, hn⟩ : ∃ N, N = E.length := ⟨_, rfl⟩
  rw [← hn] at hr hlen hc
  have HN : Hid (N = E.length) := hn
  clear hn hl
  go_enter Try.func18, Try.ntmps18
  go_wp2
  go_loopg [7] N (fun g i wx => ∃ k : Nat, k + g = N ∧ i = .int .i64 k ∧ wx = w ∧ Hid ((x, y) ∉ E.take k))
  case atStart => exact ⟨0, by omega, rfl, rfl, by simp [Hid]⟩
  case round =>
    obtain ⟨k, hkg, rfl, rfl, hno⟩ := hrel
    by_cases hlt : k < N
    · rcases hr with hr | ⟨g, off, rfl, hr⟩
      · omega
      have hlt' : k < E.length := HN.out ▸ hlt
      obtain ⟨h0, h1⟩ := pcells_get E k hlt'
      have c0 := hr _ _ h0
      have c1 := hr _ _ h1
      have HE : Hid (E[k]? = some (E[k].1, E[k].2)) := by show _ = _; simp [hlt']
      have HT : Hid (E.take (k + 1) = E.take k ++ [(E[k].1, E[k].2)]) := by show _ = _; rw [List.take_add_one, List.getElem?_eq_getElem hlt']; rfl
      generalize E[k].1 = e0 at c0 HE HT
      generalize E[k].2 = e1 at c1 HE HT
      clear hr h0 h1 hlt'
      rw [← Nat.add_assoc] at c1
      by_cases hx : e0 = x
      · subst hx
        by_cases hy : e1 = y
        · subst hy
          have hfin : Hid (decide ((e0, e1) ∈ E) = true) := by show _ = _; simp; exact List.mem_of_getElem? HE.out
          go_wp2
          go_ret
          exact ⟨by rw [hfin.out]; rfl, rfl⟩
        · have hy1 : ((e1 : Int) == (y : Int)) = false := by simp; omega
          have hy2 : ¬ (e1 : Int) = (y : Int) := by omega
          go_wp2
          go_roundg (N - (k + 1))
          case measure => omega
          case rel => exact ⟨k + 1, by omega, by go_num, rfl, by show _ ∉ _; rw [HT.out]; simp only [List.mem_append, List.mem_singleton, Prod.mk.injEq, not_or]; exact ⟨hno.out, fun h => hy h.2.symm⟩⟩
      · have hx1 : ((e0 : Int) == (x : Int)) = false := by simp; omega
        have hx2 : ¬ (e0 : Int) = (x : Int) := by omega
        go_wp2
        go_roundg (N - (k + 1))
        case measure => omega
        case rel => exact ⟨k + 1, by omega, by go_num, rfl, by show _ ∉ _; rw [HT.out]; simp only [List.mem_append, List.mem_singleton, Prod.mk.injEq, not_or]; exact ⟨hno.out, fun h => hx h.1.symm⟩⟩
    · have hk : k = N := by omega
      subst hk
      have hfin : Hid (decide ((x, y) ∈ E) = false) := by
        show _ = _
        have := hno.out
        rw [List.take_of_length_le (by have := HN.out; omega)] at this
        simp [this]
      go_wp2
      go_ret
      exact ⟨by rw [hfin.out]; rfl, rfl⟩

/-- The graph of a statement: its own list of edges and of ends, the graph itself. -/
structure WebIn (w : World) (b base p m q n : Nat) (L : List (Nat × Nat)) (D : List Bool) (De : List Nat) (ve vd : Value) : Prop where
  head : w.heap[b]? = some (.cells #[.pointer (some ⟨p, 0, none⟩), .int .i64 n, ve, vd] 33 (0, 0))
  graph : GraphIn w p m q n L D
  edges : OwnS w base 42 2 ve L.length (pcells L)
  ends : OwnS w base 3 1 vd De.length (nums De)
  tells : ∀ a, D.getD a false = true ↔ a ∈ De
  eLt : ∀ a ∈ De, a < n
  lo : base ≤ b ∧ base ≤ p ∧ base ≤ m ∧ base ≤ q

section
variable {w w' : World} {b base p m q n : Nat} {L : List (Nat × Nat)} {D : List Bool} {De : List Nat} {ve vd : Value}
theorem WebIn.below (h : WebIn w b base p m q n L D De ve vd) (hb : Below w.heap.size w w') : WebIn w' b base p m q n L D De ve vd :=
  ⟨(hb.block _ (blk_lt h.head)).trans h.head, h.graph.below hb, h.edges.of_block fun k hk => hb.block _ (h.edges.lt k hk).2, h.ends.of_block fun k hk => hb.block _ (h.ends.lt k hk).2, h.tells, h.eLt, h.lo⟩
theorem WebIn.c0 (h : WebIn w b base p m q n L D De ve vd) : w.cell? ⟨b, 0, none⟩ = some (.pointer (some ⟨p, 0, none⟩)) := by simp [World.cell?, h.head]
theorem WebIn.c1 (h : WebIn w b base p m q n L D De ve vd) : w.cell? ⟨b, 1, none⟩ = some (.int .i64 n) := by simp [World.cell?, h.head]
theorem WebIn.c2 (h : WebIn w b base p m q n L D De ve vd) : w.cell? ⟨b, 2, none⟩ = some ve := by simp [World.cell?, h.head]
theorem WebIn.c3 (h : WebIn w b base p m q n L D De ve vd) : w.cell? ⟨b, 3, none⟩ = some vd := by simp [World.cell?, h.head]
theorem WebIn.f2 (h : WebIn w b base p m q n L D De ve vd) (o : Nat) : w.frozen? ⟨b, o, none⟩ = false := by simp [World.frozen?, h.head]
theorem WebIn.kept (h : WebIn w b base p m q n L D De ve vd) (hb : ∀ k, base ≤ k → k < w.heap.size → w'.heap[k]? = w.heap[k]?) : WebIn w' b base p m q n L D De ve vd := by
  have lo := h.lo
  exact ⟨(hb _ lo.1 (blk_lt h.head)).trans h.head, h.graph.of_block (hb _ lo.2.1 h.graph.pLt) (hb _ lo.2.2.1 h.graph.mLt) (hb _ lo.2.2.2 h.graph.qLt), h.edges.of_block fun k hk => hb k (h.edges.lt k hk).1 (h.edges.lt k hk).2, h.ends.of_block fun k hk => hb k (h.ends.lt k hk).1 (h.ends.lt k hk).2, h.tells, h.eLt, lo⟩
theorem WebIn.len40 (h : WebIn w b base p m q n L D De ve vd) : L.length ≤ 1600 := pairs40 h.graph
end

set_option maxHeartbeats 1000000 in
theorem webOver_any (w : World) (b base p m q n : Nat) (L : List (Nat × Nat)) (D : List Bool) (De : List Nat) (ve vd : Value) (h : WebIn w b base p m q n L D De ve vd) (x y : Nat) (hx : x < n) (hy : y < n) :
    Calls Try.prog 11 #[.pointer (some ⟨b, 0, none⟩), .int .i64 x, .int .i64 y] w fun e w' => ∃ r : Bool, e = .returned (.bool r) ∧ (r = true ↔ HeldF L x y) ∧ Below w.heap.size w w' := by
  have c0 := h.c0
  have HG : Hid (GraphIn w p m q n L D) := h.graph
  clear h
  go_enter Try.func11, Try.ntmps11
  go_wp2_with fail
  refine (gOver_any w p m q n L D HG.out x y hx hy).mono ?_
  rintro e w1 ⟨r, rfl, hr, hb⟩
  have hfin : Hid (∃ r' : Bool, Ending.returned (.bool r) = .returned (.bool r') ∧ (r' = true ↔ HeldF L x y) ∧ Below w.heap.size w w1) := ⟨r, rfl, hr, hb⟩
  clear hr
  cases r
  all_goals
    go_wp2_with fail
    go_ret
    exact hfin.out

set_option maxHeartbeats 1000000 in
theorem webUnder_any (w : World) (b base p m q n : Nat) (L : List (Nat × Nat)) (D : List Bool) (De : List Nat) (ve vd : Value) (h : WebIn w b base p m q n L D De ve vd) (x y : Nat) (hx : x < n) (hy : y < n) :
    Calls Try.prog 13 #[.pointer (some ⟨b, 0, none⟩), .int .i64 x, .int .i64 y] w fun e w' => ∃ r : Bool, e = .returned (.bool r) ∧ (r = true ↔ HeldB L D x y) ∧ Below w.heap.size w w' := by
  have c0 := h.c0
  have HG : Hid (GraphIn w p m q n L D) := h.graph
  clear h
  go_enter Try.func13, Try.ntmps13
  go_wp2_with fail
  refine (gUnder_any w p m q n L D HG.out x y hx hy).mono ?_
  rintro e w1 ⟨r, rfl, hr, hb⟩
  have hfin : Hid (∃ r' : Bool, Ending.returned (.bool r) = .returned (.bool r') ∧ (r' = true ↔ HeldB L D x y) ∧ Below w.heap.size w w1) := ⟨r, rfl, hr, hb⟩
  clear hr
  cases r
  all_goals
    go_wp2_with fail
    go_ret
    exact hfin.out

end Go.Proofs.Ytbddcodljmglfaa
