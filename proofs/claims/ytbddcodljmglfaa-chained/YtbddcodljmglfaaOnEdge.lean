/- onEdge: is y on a's edge, by what is over what. -/
import Derived.Test.YtbddcodljmglfaaMeetAsk
import Derived.Test.YtbddcodljmglfaaWalkFns
set_option linter.unusedSimpArgs false
set_option linter.unusedVariables false
namespace Go.Proofs.Ytbddcodljmglfaa
open Go.RowKit

def EdgeBy (L : List (Nat × Nat)) (a y : Nat) (x : Nat × Nat) : Prop := x.2 = y ∧ HeldF L a x.1 ∧ (y = a ∨ ¬ HeldF L a y)

theorem onEdge_iff (L : List (Nat × Nat)) (a y : Nat) : OnEdge L a y ↔ ∃ x ∈ L, EdgeBy L a y x := by
  unfold OnEdge EdgeBy
  constructor
  · rintro ⟨h1, x, h2, h3⟩
    exact ⟨(x, y), h3, rfl, h2, h1.symm⟩
  · rintro ⟨⟨x, y'⟩, h3, rfl, h2, h1⟩
    exact ⟨h1.symm, x, h2, h3⟩

set_option maxRecDepth 100000 in
set_option maxHeartbeats 2000000 in
theorem webOnEdge_any (w : World) (b base p m q n : Nat) (L : List (Nat × Nat)) (D : List Bool) (De : List Nat) (ve vd : Value) (h : WebIn w b base p m q n L D De ve vd) (hlen : L.length ≤ 1000000) (a y : Nat) (ha : a < n) (hy : y < n) :
    Calls Try.prog 35 #[.pointer (some ⟨b, 0, none⟩), .int .i64 a, .int .i64 y] w fun e w' => ∃ r : Bool, e = .returned (.bool r) ∧ (r = true ↔ OnEdge L a y) ∧ Below w.heap.size w w' := by
  have HW : Hid (WebIn w b base p m q n L D De ve vd) := h
  obtain ⟨hl, ao, cap, rfl, hr⟩ := h.edges.rd
  have hc := h.c2
  obtain ⟨N, hn⟩ : ∃ N, N = L.length := ⟨_, rfl⟩
  rw [← hn] at hr hlen hc
  have HN : Hid (N = L.length) := hn
  have hbw := World.block_lt_of_cell? w _ hc
  clear hn hl h
  go_enter Try.func35, Try.ntmps35
  go_wp2_with fail
  go_loopg [7] N (fun g i wr => ∃ k : Nat, k + g = N ∧ i = .int .i64 k ∧ Hid (∀ x ∈ L.take k, ¬ EdgeBy L a y x) ∧ Hid (Below w.heap.size w wr))
  case atStart => exact ⟨0, by omega, rfl, by simp [Hid], Below.refl _ _⟩
  case round =>
    obtain ⟨k, hkg, rfl, hno, hbel⟩ := hrel
    have hc' : wr.cell? ⟨b, 2, none⟩ = some (.slice ao N cap) := by rw [hbel.out.cell hbw]; exact hc
    by_cases hlt : k < N
    · rcases hr with hr | ⟨g, off, rfl, hr⟩
      · omega
      have hlt' : k < L.length := HN.out ▸ hlt
      obtain ⟨h0, h1⟩ := pcells_get L k hlt'
      have d0 := hr _ _ h0
      have d1 := hr _ _ h1
      rw [← Nat.add_assoc] at d1
      have c0 : wr.cell? ⟨g, off + k * 2, none⟩ = some (.int .i64 (L[k].1 : Int)) := by rw [hbel.out.cell (World.block_lt_of_cell? w _ d0)]; exact d0
      have c1 : wr.cell? ⟨g, off + k * 2 + 1, none⟩ = some (.int .i64 (L[k].2 : Int)) := by rw [hbel.out.cell (World.block_lt_of_cell? w _ d1)]; exact d1
      have HE : Hid ((L[k].1, L[k].2) ∈ L) := List.getElem_mem hlt'
      have HT : Hid (L.take (k + 1) = L.take k ++ [(L[k].1, L[k].2)]) := by show _ = _; rw [List.take_add_one, List.getElem?_eq_getElem hlt']; rfl
      have hlt0 := HW.out.graph.lt _ (List.getElem_mem hlt')
      have hx0n : L[k].1 < n := hlt0.1
      generalize L[k].1 = e0 at c0 HE HT hx0n
      generalize L[k].2 = e1 at c1 HE HT
      have hs := hbel.out.size
      have hnext : Hid (¬ EdgeBy L a y (e0, e1) → ∀ x ∈ L.take (k + 1), ¬ EdgeBy L a y x) := by
        intro h x hx
        rw [HT.out] at hx
        rcases List.mem_append.1 hx with hx | hx
        · exact hno.out x hx
        · rw [List.mem_singleton.1 hx]; exact h
      clear hr d0 d1 h0 h1 hlt' hc HT hlt0
      have hb1 : Hid (Below w.heap.size w (wr.alloc (.cells #[.int .i64 e0, .int .i64 e1] 42))) := hbel.out.alloc hs _
      by_cases hx : e1 = y
      · subst hx
        go_wp2_with fail
        refine (webOver_any _ b base p m q n L D De _ vd (HW.out.below hb1.out) a e0 ha hx0n).mono ?_
        rintro e w2 ⟨r1, rfl, hr1, hb2⟩
        have HR1 : Hid (r1 = true ↔ HeldF L a e0) := hr1
        have hB2 : Hid (Below w.heap.size w w2) := hb1.out.trans (hb2.mono hb1.out.size)
        clear hr1 hb2 c0 c1
        go_wp2_with fail
        refine (webOver_any _ b base p m q n L D De _ vd (HW.out.below hB2.out) a e1 ha hy).mono ?_
        rintro e w3 ⟨r2, rfl, hr2, hb3⟩
        have HR2 : Hid (r2 = true ↔ HeldF L a e1) := hr2
        have hB3 : Hid (Below w.heap.size w w3) := hB2.out.trans (hb3.mono hB2.out.size)
        clear hr2 hb3
        have hdec : Hid (EdgeBy L a e1 (e0, e1) ↔ r1 = true ∧ (e1 = a ∨ r2 = false)) := by
          show _ ↔ _
          unfold EdgeBy
          rw [← HR1.out, ← HR2.out]
          simp
        by_cases heq : e1 = a
        · have h4 : (a : Int) = (e1 : Int) := by omega
          have hdec2 : Hid (EdgeBy L a e1 (e0, e1) ↔ r1 = true) := by show _ ↔ _; rw [hdec.out]; simp [heq]
          clear heq hdec
          cases r1
          · clear h4
            go_wp2_with fail
            go_roundg (N - (k + 1))
            case measure => omega
            case rel => exact ⟨k + 1, by omega, by go_num, hnext.out (by rw [hdec2.out]; simp), hB3.out⟩
          · have hfin : Hid (OnEdge L a e1) := (onEdge_iff L a e1).2 ⟨_, HE.out, hdec2.out.2 rfl⟩
            go_wp2_with fail
            try rw [Exit.noGoto_ret]
            go_ret
            exact ⟨true, rfl, by simp [hfin.out], hB3.out⟩
        · have h3 : ((e1 : Int) == (a : Int)) = false := by rw [beq_eq_false_iff_ne]; omega
          have h4 : ¬ (e1 : Int) = (a : Int) := by omega
          have hdec2 : Hid (EdgeBy L a e1 (e0, e1) ↔ r1 = true ∧ r2 = false) := by show _ ↔ _; rw [hdec.out]; simp [heq]
          clear heq hdec
          cases r1
          · go_wp2_with fail
            go_roundg (N - (k + 1))
            case measure => omega
            case rel => exact ⟨k + 1, by omega, by go_num, hnext.out (by rw [hdec2.out]; simp), hB3.out⟩
          · cases r2
            · have hfin : Hid (OnEdge L a e1) := (onEdge_iff L a e1).2 ⟨_, HE.out, hdec2.out.2 ⟨rfl, rfl⟩⟩
              go_wp2_with fail
              try rw [Exit.noGoto_ret]
              go_ret
              exact ⟨true, rfl, by simp [hfin.out], hB3.out⟩
            · go_wp2_with fail
              go_roundg (N - (k + 1))
              case measure => omega
              case rel => exact ⟨k + 1, by omega, by go_num, hnext.out (by rw [hdec2.out]; simp), hB3.out⟩
      · have hx1 : ((e1 : Int) == (y : Int)) = false := by rw [beq_eq_false_iff_ne]; omega
        have hx2 : ¬ (e1 : Int) = (y : Int) := by omega
        have hne : Hid (¬ EdgeBy L a y (e0, e1)) := fun h => hx h.1
        go_wp2_with fail
        go_roundg (N - (k + 1))
        case measure => omega
        case rel => exact ⟨k + 1, by omega, by go_num, hnext.out hne.out, hb1.out⟩
    · have hk : k = N := by omega
      subst hk
      have hfin : Hid (¬ OnEdge L a y) := by
        intro h
        obtain ⟨x, hx, h⟩ := (onEdge_iff L a y).1 h
        exact hno.out x (by rw [List.take_of_length_le (by have := HN.out; omega)]; exact hx) h
      go_wp2_with fail
      try rw [Exit.noGoto_ret]
      go_ret
      exact ⟨false, rfl, by simp [hfin.out], hbel.out⟩

end Go.Proofs.Ytbddcodljmglfaa
