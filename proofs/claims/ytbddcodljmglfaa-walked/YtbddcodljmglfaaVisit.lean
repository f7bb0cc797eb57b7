/- The closure in (walk).reached: each node of a list that is not the one left out and is not seen yet is noted and put behind those that wait. -/
import Derived.Test.YtbddcodljmglfaaGraphNew
import Derived.Test.YtbddcodljmglfaaBfs
set_option linter.unusedSimpArgs false
set_option linter.unusedVariables false
namespace Go.Proofs.Ytbddcodljmglfaa
open Go.RowKit

/-- The search's memory: the node that is left out, what is seen, what waits. -/
structure Srch (w : World) (B0 base bx bs gs bw : Nat) (x : Int) (n : Nat) (s : List Bool × List Nat) (vw : Value) : Prop where
  hx : w.heap[bx]? = some (.cells #[.int .i64 x] 3 (0, 0))
  hs : w.heap[bs]? = some (.cells #[.slice (some ⟨gs, 0, none⟩) n n] 71 (0, 0))
  hg : w.heap[gs]? = some (.cells (bits s.1).toArray 4 (0, 0))
  hw : w.heap[bw]? = some (.cells #[vw] 26 (0, 0))
  own : OwnS w base 3 1 vw s.2.length (nums s.2)
  len : s.1.length = n
  le : n ≤ 40
  bB : base ≤ w.heap.size
  o1 : B0 ≤ bx ∧ B0 ≤ bs ∧ B0 ≤ gs ∧ B0 ≤ bw
  o2 : bx < base ∧ bs < base ∧ gs < base ∧ bw < base

section
variable {w w' : World} {B0 base bx bs gs bw : Nat} {x : Int} {n : Nat} {s : List Bool × List Nat} {vw : Value}
theorem Srch.ne (h : Srch w B0 base bx bs gs bw x n s vw) : bx ≠ bs ∧ bx ≠ gs ∧ bx ≠ bw ∧ bs ≠ gs ∧ bs ≠ bw ∧ gs ≠ bw := by
  have h1 := h.hx
  have h2 := h.hs
  have h3 := h.hg
  have h4 := h.hw
  refine ⟨?_, ?_, ?_, ?_, ?_, ?_⟩ <;> (rintro rfl; simp_all)
theorem Srch.cx (h : Srch w B0 base bx bs gs bw x n s vw) : w.cell? ⟨bx, 0, none⟩ = some (.int .i64 x) := by simp [World.cell?, h.hx]
theorem Srch.cs (h : Srch w B0 base bx bs gs bw x n s vw) : w.cell? ⟨bs, 0, none⟩ = some (.slice (some ⟨gs, 0, none⟩) n n) := by simp [World.cell?, h.hs]
theorem Srch.cw (h : Srch w B0 base bx bs gs bw x n s vw) : w.cell? ⟨bw, 0, none⟩ = some vw := by simp [World.cell?, h.hw]
theorem Srch.fw (h : Srch w B0 base bx bs gs bw x n s vw) : w.frozen? ⟨bw, 0, none⟩ = false := by simp [World.frozen?, h.hw]
theorem Srch.cg (h : Srch w B0 base bx bs gs bw x n s vw) {a : Nat} (ha : a < n) : w.cell? ⟨gs, a, none⟩ = some (.bool (s.1.getD a false)) := by
  have := h.len
  simp [World.cell?, h.hg, bits, List.getD, this, ha]
theorem Srch.fg (h : Srch w B0 base bx bs gs bw x n s vw) (a : Nat) : w.frozen? ⟨gs, a, none⟩ = false := by simp [World.frozen?, h.hg]

theorem Srch.after (h : Srch w B0 base bx bs gs bw x n s vw) {w1 : World} {o : Obj} {a : Nat} (hgrow : ((w.setCell ⟨gs, a, none⟩ (.bool true)).alloc o).grownBy w1 vw.ownBlock) : w1.cell? ⟨bw, 0, none⟩ = some vw ∧ w1.frozen? ⟨bw, 0, none⟩ = false := by
  have hne := h.ne
  have ho2 := h.o2
  have hb := h.bB
  have hbw1 : w1.heap[bw]? = w.heap[bw]? := by
    rw [hgrow.block bw (by simp; omega) (fun e => by have := (h.own.lt bw e.symm).1; omega), Below.heap_alloc _ _ _ (by simp; omega), Below.heap_setCell _ _ _ _ (by simp; omega)]
  exact ⟨by rw [World.cell?_of_block hbw1]; exact h.cw, by rw [World.frozen?_of_block hbw1]; exact h.fw⟩

/-- A node is noted and put behind. -/
theorem Srch.push (h : Srch w B0 base bx bs gs bw x n s vw) {a : Nat} (ha : a < n) (hx : (a : Int) ≠ x) (hs : s.1.getD a false = false) {w1 : World} {v' : Value} {o : Obj}
    (hown : OwnS w1 base 3 1 v' (s.2.length + 1) (nums s.2 ++ [.int .i64 (a : Int)])) (hgrow : ((w.setCell ⟨gs, a, none⟩ (.bool true)).alloc o).grownBy w1 vw.ownBlock) :
    Srch (w1.setCell ⟨bw, 0, none⟩ v') B0 base bx bs gs bw x n (vis1 x s a) v' ∧ Below B0 w (w1.setCell ⟨bw, 0, none⟩ v') := by
  have hne := h.ne
  have ho1 := h.o1
  have ho2 := h.o2
  have hv : vis1 x s a = (s.1.set a true, s.2 ++ [a]) := by simp [-List.getD_eq_getElem?_getD, vis1, hx, hs]
  have hkeep : ∀ k, k < base → w1.heap[k]? = (w.setCell ⟨gs, a, none⟩ (.bool true)).heap[k]? := by
    intro k hk
    have hk' : k < w.heap.size := Nat.lt_of_lt_of_le hk h.bB
    rw [hgrow.block k (by simp; omega) (fun e => by have := (h.own.lt k e.symm).1; omega)]
    exact Below.heap_alloc _ _ _ (by simpa using hk')
  have hkeep2 : ∀ k, k < base → k ≠ gs → w1.heap[k]? = w.heap[k]? := fun k hk hg => (hkeep k hk).trans (Below.heap_setCell _ _ _ _ hg)
  have hsz : w.heap.size ≤ w1.heap.size := by have := hgrow.size; simp at this; omega
  refine ⟨⟨?_, ?_, ?_, ?_, ?_, by rw [hv]; simpa using h.len, h.le, by simpa using Nat.le_trans h.bB hsz, ho1, ho2⟩, ?_⟩
  · rw [Below.heap_setCell _ _ _ _ (by simp; omega), hkeep2 bx (by omega) (by omega)]; exact h.hx
  · rw [Below.heap_setCell _ _ _ _ (by simp; omega), hkeep2 bs (by omega) (by omega)]; exact h.hs
  · rw [Below.heap_setCell _ _ _ _ (by simp; omega), hkeep gs (by omega), hv]
    simp [World.setCell, Array.getElem?_modify, h.hg, bits, List.map_set]
  · have hb : w1.heap[bw]? = some (.cells #[vw] 26 (0, 0)) := (hkeep2 bw (by omega) (by omega)).trans h.hw
    simp [World.setCell, Array.getElem?_modify, hb]
  · have : OwnS w1 base 3 1 v' (vis1 x s a).2.length (nums (vis1 x s a).2) := by rw [hv]; simpa [nums] using hown
    exact this.of_block fun k hk => Below.heap_setCell _ _ _ _ (by have := (this.lt k hk).1; simp; omega)
  · refine ⟨hgrow.os, hgrow.tape, hgrow.output, by simpa using hsz, fun k hk => ?_⟩
    rw [Below.heap_setCell _ _ _ _ (by simp; omega), hkeep2 k (by omega) (by omega)]
end

theorem cell_new1' (w : World) (v : Value) (t : TypeId) (b : Nat) (hb : b = w.heap.size) : ∀ j u, [v][j]? = some u → (w.alloc (.cells #[v] t)).cell? ((⟨b, 0, none⟩ : Addr).add j) = some u := by
  subst hb
  exact cell_new1 w v t

theorem nums_get {l : List Nat} {k : Nat} (h : k < l.length) : (nums l)[k]? = some (.int .i64 ((l[k] : Nat) : Int)) := by simp [nums, h]

theorem vis_take_succ (x : Int) (l : List Nat) (s : List Bool × List Nat) {k : Nat} (h : k < l.length) : vis x (l.take (k + 1)) s = vis1 x (vis x (l.take k) s) l[k] := by
  unfold vis
  rw [List.take_add_one, List.foldl_append]
  simp [h]

set_option maxRecDepth 100000 in
set_option maxHeartbeats 4000000 in
theorem visit_any (w : World) (B0 base bx bs gs bw : Nat) (x : Int) (n : Nat) (s : List Bool × List Nat) (vw : Value) (h : Srch w B0 base bx bs gs bw x n s vw) (hroom : unseen s.1 + s.2.length ≤ n)
    (v : Value) (l : List Nat) (hrd : RdS w 1 v l.length (nums l)) (hv : 0 < l.length → ∀ k, v.ownBlock = some k → k < B0) (hl : ∀ a ∈ l, a < n) (hlen : l.length ≤ 1000000) :
    Calls Try.prog 75 #[v, .pointer (some ⟨bx, 0, none⟩), .pointer (some ⟨bs, 0, none⟩), .pointer (some ⟨bw, 0, none⟩)] w fun e w' => e = .returned (.tuple #[]) ∧ ∃ vw', Srch w' B0 base bx bs gs bw x n (vis x l s) vw' ∧ Below B0 w w' := by
  obtain ⟨hl1, ao, cap, rfl, hr⟩ := hrd
  obtain ⟨i0, hi, hz0, hz1, hz2⟩ := info_parts infoInt
  obtain ⟨N, hn⟩ : ∃ N, N = l.length := ⟨_, rfl⟩
  rw [← hn] at hr hlen ⊢
  have HN : Hid (N = l.length) := hn
  have HV : Hid (0 < N → ∀ k, (Value.slice ao N cap).ownBlock = some k → k < B0) := by rw [hn]; exact hv
  have HR : Hid (unseen s.1 + s.2.length ≤ n) := hroom
  have HL : Hid (∀ a ∈ l, a < n) := hl
  have HS : Hid (s.1.length = n) := h.len
  have hle := h.le
  clear hn hl1 hv hroom hl
  go_enter Try.func75, Try.ntmps75
  go_wp2
  go_loopw [9] (fun i wr => ∃ (k : Nat) (vw : Value), k ≤ N ∧ i = .int .i64 k ∧ Srch wr B0 base bx bs gs bw x n (vis x (l.take k) s) vw ∧ Below B0 w wr) (fun i _ => N - (intOf i).toNat)
  case atStart => exact ⟨0, vw, Nat.zero_le _, rfl, h, Below.refl _ _⟩
  case round =>
    obtain ⟨k, vk, hk, rfl, hsr, hbel⟩ := hrel
    clear h
    by_cases hlt : k < N
    · rcases hr with hr | ⟨g, off, rfl, hr⟩
      · omega
      have hlt' : k < l.length := HN.out ▸ hlt
      obtain ⟨a, ha⟩ : ∃ a, a = l[k] := ⟨_, rfl⟩
      have han : a < n := HL.out a (by rw [ha]; exact List.getElem_mem _)
      have hcell : wr.cell? ⟨g, off + k, none⟩ = some (.int .i64 (a : Int)) := by
        have h1 := hr k _ (nums_get hlt')
        rw [hbel.cell (by exact HV.out (by omega) g rfl), h1, ha]
      have HK : Hid (vis x (l.take (k + 1)) s = vis1 x (vis x (l.take k) s) a) := by rw [ha]; exact vis_take_succ x l s hlt'
      have hroom : Hid ((vis x (l.take k) s).2.length ≤ 40) := by
        obtain ⟨_, _, _, g4, _⟩ := vis_props x n (l.take k) s HS.out (fun b hb => HL.out b (List.mem_of_mem_take hb))
        have := HR.out
        show _ ≤ 40
        omega
      clear hr ha hlt'
      have cx := hsr.cx
      have cs := hsr.cs
      have cw := hsr.cw
      have fw := hsr.fw
      have cg := hsr.cg han
      have fg := hsr.fg a
      generalize hst : vis x (l.take k) s = st at hsr HK hroom cg
      clear hst
      by_cases hax : (a : Int) = x
      · have hv1 : Hid (vis x (l.take (k + 1)) s = st) := by show _ = _; rw [HK.out]; simp [vis1, hax]
        clear HK
        have HSR : Hid (Srch wr B0 base bx bs gs bw x n st vk) := hsr
        clear hsr
        go_wp2
        go_roundw
        case rel => exact ⟨k + 1, vk, by omega, by go_num, by rw [hv1.out]; exact HSR.out, hbel⟩
        case measure => simp [intOf]; omega
      · cases hb : st.1.getD a false
        · rw [hb] at cg
          have HB : Hid (st.1.getD a false = false) := hb
          have hne := hsr.ne
          have ho2 := hsr.o2
          have ho1 := hsr.o1
          have hbB := hsr.bB
          have HSR : Hid (Srch wr B0 base bx bs gs bw x n st vk) := hsr
          clear hb hsr
          obtain ⟨hn1, hn2, hn3, hn4, hn5, hn6⟩ := hne
          have cw1 : (wr.setCell ⟨gs, a, none⟩ (.bool true)).cell? ⟨bw, 0, none⟩ = some vk := by
            rw [World.cell?_of_block (Below.heap_setCell _ _ _ _ (by simp; omega))]; exact cw
          have hown1 : OwnS (wr.setCell ⟨gs, a, none⟩ (.bool true)) base 3 1 vk st.2.length (nums st.2) :=
            HSR.out.own.of_block fun j hj => Below.heap_setCell _ _ _ _ (by have := (HSR.out.own.lt j hj).1; simp; omega)
          have HO : Hid (OwnS (wr.setCell ⟨gs, a, none⟩ (.bool true)) base 3 1 vk st.2.length (nums st.2)) := hown1
          clear hown1
          go_wp2_with (first | (at_builtin; refine wpList_append_ownS _ rfl _ _ 26 rfl base 3 i0 (.int .i64 0) 1 8 Try.underlying26 hi hz0 hz1 hz2 rfl (by decide) _ _ _ rfl (HO.out.alloc _) ⟨wr.heap.size, 0, none⟩ 1 1 [.int .i64 (a : Int)] rfl rfl (cell_new1' _ _ _ _ (by simp)) (fun u hu => nums_one u a hu) (by decide) (by have := hroom.out; unfold maxLen; omega) (by have := hroom.out; omega) (by simp; omega) ?_; intro g' off' cap' w1 hown1 hgrow hloc hlt1; obtain ⟨cw2, fw2⟩ := HSR.out.after hgrow))
          have hfin := HSR.out.push han hax HB.out hown1 hgrow
          go_wp2
          go_roundw
          case rel => exact ⟨k + 1, _, by omega, by go_num, by rw [HK.out]; exact hfin.1, hbel.trans hfin.2⟩
          case measure => simp [intOf]; omega
        · rw [hb] at cg
          have hv1 : Hid (vis x (l.take (k + 1)) s = st) := by show _ = _; rw [HK.out]; simp only [vis1, hb, Bool.true_eq_false, and_false, if_false]
          clear HK hb
          have HSR : Hid (Srch wr B0 base bx bs gs bw x n st vk) := hsr
          clear hsr
          go_wp2
          go_roundw
          case rel => exact ⟨k + 1, vk, by omega, by go_num, by rw [hv1.out]; exact HSR.out, hbel⟩
          case measure => simp [intOf]; omega
    · have : k = N := by omega
      subst this
      have hfin : Hid (Srch wr B0 base bx bs gs bw x n (vis x l s) vk) := by
        have := hsr
        rw [List.take_of_length_le (by have := HN.out; omega)] at this
        exact this
      clear hsr
      go_wp2
      go_end0
      exact ⟨rfl, vk, hfin.out, hbel⟩

end Go.Proofs.Ytbddcodljmglfaa
