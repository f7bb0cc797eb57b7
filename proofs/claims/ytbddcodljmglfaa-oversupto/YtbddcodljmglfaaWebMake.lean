/- web: the graph that a statement makes of raw numbers. -/
import Derived.Test.YtbddcodljmglfaaWeb
set_option linter.unusedSimpArgs false
set_option linter.unusedVariables false
namespace Go.Proofs.Ytbddcodljmglfaa
open Go.RowKit

def rcells (l : List (Int × Int)) : List Value := l.flatMap fun p => [.int .i64 p.1, .int .i64 p.2]
theorem rcells_get : ∀ (l : List (Int × Int)) (k : Nat) (h : k < l.length), (rcells l)[k * 2]? = some (.int .i64 l[k].1) ∧ (rcells l)[k * 2 + 1]? = some (.int .i64 l[k].2)
  | [], k, h => by simp at h
  | x :: l, 0, h => by simp [rcells]
  | x :: l, k + 1, h => by
    have e : rcells (x :: l) = .int .i64 x.1 :: .int .i64 x.2 :: rcells l := by simp [rcells]
    have ih := rcells_get l k (by simpa using h)
    rw [e]
    have e1 : (k + 1) * 2 = k * 2 + 1 + 1 := by omega
    rw [e1]
    simpa using ih

def mp (n : Nat) (x : Int × Int) : Nat × Nat := (pickN x.1 n, pickN x.2 n)
def put1 (L : List (Nat × Nat)) (x : Nat × Nat) : List (Nat × Nat) := if x ∈ L then L else L ++ [x]
def webL (n : Nat) (l : List (Int × Int)) : List (Nat × Nat) := l.foldl (fun L x => put1 L (mp n x)) []
def webD (n : Nat) (l : List Int) : List Bool := l.foldl (fun D x => D.set (pickN x n) true) (List.replicate n false)
def webDe (n : Nat) (l : List Int) : List Nat := l.map (fun x => pickN x n)

theorem webL_succ (n : Nat) (l : List (Int × Int)) {k : Nat} (h : k < l.length) : webL n (l.take (k + 1)) = put1 (webL n (l.take k)) (mp n l[k]) := by
  unfold webL
  rw [List.take_add_one, List.getElem?_eq_getElem h, List.foldl_append]
  rfl
theorem webD_succ (n : Nat) (l : List Int) {k : Nat} (h : k < l.length) : webD n (l.take (k + 1)) = (webD n (l.take k)).set (pickN l[k] n) true := by
  unfold webD
  rw [List.take_add_one, List.getElem?_eq_getElem h, List.foldl_append]
  rfl
theorem webDe_succ (n : Nat) (l : List Int) {k : Nat} (h : k < l.length) : webDe n (l.take (k + 1)) = webDe n (l.take k) ++ [pickN l[k] n] := by
  unfold webDe
  rw [List.take_add_one, List.getElem?_eq_getElem h, List.map_append]
  rfl

/-- The numbers of 64 bits. -/
def fits (a : Int) : Prop := -9223372036854775808 ≤ a ∧ a ≤ 9223372036854775807

theorem infoPair : (Try.prog.info? 42).map (fun i => (i.zero, i.size, i.bytes)) = some (some (.agg #[.int .i64 0, .int .i64 0]), 2, 16) := by kernel_rfl

theorem cell_new2 (w : World) (u v : Value) (t : TypeId) (b : Nat) (hb : b = w.heap.size) : ∀ j x, [u, v][j]? = some x → (w.alloc (.cells #[u, v] t)).cell? ((⟨b, 0, none⟩ : Addr).add j) = some x := by
  subst hb
  intro j x hj
  match j, hj with
  | 0, hj => simp at hj; subst hj; simp [Addr.add]
  | 1, hj => simp at hj; subst hj; simp [Addr.add]
  | j + 2, hj => simp at hj

theorem two_one (a b : Nat) : ∀ u ∈ [Value.int .i64 (a : Int), Value.int .i64 (b : Int)], u.oneCell' = true := by
  intro u hu
  simp at hu
  rcases hu with rfl | rfl <;> rfl

section
variable {w wr w2 w3 : World} {b base p m q n : Nat} {L : List (Nat × Nat)} {D : List Bool} {De : List Nat} {ve vd : Value}

theorem WebIn.ne (h : WebIn wr b base p m q n L D De ve vd) : b ≠ p ∧ b ≠ m ∧ b ≠ q ∧ (∀ k, ve.ownBlock = some k → k ≠ b ∧ k ≠ p ∧ k ≠ m ∧ k ≠ q) ∧ (∀ k, vd.ownBlock = some k → k ≠ b ∧ k ≠ p ∧ k ≠ m ∧ k ≠ q) ∧ (∀ k, ve.ownBlock = some k → vd.ownBlock ≠ some k) := by
  obtain ⟨es, c, hm, _⟩ := h.graph.edges
  have hb := h.head
  have hp := h.graph.head
  have hq := h.graph.ends
  have hve : ∀ k, ve.ownBlock = some k → ∃ cur, wr.heap[k]? = some (.cells cur 42 (0, 0)) := by
    intro k hk
    rcases h.edges.2 with ⟨rfl, _⟩ | ⟨g, off, cap, cur, rfl, _, hg, _⟩
    · simp [Value.ownBlock] at hk
    · simp [Value.ownBlock] at hk; subst hk; exact ⟨cur, hg⟩
  have hvd : ∀ k, vd.ownBlock = some k → ∃ cur, wr.heap[k]? = some (.cells cur 3 (0, 0)) := by
    intro k hk
    rcases h.ends.2 with ⟨rfl, _⟩ | ⟨g, off, cap, cur, rfl, _, hg, _⟩
    · simp [Value.ownBlock] at hk
    · simp [Value.ownBlock] at hk; subst hk; exact ⟨cur, hg⟩
  refine ⟨?_, ?_, ?_, ?_, ?_, ?_⟩
  · rintro rfl; rw [hb] at hp; simp at hp
  · rintro rfl; rw [hb] at hm; simp at hm
  · rintro rfl; rw [hb] at hq; simp at hq
  · intro k hk
    obtain ⟨cur, hc⟩ := hve k hk
    refine ⟨?_, ?_, ?_, ?_⟩
    · rintro rfl; rw [hb] at hc; simp at hc
    · rintro rfl; rw [hp] at hc; simp at hc
    · rintro rfl; rw [hm] at hc; simp at hc
    · rintro rfl; rw [hq] at hc; simp at hc
  · intro k hk
    obtain ⟨cur, hc⟩ := hvd k hk
    refine ⟨?_, ?_, ?_, ?_⟩
    · rintro rfl; rw [hb] at hc; simp at hc
    · rintro rfl; rw [hp] at hc; simp at hc
    · rintro rfl; rw [hm] at hc; simp at hc
    · rintro rfl; rw [hq] at hc; simp at hc
  · intro k hk hk'
    obtain ⟨c1, h1⟩ := hve k hk
    obtain ⟨c2, h2⟩ := hvd k hk'
    rw [h1] at h2
    simp at h2

/-- Behind Add: the web but for its own list of edges. -/
theorem WebIn.mid (h : WebIn wr b base p m q n L D De ve vd) {L' : List (Nat × Nat)} (hg : GraphIn w2 p m q n L' D) (hgr : Grew wr w2 (fun k => k = m)) :
    w2.heap[b]? = wr.heap[b]? ∧ OwnS w2 base 42 2 ve L.length (pcells L) ∧ OwnS w2 base 3 1 vd De.length (nums De) := by
  have hne := h.ne
  refine ⟨hgr.block _ hne.2.1 (blk_lt h.head), h.edges.of_block fun k hk => hgr.block k (hne.2.2.2.1 k hk).2.2.1 (h.edges.lt k hk).2, h.ends.of_block fun k hk => hgr.block k (hne.2.2.2.2.1 k hk).2.2.1 (h.ends.lt k hk).2⟩

theorem WebIn.midD (h : WebIn wr b base p m q n L D De ve vd) {D' : List Bool} (hg : GraphIn w2 p m q n L D') (hgr : Grew wr w2 (fun k => k = q)) :
    w2.heap[b]? = wr.heap[b]? ∧ OwnS w2 base 42 2 ve L.length (pcells L) ∧ OwnS w2 base 3 1 vd De.length (nums De) := by
  have hne := h.ne
  refine ⟨hgr.block _ hne.2.2.1 (blk_lt h.head), h.edges.of_block fun k hk => hgr.block k (hne.2.2.2.1 k hk).2.2.2 (h.edges.lt k hk).2, h.ends.of_block fun k hk => hgr.block k (hne.2.2.2.2.1 k hk).2.2.2 (h.ends.lt k hk).2⟩

/-- The edge is noted. -/
theorem WebIn.noted (h : WebIn wr b base p m q n L D De ve vd) {x : Nat × Nat} (hg : GraphIn w2 p m q n (L ++ [x]) D) (hgr : Grew wr w2 (fun k => k = m)) {o : Obj} {g off cap : Nat}
    (hown : OwnS w3 base 42 2 (.slice (some ⟨g, off, none⟩) (L.length + 1) cap) (L.length + 1) (pcells L ++ [.int .i64 (x.1 : Int), .int .i64 (x.2 : Int)])) (hgrow : (w2.alloc o).grownBy w3 ve.ownBlock) :
    WebIn (w3.setCell ⟨b, 2, none⟩ (.slice (some ⟨g, off, none⟩) (L.length + 1) cap)) b base p m q n (L ++ [x]) D De (.slice (some ⟨g, off, none⟩) (L.length + 1) cap) vd ∧ (∀ k, k < base → k < wr.heap.size → (w3.setCell ⟨b, 2, none⟩ (.slice (some ⟨g, off, none⟩) (L.length + 1) cap)).heap[k]? = wr.heap[k]?) ∧
      wr.heap.size ≤ (w3.setCell ⟨b, 2, none⟩ (.slice (some ⟨g, off, none⟩) (L.length + 1) cap)).heap.size ∧ w3.os = wr.os ∧ w3.tape = wr.tape ∧ w3.output = wr.output := by
  obtain ⟨hb2, hve2, hvd2⟩ := h.mid hg hgr
  obtain ⟨n1, n2, n3, n4, n5, n6⟩ := h.ne
  have lo := h.lo
  have hblt : b < w2.heap.size := Nat.lt_of_lt_of_le (blk_lt h.head) hgr.size
  have keep : ∀ k, k < w2.heap.size → ve.ownBlock ≠ some k → w3.heap[k]? = w2.heap[k]? := fun k hk hne => (hgrow.block k (by simp; omega) (fun e => hne e.symm)).trans (Below.heap_alloc _ _ _ hk)
  have keepv : ∀ k, k < w2.heap.size → (ve.ownBlock = some k → False) → k ≠ b → (w3.setCell ⟨b, 2, none⟩ (.slice (some ⟨g, off, none⟩) (L.length + 1) cap)).heap[k]? = w2.heap[k]? := fun k hk hne hkb => (Below.heap_setCell _ _ _ _ hkb).trans (keep k hk hne)
  have hb3 : w3.heap[b]? = some (.cells #[.pointer (some ⟨p, 0, none⟩), .int .i64 n, ve, vd] 33 (0, 0)) := (keep b hblt (fun e => (n4 b e).1 rfl)).trans (hb2.trans h.head)
  have hne3 : ∀ k, (Value.slice (some ⟨g, off, none⟩) (L.length + 1) cap).ownBlock = some k → k ≠ b := by
    intro k hk
    simp [Value.ownBlock] at hk
    subst hk
    rintro rfl
    rcases hown.2 with ⟨h1, _⟩ | ⟨g', off', cap', cur, h1, _, hg', _⟩
    · simp at h1
    · simp at h1
      obtain ⟨⟨rfl, rfl⟩, rfl⟩ := h1
      rw [hb3] at hg'
      simp at hg'
  refine ⟨⟨?_, ?_, ?_, ?_, h.tells, h.eLt, lo⟩, ?_, ?_, hgrow.os.trans hgr.os, hgrow.tape.trans hgr.tape, hgrow.output.trans hgr.output⟩
  · simp [World.setCell, Array.getElem?_modify, hb3]
  · exact hg.of_block (keepv p hg.pLt (fun e => (n4 p e).2.1 rfl) n1.symm) (keepv m hg.mLt (fun e => (n4 m e).2.2.1 rfl) n2.symm) (keepv q hg.qLt (fun e => (n4 q e).2.2.2 rfl) n3.symm)
  · have h2 : OwnS w3 base 42 2 (.slice (some ⟨g, off, none⟩) (L.length + 1) cap) (L ++ [x]).length (pcells (L ++ [x])) := by
      rw [pcells_append]
      simpa [pcells] using hown
    exact h2.of_block fun k hk => Below.heap_setCell _ _ _ _ (hne3 k hk)
  · exact hvd2.of_block fun k hk => keepv k (hvd2.lt k hk).2 (fun e => n6 k e hk) (n5 k hk).1
  · intro k hk hl
    rw [keepv k (Nat.lt_of_lt_of_le hl hgr.size) (fun e => by have := (h.edges.lt k e).1; omega) (by omega)]
    exact hgr.block k (by omega) hl
  · have h1 := hgr.size
    have h2 := hgrow.size
    simp at h2 ⊢
    omega

/-- The end is noted. -/
theorem WebIn.ended (h : WebIn wr b base p m q n L D De ve vd) {x : Nat} (hx : x < n) (hg : GraphIn w2 p m q n L (D.set x true)) (hgr : Grew wr w2 (fun k => k = q)) {o : Obj} {g off cap : Nat}
    (hown : OwnS w3 base 3 1 (.slice (some ⟨g, off, none⟩) (De.length + 1) cap) (De.length + 1) (nums De ++ [.int .i64 (x : Int)])) (hgrow : (w2.alloc o).grownBy w3 vd.ownBlock) :
    WebIn (w3.setCell ⟨b, 3, none⟩ (.slice (some ⟨g, off, none⟩) (De.length + 1) cap)) b base p m q n L (D.set x true) (De ++ [x]) ve (.slice (some ⟨g, off, none⟩) (De.length + 1) cap) ∧ (∀ k, k < base → k < wr.heap.size → (w3.setCell ⟨b, 3, none⟩ (.slice (some ⟨g, off, none⟩) (De.length + 1) cap)).heap[k]? = wr.heap[k]?) ∧
      wr.heap.size ≤ (w3.setCell ⟨b, 3, none⟩ (.slice (some ⟨g, off, none⟩) (De.length + 1) cap)).heap.size ∧ w3.os = wr.os ∧ w3.tape = wr.tape ∧ w3.output = wr.output := by
  obtain ⟨hb2, hve2, hvd2⟩ := h.midD hg hgr
  obtain ⟨n1, n2, n3, n4, n5, n6⟩ := h.ne
  have lo := h.lo
  have hblt : b < w2.heap.size := Nat.lt_of_lt_of_le (blk_lt h.head) hgr.size
  have keep : ∀ k, k < w2.heap.size → vd.ownBlock ≠ some k → w3.heap[k]? = w2.heap[k]? := fun k hk hne => (hgrow.block k (by simp; omega) (fun e => hne e.symm)).trans (Below.heap_alloc _ _ _ hk)
  have keepv : ∀ k, k < w2.heap.size → (vd.ownBlock = some k → False) → k ≠ b → (w3.setCell ⟨b, 3, none⟩ (.slice (some ⟨g, off, none⟩) (De.length + 1) cap)).heap[k]? = w2.heap[k]? := fun k hk hne hkb => (Below.heap_setCell _ _ _ _ hkb).trans (keep k hk hne)
  have hb3 : w3.heap[b]? = some (.cells #[.pointer (some ⟨p, 0, none⟩), .int .i64 n, ve, vd] 33 (0, 0)) := (keep b hblt (fun e => (n5 b e).1 rfl)).trans (hb2.trans h.head)
  have hne3 : ∀ k, (Value.slice (some ⟨g, off, none⟩) (De.length + 1) cap).ownBlock = some k → k ≠ b := by
    intro k hk
    simp [Value.ownBlock] at hk
    subst hk
    rintro rfl
    rcases hown.2 with ⟨h1, _⟩ | ⟨g', off', cap', cur, h1, _, hg', _⟩
    · simp at h1
    · simp at h1
      obtain ⟨⟨rfl, rfl⟩, rfl⟩ := h1
      rw [hb3] at hg'
      simp at hg'
  have hxl : x < D.length := by rw [h.graph.len]; exact hx
  refine ⟨⟨?_, ?_, ?_, ?_, ?_, ?_, lo⟩, ?_, ?_, hgrow.os.trans hgr.os, hgrow.tape.trans hgr.tape, hgrow.output.trans hgr.output⟩
  · simp [World.setCell, Array.getElem?_modify, hb3]
  · exact hg.of_block (keepv p hg.pLt (fun e => (n5 p e).2.1 rfl) n1.symm) (keepv m hg.mLt (fun e => (n5 m e).2.2.1 rfl) n2.symm) (keepv q hg.qLt (fun e => (n5 q e).2.2.2 rfl) n3.symm)
  · exact hve2.of_block fun k hk => keepv k (hve2.lt k hk).2 (fun e => n6 k hk e) (n4 k hk).1
  · have h2 : OwnS w3 base 3 1 (.slice (some ⟨g, off, none⟩) (De.length + 1) cap) (De ++ [x]).length (nums (De ++ [x])) := by
      rw [nums_append]
      simpa [nums] using hown
    exact h2.of_block fun k hk => Below.heap_setCell _ _ _ _ (hne3 k hk)
  · intro a
    rw [getD_setB hxl]
    by_cases e : a = x
    · subst e; simp
    · rw [if_neg e, h.tells a]; simp [e]
  · intro a ha
    simp only [List.mem_append, List.mem_singleton] at ha
    rcases ha with ha | rfl
    · exact h.eLt a ha
    · exact hx
  · intro k hk hl
    rw [keepv k (Nat.lt_of_lt_of_le hl hgr.size) (fun e => by have := (h.ends.lt k e).1; omega) (by omega)]
    exact hgr.block k (by omega) hl
  · have h1 := hgr.size
    have h2 := hgrow.size
    simp at h2 ⊢
    omega
end

set_option maxRecDepth 100000 in
set_option maxHeartbeats 4000000 in
theorem web_any (w : World) (size : Int) (hsz : fits size) (ve vd : Value) (xs : List (Int × Int)) (zs : List Int) (he : RdS w 2 ve xs.length (rcells xs)) (hd : RdS w 1 vd zs.length (zs.map (Value.int .i64)))
    (hx : ∀ x ∈ xs, fits x.1 ∧ fits x.2) (hz : ∀ z ∈ zs, fits z) (hxl : xs.length ≤ 17592186044000) (hzl : zs.length ≤ 17592186044000) (n : Nat) (hn : n = 1 + pickN size 39) :
    Calls Try.prog 9 #[.int .i64 size, ve, vd] w fun e w' => ∃ b p m q ve' vd', e = .returned (.pointer (some ⟨b, 0, none⟩)) ∧ WebIn w' b w.heap.size p m q n (webL n xs) (webD n zs) (webDe n zs) ve' vd' ∧ Below w.heap.size w w' := by
  have hp39 := pickN_lt size (show 0 < 39 by decide)
  have hn40 : n ≤ 40 := by omega
  have hn1 : 1 ≤ n := by omega
  have HE : Hid (RdS w 2 ve xs.length (rcells xs)) := he
  have HD : Hid (RdS w 1 vd zs.length (zs.map (Value.int .i64))) := hd
  have HX : Hid (∀ x ∈ xs, fits x.1 ∧ fits x.2) := hx
  have HZ : Hid (∀ z ∈ zs, fits z) := hz
  have HN : Hid (((n : Nat) : Int) = 1 + (pickN size 39 : Int)) := by show _ = _; omega
  obtain ⟨-, aoE, cpE, rfl, -⟩ := he
  obtain ⟨-, aoD, cpD, rfl, -⟩ := hd
  clear hx hz hn
  go_enter Try.func9, Try.ntmps9
  go_wp2_with fail
  refine (pick_any size 39 _ hsz.1 hsz.2 (by decide) (by decide)).mono ?_
  rintro e w0 ⟨rfl, h0⟩
  obtain rfl := h0.symm
  go_wp2_with fail
  rw [← HN.out]
  refine (new_yes _ n hn1 hn40).mono ?_
  rintro e w1 ⟨p, m, q, rfl, hb1, hlp, hlm, hlq, hg1⟩
  simp only [World.heap_size_alloc'] at hlp hlm hlq
  have hbox : w1.heap[w.heap.size]? = some (.cells #[.pointer none, .int .i64 n, .slice none 0 0, .slice none 0 0] 33 (0, 0)) := (hb1.block _ (by simp)).trans (heap_new rfl)
  have k0 : w1.cell? ⟨w.heap.size, 0, none⟩ = some (.pointer none) := by simp [World.cell?, hbox]
  have k1 : w1.frozen? ⟨w.heap.size, 0, none⟩ = false := by simp [World.frozen?, hbox]
  have hB1 : Below w.heap.size w w1 := box_below hb1
  have hw0 : WebIn (w1.setCell ⟨w.heap.size, 0, none⟩ (.pointer (some ⟨p, 0, none⟩))) w.heap.size w.heap.size p m q n (webL n (xs.take 0)) (webD n ([] : List Int)) (webDe n []) (.slice none 0 0) (.slice none 0 0) := by
    refine ⟨by simp [World.setCell, Array.getElem?_modify, hbox], ?_, OwnS.nil _ _ _ _, OwnS.nil _ _ _ _, ?_, by simp [webDe], by omega⟩
    · exact hg1.of_block (Below.heap_setCell _ _ _ _ (by simp; omega)) (Below.heap_setCell _ _ _ _ (by simp; omega)) (Below.heap_setCell _ _ _ _ (by simp; omega))
    · intro a
      simp only [webD, webDe, List.foldl_nil, List.map_nil, List.not_mem_nil, iff_false, List.getD, List.getElem?_replicate]
      split <;> simp
  have HW0 : Hid (WebIn (w1.setCell ⟨w.heap.size, 0, none⟩ (.pointer (some ⟨p, 0, none⟩))) w.heap.size w.heap.size p m q n (webL n (xs.take 0)) (webD n ([] : List Int)) (webDe n []) (.slice none 0 0) (.slice none 0 0)) := hw0
  have HB0 : Hid (Below w.heap.size w (w1.setCell ⟨w.heap.size, 0, none⟩ (.pointer (some ⟨p, 0, none⟩)))) := hB1.setCell (by simp) _
  clear hw0 hB1 hbox hg1 hb1
  go_wp2_with fail
  go_loopg [10] xs.length (fun g i wr => ∃ (k : Nat) (ve : Value), k + g = xs.length ∧ i = .int .i64 k ∧ Hid (WebIn wr w.heap.size w.heap.size p m q n (webL n (xs.take k)) (webD n ([] : List Int)) (webDe n []) ve (.slice none 0 0)) ∧ Hid (Below w.heap.size w wr))
  case atStart => exact ⟨0, _, by omega, rfl, HW0, HB0⟩
  case round =>
    obtain ⟨k, ve, hkg, rfl, hweb, hbel⟩ := hrel
    clear HW0 HB0 k0 k1
    by_cases hlt : k < xs.length
    · obtain ⟨hl, ao, cp, hf, hr⟩ := HE.out
      simp only [Value.slice.injEq] at hf
      obtain ⟨rfl, _, rfl⟩ := hf
      rcases hr with hr | ⟨g0, off0, rfl, hr⟩
      · omega
      obtain ⟨h0, h1⟩ := rcells_get xs k hlt
      have d0 := hr _ _ h0
      have d1 := hr _ _ h1
      have hgl := World.block_lt_of_cell? w _ d0
      have c0 : wr.cell? ⟨g0, off0 + k * 2, none⟩ = some (.int .i64 xs[k].1) := by rw [hbel.out.cell hgl]; exact d0
      have c1 : wr.cell? ⟨g0, off0 + k * 2 + 1, none⟩ = some (.int .i64 xs[k].2) := by rw [Nat.add_assoc, hbel.out.cell (World.block_lt_of_cell? w _ d1)]; exact d1
      have hfit := HX.out xs[k] (List.getElem_mem _)
      have HT : Hid (webL n (xs.take (k + 1)) = put1 (webL n (xs.take k)) (pickN xs[k].1 n, pickN xs[k].2 n)) := webL_succ n xs hlt
      generalize xs[k].1 = A at c0 hfit HT
      generalize xs[k].2 = B at c1 hfit HT
      have e1 := hweb.out.c1
      have pA := pick_any A n
      have pB := pick_any B n
      have hk0 : (0 : Int) ≤ (k : Int) := by omega
      have hk1 : (k : Int) < (xs.length : Int) := by omega
      have ha := pickN_lt A (show 0 < n by omega)
      have hb := pickN_lt B (show 0 < n by omega)
      clear d0 d1 h0 h1 hr hl
      obtain ⟨⟨fA1, fA2⟩, ⟨fB1, fB2⟩⟩ := hfit
      generalize pickN A n = a at pA ha HT
      generalize pickN B n = b at pB hb HT
      go_wp2_with fail
      go_quiet ((go_at_call 17; exact Calls.quiet_of_same (pA _ fA1 fA2 (by omega) (by omega))))
      go_wp2_with fail
      go_quiet ((go_at_call 17; exact (pB _ fB1 fB2 (by omega) (by omega)).mono (fun e w' h => ⟨h.1, _, h.2⟩)))
      go_wp2_with fail
      generalize hwq : wr.drewN _ = wq
      have hwebq : Hid (WebIn wq w.heap.size w.heap.size p m q n (webL n (xs.take k)) (webD n ([] : List Int)) (webDe n []) ve (.slice none 0 0)) := by rw [← hwq]; exact hweb.out.kept (fun _ _ _ => rfl)
      have hbelq : Hid (Below w.heap.size w wq) := by rw [← hwq]; exact hbel.out.trans ⟨rfl, rfl, rfl, Nat.le_refl _, fun _ _ => rfl⟩
      clear hwq hweb hbel c0 c1 pA pB e1
      generalize webL n (xs.take k) = Lk at hwebq HT
      have hc2 := hwebq.out.c2
      have h40 := hwebq.out.len40
      refine (webHas_any wq w.heap.size Lk ve hc2 hwebq.out.edges.rd (by omega) a b).mono ?_
      rintro e w0 ⟨rfl, h0⟩
      obtain rfl := h0.symm
      by_cases hm : (a, b) ∈ Lk
      · have hdec : decide ((a, b) ∈ Lk) = true := by simp [hm]
        rw [hdec]
        have hput : Hid (webL n (xs.take (k + 1)) = Lk) := by show _ = _; rw [HT.out, put1, if_pos hm]
        clear hdec hc2
        go_wp2_with fail
        refine (gAdd_twice wq p m q n Lk _ hwebq.out.graph a b ha hb hm).mono ?_
        rintro e w2 ⟨rfl, hb2⟩
        go_wp2_with fail
        go_roundg (xs.length - (k + 1))
        case measure => omega
        case rel => exact ⟨k + 1, ve, by omega, by go_num, by rw [hput.out]; exact hwebq.out.below hb2, hbelq.out.trans (hb2.mono hbelq.out.size)⟩
      · have hdec : decide ((a, b) ∈ Lk) = false := by simp [hm]
        rw [hdec]
        have hput : Hid (webL n (xs.take (k + 1)) = Lk ++ [(a, b)]) := by show _ = _; rw [HT.out, put1, if_neg hm]
        clear hdec hc2
        go_wp2_with fail
        refine (gAdd_ok wq p m q n Lk _ hwebq.out.graph a b ha hb hm).mono ?_
        rintro e w2 ⟨rfl, hg2, hgr2⟩
        obtain ⟨hb2, hve2, hvd2⟩ := hwebq.out.mid hg2 hgr2
        have hhd := hb2.trans hwebq.out.head
        have k2 : w2.cell? ⟨w.heap.size, 2, none⟩ = some ve := by simp [World.cell?, hhd]
        obtain ⟨aoV, cpV, rfl⟩ := hve2.len
        have hlt2 : w.heap.size < w2.heap.size := blk_lt hhd
        have HV : Hid (OwnS w2 w.heap.size 42 2 (.slice aoV Lk.length cpV) Lk.length (pcells Lk)) := hve2
        have HG : Hid (GraphIn w2 p m q n (Lk ++ [(a, b)]) (webD n ([] : List Int)) ∧ Grew wq w2 (fun k => k = m)) := ⟨hg2, hgr2⟩
        have HK : Hid (∀ w3 : World, (w2.alloc (.cells #[.int .i64 (a : Int), .int .i64 (b : Int)] 42)).grownBy w3 (Value.slice aoV Lk.length cpV).ownBlock → w3.cell? ⟨w.heap.size, 2, none⟩ = some (.slice aoV Lk.length cpV) ∧ w3.frozen? ⟨w.heap.size, 2, none⟩ = false) := by
          intro w3 hgrow
          have hn4 := hwebq.out.ne.2.2.2.1
          have e3 : w3.heap[w.heap.size]? = w2.heap[w.heap.size]? := (hgrow.block _ (by simp; omega) (fun e => (hn4 _ e.symm).1 rfl)).trans (Below.heap_alloc _ _ _ hlt2)
          have e4 := e3.trans hhd
          exact ⟨by simp [World.cell?, e4], by simp [World.frozen?, e4]⟩
        obtain ⟨i0, hi, hz0, hz1, hz2⟩ := info_parts infoPair
        clear hg2 hgr2 hb2 hve2 hvd2 hhd
        go_wp2_with (first | (at_builtin; refine wpList_append_ownS _ rfl _ _ 25 rfl w.heap.size 42 i0 _ 2 16 Try.underlying25 hi hz0 hz1 hz2 rfl (by decide) _ _ _ rfl (HV.out.alloc _) ⟨w2.heap.size, 0, none⟩ 1 1 [.int .i64 (a : Int), .int .i64 (b : Int)] rfl rfl (cell_new2 _ _ _ _ _ rfl) (two_one a b) (by decide) (by unfold maxLen; omega) (by omega) (by simp; omega) ?_; intro g' off' cap' w3 hown3 hgrow3 hloc3 hlt3; obtain ⟨k3, k4⟩ := HK.out w3 hgrow3))
        have hfin := hwebq.out.noted HG.out.1 HG.out.2 hown3 hgrow3
        obtain ⟨f1, f2, f3, f4, f5, f6⟩ := hfin
        go_wp2_with fail
        go_roundg (xs.length - (k + 1))
        case measure => omega
        case rel => exact ⟨k + 1, _, by omega, by go_num, by rw [hput.out]; exact f1, hbelq.out.trans ⟨f4, f5, f6, f3, fun k hk => f2 k hk (Nat.lt_of_lt_of_le hk hbelq.out.size)⟩⟩
    · have hkx : k = xs.length := by omega
      have HW1 : Hid (WebIn wr w.heap.size w.heap.size p m q n (webL n xs) (webD n (zs.take 0)) (webDe n (zs.take 0)) ve (.slice none 0 0)) := by
        have := hweb.out
        rw [List.take_of_length_le (by omega)] at this
        exact this
      clear hweb hkx hkg
      go_wp2_with fail
      go_loopg [15] zs.length (fun g i wr => ∃ (k : Nat) (vd : Value), k + g = zs.length ∧ i = .int .i64 k ∧ Hid (WebIn wr w.heap.size w.heap.size p m q n (webL n xs) (webD n (zs.take k)) (webDe n (zs.take k)) ve vd) ∧ Hid (Below w.heap.size w wr))
      case atStart => exact ⟨0, _, by omega, rfl, HW1, hbel⟩
      case round =>
        obtain ⟨k, vd, hkg, rfl, hweb, hbel⟩ := hrel
        clear HW1
        by_cases hlt : k < zs.length
        · obtain ⟨hl, ao, cp, hf, hr⟩ := HD.out
          simp only [Value.slice.injEq] at hf
          obtain ⟨rfl, _, rfl⟩ := hf
          rcases hr with hr | ⟨g0, off0, rfl, hr⟩
          · omega
          have d0 := hr k (.int .i64 zs[k]) (by simp [hlt])
          have c0 : wr.cell? ⟨g0, off0 + k, none⟩ = some (.int .i64 zs[k]) := by rw [hbel.out.cell (World.block_lt_of_cell? w _ d0)]; exact d0
          have hfit := HZ.out zs[k] (List.getElem_mem _)
          have HT : Hid (webD n (zs.take (k + 1)) = (webD n (zs.take k)).set (pickN zs[k] n) true ∧ webDe n (zs.take (k + 1)) = webDe n (zs.take k) ++ [pickN zs[k] n]) := ⟨webD_succ n zs hlt, webDe_succ n zs hlt⟩
          generalize zs[k] = A at c0 hfit HT
          have e1 := hweb.out.c1
          have pA := pick_any A n
          have hk0 : (0 : Int) ≤ (k : Int) := by omega
          have hk1 : (k : Int) < (zs.length : Int) := by omega
          have ha := pickN_lt A (show 0 < n by omega)
          obtain ⟨fA1, fA2⟩ := hfit
          generalize pickN A n = a at pA ha HT
          have hdl : Hid ((webDe n (zs.take k)).length ≤ 17592186044000) := by show _ ≤ _; simp [webDe]; omega
          clear d0 hr hl
          go_wp2_with fail
          go_quiet ((go_at_call 17; exact Calls.quiet_of_same (pA _ fA1 fA2 (by omega) (by omega))))
          go_wp2_with fail
          generalize hwq : wr.drewN _ = wq
          have hwebq : Hid (WebIn wq w.heap.size w.heap.size p m q n (webL n xs) (webD n (zs.take k)) (webDe n (zs.take k)) ve vd) := by rw [← hwq]; exact hweb.out.kept (fun _ _ _ => rfl)
          have hbelq : Hid (Below w.heap.size w wq) := by rw [← hwq]; exact hbel.out.trans ⟨rfl, rfl, rfl, Nat.le_refl _, fun _ _ => rfl⟩
          clear hwq hweb hbel c0 pA e1
          generalize webD n (zs.take k) = Dk at hwebq HT
          generalize webDe n (zs.take k) = Dek at hwebq HT hdl
          refine (gEnd_ok wq p m q n _ Dk hwebq.out.graph a true ha).mono ?_
          rintro e w2 ⟨rfl, hg2, hgr2⟩
          obtain ⟨hb2, hve2, hvd2⟩ := hwebq.out.midD hg2 hgr2
          have hhd := hb2.trans hwebq.out.head
          have k2 : w2.cell? ⟨w.heap.size, 3, none⟩ = some vd := by simp [World.cell?, hhd]
          obtain ⟨aoV, cpV, rfl⟩ := hvd2.len
          have hlt2 : w.heap.size < w2.heap.size := blk_lt hhd
          have HV : Hid (OwnS w2 w.heap.size 3 1 (.slice aoV Dek.length cpV) Dek.length (nums Dek)) := hvd2
          have HG : Hid (GraphIn w2 p m q n (webL n xs) (Dk.set a true) ∧ Grew wq w2 (fun k => k = q)) := ⟨hg2, hgr2⟩
          have HK : Hid (∀ w3 : World, (w2.alloc (.cells #[.int .i64 (a : Int)] 3)).grownBy w3 (Value.slice aoV Dek.length cpV).ownBlock → w3.cell? ⟨w.heap.size, 3, none⟩ = some (.slice aoV Dek.length cpV) ∧ w3.frozen? ⟨w.heap.size, 3, none⟩ = false) := by
            intro w3 hgrow
            have hn5 := hwebq.out.ne.2.2.2.2.1
            have e3 : w3.heap[w.heap.size]? = w2.heap[w.heap.size]? := (hgrow.block _ (by simp; omega) (fun e => (hn5 _ e.symm).1 rfl)).trans (Below.heap_alloc _ _ _ hlt2)
            have e4 := e3.trans hhd
            exact ⟨by simp [World.cell?, e4], by simp [World.frozen?, e4]⟩
          obtain ⟨i0, hi, hz0, hz1, hz2⟩ := info_parts infoInt
          clear hg2 hgr2 hb2 hve2 hvd2 hhd
          go_wp2_with (first | (at_builtin; refine wpList_append_ownS _ rfl _ _ 26 rfl w.heap.size 3 i0 (.int .i64 0) 1 8 Try.underlying26 hi hz0 hz1 hz2 rfl (by decide) _ _ _ rfl (HV.out.alloc _) ⟨w2.heap.size, 0, none⟩ 1 1 [.int .i64 (a : Int)] rfl rfl (cell_new1 _ _ _) (fun u hu => nums_one u a hu) (by decide) (by have := hdl.out; unfold maxLen; omega) (by have := hdl.out; omega) (by simp; omega) ?_; intro g' off' cap' w3 hown3 hgrow3 hloc3 hlt3; obtain ⟨k3, k4⟩ := HK.out w3 hgrow3))
          have hfin := hwebq.out.ended ha HG.out.1 HG.out.2 hown3 hgrow3
          obtain ⟨f1, f2, f3, f4, f5, f6⟩ := hfin
          go_wp2_with fail
          go_roundg (zs.length - (k + 1))
          case measure => omega
          case rel => exact ⟨k + 1, _, by omega, by go_num, by rw [HT.out.1, HT.out.2]; exact f1, hbelq.out.trans ⟨f4, f5, f6, f3, fun k hk => f2 k hk (Nat.lt_of_lt_of_le hk hbelq.out.size)⟩⟩
        · have hfin : Hid (WebIn wr w.heap.size w.heap.size p m q n (webL n xs) (webD n zs) (webDe n zs) ve vd) := by
            have := hweb.out
            rw [List.take_of_length_le (by omega)] at this
            exact this
          clear hweb
          go_wp2_with fail
          go_ret
          exact ⟨_, p, m, q, ve, vd, rfl, hfin.out, hbel.out⟩

end Go.Proofs.Ytbddcodljmglfaa
