/- append, with where the new slice lies: in its place, or in a new block with all else as it was. -/
import Derived.Test.YtbddcodljmglfaaPlaySmall
set_option linter.unusedSimpArgs false
set_option linter.unusedVariables false
namespace Go.Proofs.Ytbddcodljmglfaa
open Go.RowKit

section
variable {P : Program} (w : World)

theorem run_append_own2 (base : Nat) (t ty e : TypeId) (i : TypeInfo) (z : Value) (size bytes : Nat) (ht : P.underlying t = some (.slice e)) (hi : P.info? e = some i) (hz : i.zero = some z)
    (hsize : i.size = size) (hby : i.bytes = bytes) (hzs : z.cells.size = size) (hsz : 0 < size)
    (v : Value) (n : Nat) (xs : List Value) (hown : OwnS w base e size v n xs)
    (a : Addr) (m c : Nat) (news : List Value) (hl : news.length = m * size) (hnews : ∀ j u, news[j]? = some u → w.cell? (a.add j) = some u) (h1 : ∀ u ∈ news, u.oneCell' = true) (hm : 0 < m)
    (h63 : n + m ≤ maxLen) (hbytes : (n + m) * bytes ≤ 140737488355328) (hbase : base ≤ w.heap.size) :
    ∃ g off cap w', (Builtin.append_ #[t, t] ty #[v, .slice (some a) m c]).run P w = .ok (.slice (some ⟨g, off, none⟩) (n + m) cap) w' ∧ OwnS w' base e size (.slice (some ⟨g, off, none⟩) (n + m) cap) (n + m) (xs ++ news) ∧ w.grownBy w' v.ownBlock ∧
      ((∃ cap0, v = .slice (some ⟨g, off, none⟩) n cap0) ∨ (g = w.heap.size ∧ ∀ k, k < w.heap.size → w'.heap[k]? = w.heap[k]?)) ∧ g < w'.heap.size := by
  subst hsize
  subst hby
  have hsmall : n + m ≤ 9223372036854775807 := by simp only [maxLen] at h63; omega
  have hlen : (xs ++ news).length = (n + m) * i.size := by rw [List.length_append, hown.1, hl, Nat.add_mul]
  have grown : ∀ (old : Nat), old < n + m → ∀ (row : Option Nat),
      OwnS (w.drew.alloc (.cells (xs.toArray ++ news.toArray ++ Builtin.zeroCells z.cells (grownCap w (n + m) old e - (n + m))) e)) base e i.size
        (.slice (some ⟨w.heap.size, 0, none⟩) (n + m) (grownCap w (n + m) old e)) (n + m) (xs ++ news) ∧
      w.grownBy (w.drew.alloc (.cells (xs.toArray ++ news.toArray ++ Builtin.zeroCells z.cells (grownCap w (n + m) old e - (n + m))) e)) row := by
    intro old ho row
    have hge := grownCap_ge w (n + m) old e
    have hcm : grownCap w (n + m) old e ≤ maxLen := grownCap_le_maxLen w (n + m) old e h63
    refine ⟨⟨hlen, .inr ⟨w.heap.size, 0, _, _, rfl, hbase, heap_alloc_new w.drew _, hge, hcm, ?_, ?_⟩⟩, ⟨rfl, rfl, rfl, by simp, fun k hk _ => Below.heap_alloc w.drew _ k hk⟩⟩
    · simp only [Array.size_append, List.size_toArray, size_zeroCells, hzs, hown.1, hl, ← Nat.add_mul, Nat.zero_add]
      apply Nat.mul_le_mul_right
      omega
    · intro j u hj
      have hlt : j < (xs ++ news).length := (List.getElem?_eq_some_iff.1 hj).1
      rw [Nat.zero_add, Array.getElem?_append_left (by simpa using hlt)]
      rw [← hj]
      simp
  rcases hown.2 with ⟨rfl, rfl⟩ | ⟨g, off, cap, cur, rfl, hbg, hg, hnc, hcm, hcs, htake⟩
  · have hx : xs = [] := List.eq_nil_of_length_eq_zero (by simpa using hown.1)
    subst hx
    have hr := run_append_nil (P := P) w t ty e i z ht hi hz a m c news hl hnews (by omega) (by omega) (by have hb := hbytes; simp only [Nat.zero_add] at hb; omega)
    have hgr := grown 0 (by omega) (Value.ownBlock (.slice none 0 0))
    simp only [Nat.zero_add, List.nil_append, Array.empty_append] at hgr ⊢
    exact ⟨_, _, _, _, hr, hgr.1, hgr.2, .inr ⟨rfl, fun k hk => Below.heap_alloc w.drew _ k hk⟩, by simp⟩
  · by_cases hroom : n + m ≤ cap
    · have hmul : n * i.size + news.length ≤ cap * i.size := by rw [hl, ← Nat.add_mul]; exact Nat.mul_le_mul_right _ hroom
      have hfit : off + n * i.size + news.length ≤ cur.size := by omega
      have hf := run_firstCells_some (P := P) w i.size m a m c news hl hnews
      have hst := run_storeCells_at P g (off + n * i.size) e news 0 cur w hg (by simpa using hfit) h1
      simp only [Nat.add_zero] at hst
      have hxl := hown.1
      refine ⟨g, off, cap, _, by simp [Builtin.append_, run_underlying ht, sizeOf, typeInfo, hi, Builtin.lenOf, hroom, hf, Addr.add_lit, hst]; rfl, ⟨hlen, .inr ⟨g, off, cap, _, rfl, hbg, setRow_heap w g cur _ e _ hg, hroom, hcm, ?_, ?_⟩⟩,
        ⟨rfl, rfl, rfl, by simp, fun k _ hk => setRow_other w g k _ (fun e => hk (by simp [Value.ownBlock, e]))⟩, .inl ⟨cap, rfl⟩, ?_⟩
      · simp only [List.size_toArray, List.length_append, List.length_take, List.length_drop, Array.length_toList]
        omega
      · intro j u hj
        rw [List.getElem?_toArray]
        by_cases hjx : j < xs.length
        · rw [List.getElem?_append_left hjx] at hj
          rw [List.getElem?_append_left (by simp; omega), List.getElem?_take_of_lt (by omega)]
          simpa using htake j u hj
        · rw [List.getElem?_append_right (by omega)] at hj
          have hjn : j - xs.length < news.length := (List.getElem?_eq_some_iff.1 hj).1
          have e1 : (cur.toList.take (off + n * i.size)).length = off + n * i.size := by simp; omega
          rw [List.getElem?_append_right (by rw [e1]; omega), e1, List.getElem?_append_left (by omega)]
          rw [← hj]
          congr 1
          omega
      · simp [World.setRow]
        exact blk_lt hg
    · have holds : ∀ j u, xs[j]? = some u → w.cell? ((⟨g, off, none⟩ : Addr).add j) = some u := by
        intro j u hj
        rw [Addr.add_lit]
        simp [World.cell?, hg, htake j u hj]
      have hr := run_append_grow (P := P) w t ty e i z ht hi hz ⟨g, off, none⟩ n cap xs hown.1 holds a m c news hl hnews (by omega) (by omega) (growslice_fits (by omega) hbytes)
      have hgr := grown cap (by omega) (Value.ownBlock (.slice (some ⟨g, off, none⟩) n cap))
      exact ⟨_, _, _, _, hr, hgr.1, hgr.2, .inr ⟨rfl, fun k hk => Below.heap_alloc w.drew _ k hk⟩, by simp⟩

theorem wpList_append_own2 {ops : Array Oper} {rest : List Oper} {o : Oper} {a : Act} {Q : Exit → Act → World → Prop} (hgd : o.guard = none) (s x : Operand) (t : TypeId)
    (ho : o.op = .call { callee := .builtin .append, args := #[s, x], argTypes := #[t, t] })
    (base : Nat) (e : TypeId) (i : TypeInfo) (z : Value) (size bytes : Nat) (ht : P.underlying t = some (.slice e)) (hi : P.info? e = some i) (hz : i.zero = some z)
    (hsize : i.size = size) (hby : i.bytes = bytes) (hzs : z.cells.size = size) (hsz : 0 < size)
    (v : Value) (n : Nat) (xs : List Value) (hs : a.eval s = v) (hown : OwnS w base e size v n xs)
    (ad : Addr) (m c : Nat) (news : List Value) (hx : a.eval x = .slice (some ad) m c) (hl : news.length = m * size) (hnews : ∀ j u, news[j]? = some u → w.cell? (ad.add j) = some u) (h1 : ∀ u ∈ news, u.oneCell' = true) (hm : 0 < m)
    (h63 : n + m ≤ maxLen) (hbytes : (n + m) * bytes ≤ 140737488355328) (hbase : base ≤ w.heap.size)
    (h : ∀ g off cap w', OwnS w' base e size (.slice (some ⟨g, off, none⟩) (n + m) cap) (n + m) (xs ++ news) → w.grownBy w' v.ownBlock → ((∃ cap0, v = .slice (some ⟨g, off, none⟩) n cap0) ∨ (g = w.heap.size ∧ ∀ k, k < w.heap.size → w'.heap[k]? = w.heap[k]?)) → g < w'.heap.size → wpList P ops Q rest (a.put o.dst (.slice (some ⟨g, off, none⟩) (n + m) cap)) w') : wpList P ops Q (o :: rest) a w := by
  refine wpList_plain hgd fun _ hK => ?_
  obtain ⟨g, off, cap, w', hr, h2, h3, h4, h5⟩ := run_append_own2 (P := P) w base t o.type e i z size bytes ht hi hz hsize hby hzs hsz v n xs hown ad m c news hl hnews h1 hm h63 hbytes hbase
  unfold Oper.wp execOp
  simp only [ho, resolve, invoke, builtin, Sem.run_bind, Sem.run_pure, Result.andThen_ok, List.map_toArray, List.map_cons, List.map_nil, hs, hx, hr]
  exact hK _ _ (h g off cap w' h2 h3 h4 h5)
end

section
variable {w0 wx w3 : World} {κ : Nat → Role} {bw : Nat} {vg vr vh : Value} {G : List GSt} {N : Nat} {H : List HSt}

/-- One more list is held. -/
theorem PlIn.pushH (h : PlIn w0 wx κ bw vg vr vh G N H) {o : Obj} {g' off' cap' : Nat} (e : HSt) (hown : OwnS w3 w0.heap.size 86 2 (.slice (some ⟨g', off', none⟩) (H.length + 1) cap') (H.length + 1) (hcells H ++ [e.v, .int .i64 e.mark])) (hgrow : (wx.alloc o).grownBy w3 vh.ownBlock) (hloc : (∃ cap0, vh = .slice (some ⟨g', off', none⟩) H.length cap0) ∨ (g' = (wx.alloc o).heap.size ∧ ∀ k, k < (wx.alloc o).heap.size → w3.heap[k]? = (wx.alloc o).heap[k]?)) (hlt : g' < w3.heap.size)
    (he : RdS wx 1 e.v e.len (marks e.len e.mark) ∧ e.len ≤ 10000000 ∧ ∀ k, e.v.ownBlock = some k → κ k = .held ∧ k < wx.heap.size) :
    PlIn w0 (w3.setCell ⟨bw, 3, none⟩ (.slice (some ⟨g', off', none⟩) (H.length + 1) cap')) (fun k => if k = g' then .hs else κ k) bw vg vr (.slice (some ⟨g', off', none⟩) (H.length + 1) cap') G N (H ++ [e]) := by
  have hsz : wx.heap.size ≤ w3.heap.size := by have := hgrow.size; simp at this; omega
  have hg' : ∀ k, k < wx.heap.size → κ k ≠ .hs → k ≠ g' := by
    intro k hk hne e
    subst e
    rcases hloc with ⟨c, hc⟩ | ⟨hc, _⟩
    · exact hne (h.khs k (by rw [hc]; rfl))
    · simp at hc; omega
  have hk3 : ∀ k, k < wx.heap.size → κ k ≠ .hs → w3.heap[k]? = wx.heap[k]? := by
    intro k hk hne
    rw [hgrow.block k (by simp; omega) (fun e => hne (h.khs k e.symm))]
    exact Below.heap_alloc _ _ _ hk
  have hk : ∀ k, k < wx.heap.size → κ k ≠ .hs → k ≠ bw → (w3.setCell ⟨bw, 3, none⟩ (.slice (some ⟨g', off', none⟩) (H.length + 1) cap')).heap[k]? = wx.heap[k]? := fun k hl hne hb => (Below.heap_setCell _ _ _ _ hb).trans (hk3 k hl hne)
  have hbw := h.khead
  have hgb : g' ≠ bw := fun e => hg' bw h.bwLt (by rw [hbw.1]; simp) e.symm
  have nb : ∀ k, κ k ≠ .head → k ≠ bw := fun k hne e => hne (by rw [e]; exact hbw.1)
  refine ⟨?_, h.gs.of_block fun k hk' => ?_, h.rs.of_block fun k hk' => ?_, ?_, fun i x hx => ?_, fun i x hx => ?_, fun e' he' => ?_, ⟨?_, hbw.2⟩, fun k hk' => ?_, fun k hk' => ?_, fun k hk' => ?_, fun k hl => ?_, ?_⟩
  · simp [World.setCell, Array.getElem?_modify, hk3 bw h.bwLt (by rw [hbw.1]; simp), h.head]
  · have := h.kgs k hk'
    exact hk k (h.gs.lt k hk').2 (by rw [this]; simp) (nb k (by rw [this]; simp))
  · have := h.krs k hk'
    exact hk k (h.rs.lt k hk').2 (by rw [this]; simp) (nb k (by rw [this]; simp))
  · have : OwnS w3 w0.heap.size 86 2 (.slice (some ⟨g', off', none⟩) (H.length + 1) cap') (H ++ [e]).length (hcells (H ++ [e])) := by
      rw [hcells_append]
      simpa [hcells] using hown
    refine this.of_block fun k hk' => Below.heap_setCell _ _ _ _ ?_
    have e1 : g' = k := by simpa [Value.ownBlock] using hk'
    simp
    omega
  · obtain ⟨g1, g2⟩ := h.gr i x hx
    obtain ⟨k1, k2, k3, k4⟩ := h.kgr i x hx
    have kk : ∀ k j, κ k = .mem i j → k < wx.heap.size → (w3.setCell ⟨bw, 3, none⟩ (.slice (some ⟨g', off', none⟩) (H.length + 1) cap')).heap[k]? = wx.heap[k]? := fun k j e hl => hk k hl (by rw [e]; simp) (nb k (by rw [e]; simp))
    exact ⟨g1.of_block (kk _ _ k1.1 g1.pLt) (kk _ _ k2.1 g1.mLt) (kk _ _ k3.1 g1.qLt), g2.of_block (kk _ _ k4.1 g2.gLt)⟩
  · obtain ⟨g1, g2⟩ := h.gr i x hx
    obtain ⟨k1, k2, k3, k4⟩ := h.kgr i x hx
    have kk : ∀ k j, κ k = .mem i j → k < wx.heap.size → (if k = g' then Role.hs else κ k) = .mem i j := fun k j e hl => by rw [if_neg (hg' k hl (by rw [e]; simp))]; exact e
    exact ⟨⟨kk _ _ k1.1 g1.pLt, k1.2⟩, ⟨kk _ _ k2.1 g1.mLt, k2.2⟩, ⟨kk _ _ k3.1 g1.qLt, k3.2⟩, ⟨kk _ _ k4.1 g2.gLt, k4.2⟩⟩
  · have hall : RdS wx 1 e'.v e'.len (marks e'.len e'.mark) ∧ e'.len ≤ 10000000 ∧ ∀ k, e'.v.ownBlock = some k → κ k = .held ∧ k < wx.heap.size := by
      rcases List.mem_append.1 he' with hm | hm
      · exact h.lists e' hm
      · rw [List.mem_singleton.1 hm]; exact he
    obtain ⟨r1, r2, r3⟩ := hall
    refine ⟨r1.of_block fun k hk' => hk k (r3 k hk').2 (by rw [(r3 k hk').1]; simp) (nb k (by rw [(r3 k hk').1]; simp)), r2, fun k hk' => ⟨?_, ?_⟩⟩
    · show (if k = g' then Role.hs else κ k) = .held
      rw [if_neg (hg' k (r3 k hk').2 (by rw [(r3 k hk').1]; simp))]
      exact (r3 k hk').1
    · have := (r3 k hk').2
      simp [World.setCell]
      omega
  · show (if bw = g' then Role.hs else κ bw) = .head
    rw [if_neg (fun e => hgb e.symm)]
    exact hbw.1
  · show (if k = g' then Role.hs else κ k) = .gs
    have := h.kgs k hk'
    rw [if_neg (hg' k (h.gs.lt k hk').2 (by rw [this]; simp))]
    exact this
  · show (if k = g' then Role.hs else κ k) = .rs
    have := h.krs k hk'
    rw [if_neg (hg' k (h.rs.lt k hk').2 (by rw [this]; simp))]
    exact this
  · have e1 : g' = k := by simpa [Value.ownBlock] using hk'
    show (if k = g' then Role.hs else κ k) = .hs
    rw [if_pos e1.symm]
  · have hl' : w3.heap.size ≤ k := by simpa [World.setCell] using hl
    show (if k = g' then Role.hs else κ k) = .other
    rw [if_neg (by omega)]
    exact h.fresh k (by omega)
  · have hb1 : Below w0.heap.size w0 w3 := (h.bel.alloc h.bel.size o).grown hgrow (by have := h.bel.size; simp; omega) (fun j hj => (h.hs.lt j hj).1)
    exact hb1.setCell (by simp; exact hbw.2) _
end

end Go.Proofs.Ytbddcodljmglfaa
