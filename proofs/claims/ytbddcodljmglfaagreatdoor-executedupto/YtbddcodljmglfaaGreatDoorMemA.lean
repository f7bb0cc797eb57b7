/- Slices in memory: one that the call owns from whatever place of its row on (OwnS), and what append does to it; one that is only read (RdS). And what follows on it. -/
import Derived.Test.YtbddcodljmglfaaGreatDoorProg
import Derived.WalkKit
import Derived.WalkSpells
import Derived.WalkLawsBesides
import Derived.Test.YtbddcodljmglfaaGreatDoorMathA
import Derived.WalkMore
import Derived.Handy
import Derived.Deep.LoopGhost
import Derived.Laws.StructEq
import Derived.Deep.QuietTactic
import Derived.BigQuiet
import Derived.Deep.RegionHeld3
set_option linter.unusedSimpArgs false
set_option linter.unusedVariables false
namespace Go.Proofs.YtbddcodljmglfaaGreatDoor
open Go.RowKit

/-- The slice value v, of n elements of 'size' cells each, owns the cells xs: nil and nothing, or a stretch of a row that is not frozen, in a block from 'base' on. -/
def OwnS (w : World) (base : Nat) (e : TypeId) (size : Nat) (v : Value) (n : Nat) (xs : List Value) : Prop :=
  xs.length = n * size ∧
  ((v = .slice none 0 0 ∧ n = 0) ∨
   ∃ g off cap cur, v = .slice (some ⟨g, off, none⟩) n cap ∧ base ≤ g ∧ w.heap[g]? = some (.cells cur e (0, 0)) ∧ n ≤ cap ∧ cap ≤ maxLen ∧ off + cap * size ≤ cur.size ∧
     ∀ j u, xs[j]? = some u → cur[off + j]? = some u)

theorem OwnS.nil (w : World) (base : Nat) (e : TypeId) (size : Nat) : OwnS w base e size (.slice none 0 0) 0 [] := ⟨by simp, .inl ⟨rfl, rfl⟩⟩

theorem blk_lt {w : World} {m : Nat} {o : Obj} (h : w.heap[m]? = some o) : m < w.heap.size := by
  rcases Nat.lt_or_ge m w.heap.size with h' | h'
  · exact h'
  · simp [Array.getElem?_eq_none h'] at h

section
variable {w w' : World} {base : Nat} {e : TypeId} {size : Nat} {v : Value} {n : Nat} {xs : List Value}

theorem OwnS.of_block (h : OwnS w base e size v n xs) (hb : ∀ k, v.ownBlock = some k → w'.heap[k]? = w.heap[k]?) : OwnS w' base e size v n xs := by
  refine ⟨h.1, ?_⟩
  rcases h.2 with h2 | ⟨g, off, cap, cur, rfl, h1, hg, r⟩
  · exact .inl h2
  · exact .inr ⟨g, off, cap, cur, rfl, h1, (hb g rfl).trans hg, r⟩

theorem OwnS.lt (h : OwnS w base e size v n xs) : ∀ k, v.ownBlock = some k → base ≤ k ∧ k < w.heap.size := by
  intro k hk
  rcases h.2 with ⟨rfl, _⟩ | ⟨g, off, cap, cur, rfl, h1, hg, r⟩
  · simp [Value.ownBlock] at hk
  · simp [Value.ownBlock] at hk
    subst hk
    exact ⟨h1, blk_lt hg⟩

theorem OwnS.alloc (h : OwnS w base e size v n xs) (o : Obj) : OwnS (w.alloc o) base e size v n xs :=
  h.of_block fun k hk => Below.heap_alloc w o k (h.lt k hk).2

theorem OwnS.mono {base' : Nat} (h : OwnS w base e size v n xs) (hb : base' ≤ base) : OwnS w base' e size v n xs := by
  refine ⟨h.1, ?_⟩
  rcases h.2 with h2 | ⟨g, off, cap, cur, rfl, h1, r⟩
  · exact .inl h2
  · exact .inr ⟨g, off, cap, cur, rfl, Nat.le_trans hb h1, r⟩

theorem OwnS.len (h : OwnS w base e size v n xs) : ∃ ao cap, v = .slice ao n cap := by
  rcases h.2 with ⟨rfl, rfl⟩ | ⟨g, off, cap, cur, rfl, _⟩
  · exact ⟨_, _, rfl⟩
  · exact ⟨_, _, rfl⟩
end

section
variable {P : Program} (w : World)

theorem run_append_ownS (base : Nat) (t ty e : TypeId) (i : TypeInfo) (z : Value) (size bytes : Nat) (ht : P.underlying t = some (.slice e)) (hi : P.info? e = some i) (hz : i.zero = some z)
    (hsize : i.size = size) (hby : i.bytes = bytes) (hzs : z.cells.size = size) (hsz : 0 < size)
    (v : Value) (n : Nat) (xs : List Value) (hown : OwnS w base e size v n xs)
    (a : Addr) (m c : Nat) (news : List Value) (hl : news.length = m * size) (hnews : ∀ j u, news[j]? = some u → w.cell? (a.add j) = some u) (h1 : ∀ u ∈ news, u.oneCell' = true) (hm : 0 < m)
    (h63 : n + m ≤ maxLen) (hbytes : (n + m) * bytes ≤ 140737488355328) (hbase : base ≤ w.heap.size) :
    ∃ g off cap w', (Builtin.append_ #[t, t] ty #[v, .slice (some a) m c]).run P w = .ok (.slice (some ⟨g, off, none⟩) (n + m) cap) w' ∧ OwnS w' base e size (.slice (some ⟨g, off, none⟩) (n + m) cap) (n + m) (xs ++ news) ∧ w.grownBy w' v.ownBlock ∧
      (v.ownBlock = some g ∨ g = w.heap.size) ∧ g < w'.heap.size := by
  subst hsize
  subst hby
  have hsmall : n + m ≤ 9223372036854775807 := by simp only [maxLen] at h63; omega
  have hlen : (xs ++ news).length = (n + m) * i.size := by rw [List.length_append, hown.1, hl, Nat.add_mul]
  have grown : ∀ (old : Nat), old < n + m → ∀ (row : Option Nat),
      OwnS (w.drew.alloc (.cells (xs.toArray ++ news.toArray ++ Builtin.zeroCells z.cells (grownCap w (n + m) old e - (n + m))) e)) base e i.size
        (.slice (some ⟨w.heap.size, 0, none⟩) (n + m) (grownCap w (n + m) old e)) (n + m) (xs ++ news) ∧
      w.grownBy (w.drew.alloc (.cells (xs.toArray ++ news.toArray ++ Builtin.zeroCells z.cells (grownCap w (n + m) old e - (n + m))) e)) row := by
    intro old ho row
    have hge := grownCap_ge w (n + m) old e
    have hcm : grownCap w (n + m) old e ≤ maxLen := grownCap_le_maxLen w (n + m) old e h63
    refine ⟨⟨hlen, .inr ⟨w.heap.size, 0, _, _, rfl, hbase, heap_alloc_new w.drew _, hge, hcm, ?_, ?_⟩⟩, ⟨rfl, rfl, rfl, by simp, fun k hk _ => Below.heap_alloc w.drew _ k hk⟩⟩
    · simp only [Array.size_append, List.size_toArray, size_zeroCells, hzs, hown.1, hl, ← Nat.add_mul, Nat.zero_add]
      apply Nat.mul_le_mul_right
      omega
    · intro j u hj
      have hlt : j < (xs ++ news).length := (List.getElem?_eq_some_iff.1 hj).1
      rw [Nat.zero_add, Array.getElem?_append_left (by simpa using hlt)]
      rw [← hj]
      simp
  rcases hown.2 with ⟨rfl, rfl⟩ | ⟨g, off, cap, cur, rfl, hbg, hg, hnc, hcm, hcs, htake⟩
  · have hx : xs = [] := List.eq_nil_of_length_eq_zero (by simpa using hown.1)
    subst hx
    have hr := run_append_nil (P := P) w t ty e i z ht hi hz a m c news hl hnews (by omega) (by omega) (by have hb := hbytes; simp only [Nat.zero_add] at hb; omega)
    have hgr := grown 0 (by omega) (Value.ownBlock (.slice none 0 0))
    simp only [Nat.zero_add, List.nil_append, Array.empty_append] at hgr ⊢
    exact ⟨_, _, _, _, hr, hgr.1, hgr.2, .inr rfl, by simp⟩
  · by_cases hroom : n + m ≤ cap
    · have hmul : n * i.size + news.length ≤ cap * i.size := by rw [hl, ← Nat.add_mul]; exact Nat.mul_le_mul_right _ hroom
      have hfit : off + n * i.size + news.length ≤ cur.size := by omega
      have hf := run_firstCells_some (P := P) w i.size m a m c news hl hnews
      have hst := run_storeCells_at P g (off + n * i.size) e news 0 cur w hg (by simpa using hfit) h1
      simp only [Nat.add_zero] at hst
      have hxl := hown.1
      refine ⟨g, off, cap, _, by simp [Builtin.append_, run_underlying ht, sizeOf, typeInfo, hi, Builtin.lenOf, hroom, hf, Addr.add_lit, hst]; rfl, ⟨hlen, .inr ⟨g, off, cap, _, rfl, hbg, setRow_heap w g cur _ e _ hg, hroom, hcm, ?_, ?_⟩⟩,
        ⟨rfl, rfl, rfl, by simp, fun k _ hk => setRow_other w g k _ (fun e => hk (by simp [Value.ownBlock, e]))⟩, .inl rfl, ?_⟩
      · simp only [List.size_toArray, List.length_append, List.length_take, List.length_drop, Array.length_toList]
        omega
      · intro j u hj
        rw [List.getElem?_toArray]
        by_cases hjx : j < xs.length
        · rw [List.getElem?_append_left hjx] at hj
          rw [List.getElem?_append_left (by simp; omega), List.getElem?_take_of_lt (by omega)]
          simpa using htake j u hj
        · rw [List.getElem?_append_right (by omega)] at hj
          have hjn : j - xs.length < news.length := (List.getElem?_eq_some_iff.1 hj).1
          have e1 : (cur.toList.take (off + n * i.size)).length = off + n * i.size := by simp; omega
          rw [List.getElem?_append_right (by rw [e1]; omega), e1, List.getElem?_append_left (by omega)]
          rw [← hj]
          congr 1
          omega
      · simp [World.setRow]
        exact blk_lt hg
    · have holds : ∀ j u, xs[j]? = some u → w.cell? ((⟨g, off, none⟩ : Addr).add j) = some u := by
        intro j u hj
        rw [Addr.add_lit]
        simp [World.cell?, hg, htake j u hj]
      have hr := run_append_grow (P := P) w t ty e i z ht hi hz ⟨g, off, none⟩ n cap xs hown.1 holds a m c news hl hnews (by omega) (by omega) (growslice_fits (by omega) hbytes)
      have hgr := grown cap (by omega) (Value.ownBlock (.slice (some ⟨g, off, none⟩) n cap))
      exact ⟨_, _, _, _, hr, hgr.1, hgr.2, .inr rfl, by simp⟩

theorem wp_append_ownS {o : Oper} {a : Act} {K : Act → World → Prop} {Q : Exit → Act → World → Prop} (s x : Operand) (t : TypeId)
    (ho : o.op = .call { callee := .builtin .append, args := #[s, x], argTypes := #[t, t] })
    (base : Nat) (e : TypeId) (i : TypeInfo) (z : Value) (size bytes : Nat) (ht : P.underlying t = some (.slice e)) (hi : P.info? e = some i) (hz : i.zero = some z)
    (hsize : i.size = size) (hby : i.bytes = bytes) (hzs : z.cells.size = size) (hsz : 0 < size)
    (v : Value) (n : Nat) (xs : List Value) (hs : a.eval s = v) (hown : OwnS w base e size v n xs)
    (ad : Addr) (m c : Nat) (news : List Value) (hx : a.eval x = .slice (some ad) m c) (hl : news.length = m * size) (hnews : ∀ j u, news[j]? = some u → w.cell? (ad.add j) = some u) (h1 : ∀ u ∈ news, u.oneCell' = true) (hm : 0 < m)
    (h63 : n + m ≤ maxLen) (hbytes : (n + m) * bytes ≤ 140737488355328) (hbase : base ≤ w.heap.size)
    (h : ∀ g off cap w', OwnS w' base e size (.slice (some ⟨g, off, none⟩) (n + m) cap) (n + m) (xs ++ news) → w.grownBy w' v.ownBlock → (v.ownBlock = some g ∨ g = w.heap.size) → g < w'.heap.size → K (a.put o.dst (.slice (some ⟨g, off, none⟩) (n + m) cap)) w') : o.wp P a w K Q := by
  obtain ⟨g, off, cap, w', hr, h2, h3, h4, h5⟩ := run_append_ownS (P := P) w base t o.type e i z size bytes ht hi hz hsize hby hzs hsz v n xs hown ad m c news hl hnews h1 hm h63 hbytes hbase
  unfold Oper.wp execOp
  simp only [ho, resolve, invoke, builtin, Sem.run_bind, Sem.run_pure, Result.andThen_ok, List.map_toArray, List.map_cons, List.map_nil, hs, hx, hr]
  exact h g off cap w' h2 h3 h4 h5

theorem wpList_append_ownS {ops : Array Oper} {rest : List Oper} {o : Oper} {a : Act} {Q : Exit → Act → World → Prop} (hgd : o.guard = none) (s x : Operand) (t : TypeId)
    (ho : o.op = .call { callee := .builtin .append, args := #[s, x], argTypes := #[t, t] })
    (base : Nat) (e : TypeId) (i : TypeInfo) (z : Value) (size bytes : Nat) (ht : P.underlying t = some (.slice e)) (hi : P.info? e = some i) (hz : i.zero = some z)
    (hsize : i.size = size) (hby : i.bytes = bytes) (hzs : z.cells.size = size) (hsz : 0 < size)
    (v : Value) (n : Nat) (xs : List Value) (hs : a.eval s = v) (hown : OwnS w base e size v n xs)
    (ad : Addr) (m c : Nat) (news : List Value) (hx : a.eval x = .slice (some ad) m c) (hl : news.length = m * size) (hnews : ∀ j u, news[j]? = some u → w.cell? (ad.add j) = some u) (h1 : ∀ u ∈ news, u.oneCell' = true) (hm : 0 < m)
    (h63 : n + m ≤ maxLen) (hbytes : (n + m) * bytes ≤ 140737488355328) (hbase : base ≤ w.heap.size)
    (h : ∀ g off cap w', OwnS w' base e size (.slice (some ⟨g, off, none⟩) (n + m) cap) (n + m) (xs ++ news) → w.grownBy w' v.ownBlock → (v.ownBlock = some g ∨ g = w.heap.size) → g < w'.heap.size → wpList P ops Q rest (a.put o.dst (.slice (some ⟨g, off, none⟩) (n + m) cap)) w') : wpList P ops Q (o :: rest) a w :=
  wpList_plain hgd fun _ hK => wp_append_ownS w s x t ho base e i z size bytes ht hi hz hsize hby hzs hsz v n xs hs hown ad m c news hx hl hnews h1 hm h63 hbytes hbase fun g off cap w' h2 h3 h4 h5 => hK _ _ (h g off cap w' h2 h3 h4 h5)

end

/-- The slice value v, of n elements of 'size' cells each, reads as the cells xs. -/
def RdS (w : World) (size : Nat) (v : Value) (n : Nat) (xs : List Value) : Prop :=
  xs.length = n * size ∧ ∃ ao cap, v = .slice ao n cap ∧ (n = 0 ∨ ∃ g off, ao = some ⟨g, off, none⟩ ∧ ∀ j u, xs[j]? = some u → w.cell? ⟨g, off + j, none⟩ = some u)

theorem RdS.below {w w' : World} {size : Nat} {v : Value} {n : Nat} {xs : List Value} (h : RdS w size v n xs) (hb : Below w.heap.size w w') : RdS w' size v n xs := by
  obtain ⟨hl, ao, cap, hv, h⟩ := h
  refine ⟨hl, ao, cap, hv, ?_⟩
  rcases h with h | ⟨g, off, ha, h⟩
  · exact .inl h
  · refine .inr ⟨g, off, ha, fun j u hj => ?_⟩
    have := h j u hj
    rw [hb.cell (World.block_lt_of_cell? w _ this)]
    exact this

theorem OwnS.rd {w : World} {base : Nat} {e : TypeId} {size : Nat} {v : Value} {n : Nat} {xs : List Value} (h : OwnS w base e size v n xs) : RdS w size v n xs := by
  refine ⟨h.1, ?_⟩
  rcases h.2 with ⟨rfl, rfl⟩ | ⟨g, off, cap, cur, rfl, h1, hg, _, _, _, hc⟩
  · exact ⟨_, _, rfl, .inl rfl⟩
  · refine ⟨_, _, rfl, .inr ⟨g, off, rfl, fun j u hj => ?_⟩⟩
    simp [World.cell?, hg, hc j u hj]

theorem infoInt : (Tryz.prog.info? 3).map (fun i => (i.zero, i.size, i.bytes)) = some (some (.int .i64 0), 1, 8) := by kernel_rfl
theorem infoBool : (Tryz.prog.info? 4).map (fun i => (i.zero, i.size, i.bytes)) = some (some (.bool false), 1, 1) := by kernel_rfl

/-- Numbers in memory. -/
def nums (l : List Nat) : List Value := l.map fun (a : Nat) => Value.int .i64 (a : Int)
def bits (l : List Bool) : List Value := l.map Value.bool

end Go.Proofs.YtbddcodljmglfaaGreatDoor

namespace Go.Proofs.YtbddcodljmglfaaGreatDoor
open Go.RowKit

/-- The slice value v, of n elements of 'size' cells each, reads as the cells xs, which lie in a row marked t. -/
def RdT (w : World) (t : TypeId) (size : Nat) (v : Value) (n : Nat) (xs : List Value) : Prop :=
  xs.length = n * size ∧ ∃ ao cap, v = .slice ao n cap ∧ n ≤ cap ∧ (n = 0 ∨ ∃ g off cur fr, ao = some ⟨g, off, none⟩ ∧ w.heap[g]? = some (.cells cur t fr) ∧ ∀ j u, xs[j]? = some u → cur[off + j]? = some u)

/-- What one world has in rows marked t, the other has too. -/
def Keeps (t : TypeId) (w w' : World) : Prop := ∀ (g : Nat) (cur : Array Value) (fr : Nat × Nat), w.heap[g]? = some (Obj.cells cur t fr) → w'.heap[g]? = some (Obj.cells cur t fr)
theorem Keeps.refl (t : TypeId) (w : World) : Keeps t w w := fun _ _ _ h => h
theorem Keeps.trans {t : TypeId} {a b c : World} (h1 : Keeps t a b) (h2 : Keeps t b c) : Keeps t a c := fun g cur fr h => h2 g cur fr (h1 g cur fr h)
theorem Keeps.of_below {t : TypeId} {w w' : World} (h : Below w.heap.size w w') : Keeps t w w' := fun g cur fr hg => (h.block _ (blk_lt hg)).trans hg

section
variable {w w' : World} {t : TypeId} {size : Nat} {v : Value} {n : Nat} {xs : List Value}
theorem RdT.keep (h : RdT w t size v n xs) (hk : Keeps t w w') : RdT w' t size v n xs := by
  obtain ⟨hl, ao, cap, hv, hc, h⟩ := h
  refine ⟨hl, ao, cap, hv, hc, ?_⟩
  rcases h with h | ⟨g, off, cur, fr, ha, hg, h⟩
  · exact .inl h
  · exact .inr ⟨g, off, cur, fr, ha, hk _ _ _ hg, h⟩
theorem RdT.below (h : RdT w t size v n xs) (hb : Below w.heap.size w w') : RdT w' t size v n xs := h.keep (Keeps.of_below hb)
theorem RdT.cell (h : RdT w t size v n xs) : ∃ ao cap, v = .slice ao n cap ∧ n ≤ cap ∧ (0 < n → ∃ g off, ao = some ⟨g, off, none⟩ ∧ g < w.heap.size ∧ ∀ j u, xs[j]? = some u → w.cell? ⟨g, off + j, none⟩ = some u) := by
  obtain ⟨hl, ao, cap, hv, hc, h⟩ := h
  refine ⟨ao, cap, hv, hc, fun hn => ?_⟩
  rcases h with h | ⟨g, off, cur, fr, ha, hg, h⟩
  · omega
  · exact ⟨g, off, ha, blk_lt hg, fun j u hj => by simp [World.cell?, hg, h j u hj]⟩
theorem RdT.nil (w : World) (t : TypeId) (size : Nat) : RdT w t size (.slice none 0 0) 0 [] := ⟨by simp, none, 0, rfl, Nat.le_refl _, .inl rfl⟩
theorem OwnS.rdT {base : Nat} (h : OwnS w base t size v n xs) : RdT w t size v n xs := by
  refine ⟨h.1, ?_⟩
  rcases h.2 with ⟨rfl, rfl⟩ | ⟨g, off, cap, cur, rfl, h1, hg, hc, _, _, hx⟩
  · exact ⟨_, _, rfl, Nat.le_refl _, .inl rfl⟩
  · exact ⟨_, _, rfl, hc, .inr ⟨g, off, cur, _, rfl, hg, hx⟩⟩
end

theorem heap_new {w : World} {o : Obj} {k : Nat} (h : k = w.heap.size) : (w.alloc o).heap[k]? = some o := by subst h; exact heap_alloc_new w o
theorem bcell {W w1 : World} (hb : Below W.heap.size W w1) : (∀ b o, b < W.heap.size → w1.cell? ⟨b, o, none⟩ = W.cell? ⟨b, o, none⟩) ∧ (∀ b o, b < W.heap.size → w1.frozen? ⟨b, o, none⟩ = W.frozen? ⟨b, o, none⟩) :=
  ⟨fun b o h => hb.cell (p := ⟨b, o, none⟩) h, fun b o h => hb.frozen (p := ⟨b, o, none⟩) h⟩

/-- Versions in memory. -/
def vers : List Ver → List Value
  | [] => []
  | s :: r => .string s.1 :: .int .i64 (s.2 : Int) :: vers r
theorem vers_append (l r : List Ver) : vers (l ++ r) = vers l ++ vers r := by
  induction l with
  | nil => rfl
  | cons s l ih => simp [vers, ih]
theorem vers_get {l : List Ver} {k : Nat} (h : k < l.length) : (vers l)[k * 2]? = some (.string l[k].1) ∧ (vers l)[k * 2 + 1]? = some (.int .i64 (l[k].2 : Int)) := by
  induction l generalizing k with
  | nil => simp at h
  | cons s r ih =>
    cases k with
    | zero => simp [vers]
    | succ k =>
      have := ih (k := k) (by simpa using h)
      have e : (k + 1) * 2 = k * 2 + 1 + 1 := by omega
      rw [e]
      simpa [vers] using this

theorem eqVer (s x : BA) (n m : Nat) (w : World) : (binOp .eql 111 (.agg #[.string s, .int .i64 (n : Int)]) (.agg #[.string x, .int .i64 (m : Int)])).run Tryz.prog w = .ok (.bool (verEq (s, n) (x, m))) w := by
  have u3 := Tryz.underlying3
  have u9 := Tryz.underlying9
  have hS : Tryz.prog.underlying 111 = some (.struct (Tryz.prog.fieldsOf 111)) := by kernel_rfl
  have hp : Tryz.prog.stoodInHeld 111 = false := by kernel_rfl
  rw [run_eql_struct, show (10000 : Nat) = 9999 + 1 from rfl, run_equalIn_agg w 9999 111 _ _ hS hp]
  simp only [Program.fieldsOf, Tryz.underlying111]
  go_simp
  unfold verEq
  by_cases h1 : ByteArray.toList s = ByteArray.toList x <;> by_cases h2 : (n : Int) = m <;> simp [h1, h2]
theorem guardVer (op : BinOp) (a b : Operand) (s x : BA) (n m : Nat) (w : World) : (eqGuard op 111 a b (.agg #[.string s, .int .i64 (n : Int)]) (.agg #[.string x, .int .i64 (m : Int)])).run Tryz.prog w = .ok () w :=
  run_eqGuard_agg w op 111 a b _ _ (by kernel_rfl)


set_option maxRecDepth 100000 in
set_option maxHeartbeats 2000000 in
theorem index_any (w : World) (v : Value) (l : List Ver) (s : Ver) (h : RdT w 111 2 v l.length (vers l)) (hl : l.length ≤ 1000000) :
    Calls Tryz.prog 129 #[v, .agg #[.string s.1, .int .i64 (s.2 : Int)]] w fun e w' => (∃ k : Int, e = .returned (.int .i64 k) ∧ (0 ≤ k ↔ s ∈ l)) ∧ Below w.heap.size w w' := by
  obtain ⟨ao, cap, rfl, hcap, hcell⟩ := h.cell
  obtain ⟨s, n⟩ := s
  obtain ⟨N, hN⟩ : ∃ N, N = l.length := ⟨_, rfl⟩
  have HN : Hid (N = l.length) := hN
  rw [← hN] at hcell hl hcap ⊢
  clear hN h
  go_enter Tryz.func129, Tryz.ntmps129
  go_wp2_with fail
  go_loopg [8] N (fun g i wr => ∃ k : Nat, k + g = N ∧ i = .int .i64 k ∧ Hid (Below w.heap.size w wr) ∧ wr.heap[w.heap.size]? = some (.cells #[.string s, .int .i64 (n : Int)] 111 (0, 0)) ∧ Hid (∀ j x, j < k → l[j]? = some x → (s, n) ≠ x))
  case atStart => exact ⟨0, by omega, rfl, (Below.refl _ _).alloc (Nat.le_refl _) _, heap_new rfl, fun j x hj => absurd hj (by omega)⟩
  case round =>
    obtain ⟨k, hkg, rfl, hbel, hbox, hno⟩ := hrel
    by_cases hlt : k < N
    · obtain ⟨g, off, rfl, hgl, hc⟩ := hcell (by omega)
      have hlt' : k < l.length := HN.out ▸ hlt
      have b0 : wr.cell? ⟨w.heap.size, 0, none⟩ = some (.string s) := by simp [World.cell?, hbox]
      have b1 : wr.cell? ⟨w.heap.size, 1, none⟩ = some (.int .i64 (n : Int)) := by simp [World.cell?, hbox]
      have c0 : wr.cell? ⟨g, off + k * 2, none⟩ = some (.string l[k].1) := by rw [hbel.out.cell hgl]; exact hc _ _ (vers_get hlt').1
      have c1 : wr.cell? ⟨g, off + k * 2 + 1, none⟩ = some (.int .i64 (l[k].2 : Int)) := by rw [hbel.out.cell hgl]; exact hc _ _ (vers_get hlt').2
      have HX : Hid (l[k]? = some l[k]) := List.getElem?_eq_getElem hlt'
      generalize l[k] = x at c0 c1 HX
      obtain ⟨x, m⟩ := x
      clear hc hlt' hcell
      have hE := eqVer s x n m
      have hG := guardVer
      go_wp2_with fail
      go_quiet (fail)
      go_wp2_with fail
      · rename_i hq
        have hx : (s, n) = (x, m) := verEq_iff.1 (by simpa using hq)
        go_ret
        refine ⟨⟨k, rfl, ?_⟩, below_drewN hbel.out _⟩
        exact ⟨fun _ => hx ▸ List.mem_of_getElem? HX.out, fun _ => by omega⟩
      · rename_i hq
        have hx : Hid ((s, n) ≠ (x, m)) := fun h => by rw [verEq_iff.2 h] at hq; simp at hq
        go_roundg (N - (k + 1))
        case measure => omega
        case rel => exact ⟨k + 1, by omega, by go_num, below_drewN hbel.out _, hbox, fun j y hj hy => by
          rcases Nat.lt_or_eq_of_le (Nat.le_of_lt_succ hj) with h' | h'
          · exact hno.out j y h' hy
          · subst h'; rw [HX.out] at hy; injection hy with hy; rw [← hy]; exact hx.out⟩
    · go_wp2_with fail
      go_ret
      refine ⟨⟨-1, rfl, ?_⟩, hbel.out⟩
      constructor
      · intro h; exact absurd h (by decide)
      · intro h
        obtain ⟨j, hj, he⟩ := List.getElem_of_mem h
        exact absurd rfl (hno.out j (s, n) (by have := HN.out; omega) (by rw [List.getElem?_eq_getElem hj, he]))

set_option maxHeartbeats 1000000 in
theorem contains_any (w : World) (v : Value) (l : List Ver) (s : Ver) (h : RdT w 111 2 v l.length (vers l)) (hl : l.length ≤ 1000000) :
    Calls Tryz.prog 84 #[v, .agg #[.string s.1, .int .i64 (s.2 : Int)]] w fun e w' => e = .returned (.bool (verHas l s)) ∧ Below w.heap.size w w' := by
  have HC : Hid (Calls Tryz.prog 129 _ _ _) := index_any (w.alloc (.cells #[.string s.1, .int .i64 (s.2 : Int)] 111)) v l s (h.below ((Below.refl _ _).alloc (Nat.le_refl _) _)) hl
  clear h
  go_enter Tryz.func84, Tryz.ntmps84
  go_wp2_with (first | (go_at_call 129; refine HC.out.mono ?_; rintro e w1 ⟨⟨k, rfl, hk0⟩, hb0⟩; have hk : Hid _ := hk0; have hb : Hid _ := hb0; clear hk0 hb0))
  go_ret
  refine ⟨?_, ((Below.refl _ _).alloc (Nat.le_refl _) _).trans (hb.out.mono (by simp))⟩
  by_cases hm : s ∈ l
  · have := hk.out.2 hm
    simp [verHas_iff.2 hm, this]
  · have : ¬ 0 ≤ k := fun h => hm (hk.out.1 h)
    have h2 : verHas l s = false := by rw [← Bool.not_eq_true, verHas_iff]; exact hm
    simp [h2, this]

end Go.Proofs.YtbddcodljmglfaaGreatDoor

namespace Go.Proofs.YtbddcodljmglfaaGreatDoor
open Go.RowKit

theorem own_other {w : World} {base : Nat} {e t : TypeId} {size : Nat} {v : Value} {n : Nat} {xs : List Value} (h : OwnS w base e size v n xs) {k : Nat} {c : Array Value} {fr : Nat × Nat} (hk : w.heap[k]? = some (.cells c t fr)) (hne : e ≠ t) : ∀ g, v.ownBlock = some g → g ≠ k := by
  intro g hg e'
  subst e'
  rcases h.2 with ⟨rfl, _⟩ | ⟨g', off, cap, cur, rfl, h1, hg', _⟩
  · simp [Value.ownBlock] at hg
  · simp [Value.ownBlock] at hg
    subst hg
    rw [hk] at hg'
    simp at hg'
    exact hne hg'.2.1.symm

/-- A store into a block of another mark. -/
theorem Keeps.setCell {t : TypeId} {w w' : World} (h : Keeps t w w') {b i : Nat} {c : Array Value} {t' : TypeId} {fr : Nat × Nat} (hb : w'.heap[b]? = some (.cells c t' fr)) (hne : t ≠ t') (u : Value) : Keeps t w (w'.setCell ⟨b, i, none⟩ u) := by
  intro g cur f hg
  have h1 := h g cur f hg
  rw [Below.heap_setCell _ _ _ _ (by
    show g ≠ b
    rintro rfl
    rw [h1] at hb
    simp at hb
    exact hne hb.2.1)]
  exact h1
theorem set_block {w : World} {b i : Nat} {c : Array Value} {t : TypeId} {fr : Nat × Nat} (h : w.heap[b]? = some (.cells c t fr)) (u : Value) : (w.setCell ⟨b, i, none⟩ u).heap[b]? = some (.cells (c.setIfInBounds i u) t fr) := by
  simp [World.setCell, Array.getElem?_modify, h]

structure Box6 (w : World) (b : Nat) (c0 c1 c2 c3 c4 c5 : Value) : Prop where
  c : w.cell? ⟨b, 0, none⟩ = some c0 ∧ w.cell? ⟨b, 1, none⟩ = some c1 ∧ w.cell? ⟨b, 2, none⟩ = some c2 ∧ w.cell? ⟨b, 3, none⟩ = some c3 ∧ w.cell? ⟨b, 4, none⟩ = some c4 ∧ w.cell? ⟨b, 5, none⟩ = some c5
  f : ∀ i, w.frozen? ⟨b, i, none⟩ = false
theorem box6 {w : World} {b : Nat} {c0 c1 c2 c3 c4 c5 : Value} {t : TypeId} (h : w.heap[b]? = some (.cells #[c0, c1, c2, c3, c4, c5] t (0, 0))) : Box6 w b c0 c1 c2 c3 c4 c5 :=
  ⟨by simp [World.cell?, h], fun i => by simp [World.frozen?, h]⟩

theorem cell_newL (w : World) (vs : List Value) (t : TypeId) (b : Nat) (hb : b = w.heap.size) : ∀ j u, vs[j]? = some u → (w.alloc (.cells vs.toArray t)).cell? ((⟨b, 0, none⟩ : Addr).add j) = some u := by
  subst hb
  intro j u hj
  rw [Addr.add_lit, Nat.zero_add]
  unfold World.cell?
  simp only [heap_alloc_new]
  simpa using hj
theorem one1 {a : Value} (ha : a.oneCell' = true) : ∀ u ∈ [a], u.oneCell' = true := by simpa using ha
theorem one2 {a b : Value} (ha : a.oneCell' = true) (hb : b.oneCell' = true) : ∀ u ∈ [a, b], u.oneCell' = true := by
  intro u hu
  simp at hu
  rcases hu with rfl | rfl <;> assumption

theorem not_own {w : World} {base : Nat} {e t : TypeId} {size : Nat} {v : Value} {n : Nat} {xs : List Value} (h : OwnS w base e size v n xs) {k : Nat} {c : Array Value} {fr : Nat × Nat} (hk : w.heap[k]? = some (.cells c t fr)) (hne : e ≠ t) : some k ≠ v.ownBlock := by
  intro e'
  exact own_other h hk hne k e'.symm rfl

section
variable {w w' : World} {base : Nat} {e t : TypeId} {size : Nat} {v : Value} {n : Nat} {xs : List Value}
/-- What append does to a slice leaves a block of another mark. -/
theorem grown_box (h : OwnS w base e size v n xs) {o : Obj} (hg : (w.alloc o).grownBy w' v.ownBlock) {k : Nat} {c : Array Value} {fr : Nat × Nat} (hk : w.heap[k]? = some (.cells c t fr)) (hne : e ≠ t) : w'.heap[k]? = some (.cells c t fr) := by
  rw [hg.block k (by simp; exact Nat.lt_succ_of_lt (blk_lt hk)) (not_own h hk hne), Below.heap_alloc w o k (blk_lt hk)]
  exact hk
theorem grown_keeps (h : OwnS w base e size v n xs) {o : Obj} (hg : (w.alloc o).grownBy w' v.ownBlock) (hne : e ≠ t) : Keeps t w w' := fun g cur fr hk => grown_box h hg hk hne
theorem grown_own {base2 : Nat} {size2 : Nat} {v2 : Value} {n2 : Nat} {xs2 : List Value} (h : OwnS w base e size v n xs) {o : Obj} (hg : (w.alloc o).grownBy w' v.ownBlock) (h2 : OwnS w base2 t size2 v2 n2 xs2) (hne : e ≠ t) : OwnS w' base2 t size2 v2 n2 xs2 := by
  refine ⟨h2.1, ?_⟩
  rcases h2.2 with h3 | ⟨g, off, cap, cur, rfl, h4, h5, r⟩
  · exact .inl h3
  · exact .inr ⟨g, off, cap, cur, rfl, h4, grown_box h hg h5 hne, r⟩
theorem grown_below (h : OwnS w base e size v n xs) {o : Obj} (hg : (w.alloc o).grownBy w' v.ownBlock) (hb : base ≤ w.heap.size) : Below base w w' := by
  refine ⟨hg.os, hg.tape, hg.output, ?_, fun k hk => ?_⟩
  · have := hg.size; simp at this; omega
  · rw [hg.block k (by simp; omega) ?_, Below.heap_alloc w o k (by omega)]
    intro e'
    have := (h.lt k e'.symm).1
    omega
theorem OwnS.set_other (h : OwnS w base e size v n xs) {b i : Nat} {c : Array Value} {fr : Nat × Nat} (hb : w.heap[b]? = some (.cells c t fr)) (hne : e ≠ t) (u : Value) : OwnS (w.setCell ⟨b, i, none⟩ u) base e size v n xs :=
  h.of_block fun k hk => Below.heap_setCell _ _ _ _ (own_other h hb hne k hk)
end

/-- append, not laid open: so that an equation on its run can be met by the walk. -/
def appLater (ats : Array TypeId) (ty : TypeId) (args : Array Value) : Sem Next := do pure (.value (← Builtin.append_ ats ty args))
theorem run_execOp_append (P : Program) (ρ : Operand → Value) (dst : Option Tmp) (xs : Array Operand) (ats : Array TypeId) (ty : TypeId) (pos : String) (after : Array Edge) (guard : Option (Nat × Bool)) (w : World) :
    (execOp ρ { dst, op := .call { callee := .builtin .append, args := xs, argTypes := ats }, type := ty, pos, after, guard }).run P w = (appLater ats ty (xs.map ρ)).run P w := rfl
theorem run_appLater {P : Program} {ats : Array TypeId} {ty : TypeId} {args : Array Value} {w w' : World} {v : Value} (h : (Builtin.append_ ats ty args).run P w = .ok v w') : (appLater ats ty args).run P w = .ok (.value v) w' := by
  unfold appLater
  rw [Sem.run_bind, h]
  rfl
/-- One element that lies in a new block of its own, appended in a region that draws. -/
theorem app_later (W : World) (base : Nat) (t e : TypeId) (z : Value) (size bytes : Nat) (ht : Tryz.prog.underlying t = some (.slice e)) (hinf : (Tryz.prog.info? e).map (fun i => (i.zero, i.size, i.bytes)) = some (some z, size, bytes)) (hzs : z.cells.size = size) (hsz : 0 < size)
    (v : Value) (n : Nat) (xs : List Value) (hown : OwnS W base e size v n xs) (news : List Value) (hl : news.length = size) (h1 : ∀ u ∈ news, u.oneCell' = true) (h63 : n + 1 ≤ maxLen) (hbytes : (n + 1) * bytes ≤ 140737488355328) (hbase : base ≤ W.heap.size) :
    ∃ g off cap w3, (∀ ty, (appLater #[t, t] ty #[v, .slice (some ⟨W.heap.size, 0, none⟩) 1 1]).run Tryz.prog ((W.alloc (.cells news.toArray e)).drew) = .ok (.value (.slice (some ⟨g, off, none⟩) (n + 1) cap)) w3) ∧
      OwnS w3 base e size (.slice (some ⟨g, off, none⟩) (n + 1) cap) (n + 1) (xs ++ news) ∧ (W.alloc (.cells news.toArray e)).grownBy w3 v.ownBlock ∧ (v.ownBlock = some g ∨ g = W.heap.size + 1) ∧ g < w3.heap.size := by
  cases hq : Tryz.prog.info? e with
  | none => simp [hq] at hinf
  | some i =>
    simp [hq] at hinf
    obtain ⟨hz0, hz1, hz2⟩ := hinf
    obtain ⟨g, off, cap, w3, hr, h2, h3, h4, h5⟩ := run_append_ownS (P := Tryz.prog) ((W.alloc (.cells news.toArray e)).drew) base t 0 e i z size bytes ht hq hz0 hz1 hz2 hzs hsz v n xs ((hown.alloc _).of_block (fun _ _ => rfl)) ⟨W.heap.size, 0, none⟩ 1 1 news (by simpa using hl) (cell_newL W news e _ rfl) h1 (by decide) h63 hbytes (by simp; omega)
    exact ⟨g, off, cap, w3, fun ty => run_appLater (ty := ty) hr, h2, ⟨h3.1, h3.2, h3.3, h3.4, h3.5⟩, by simpa using h4, h5⟩

/-- A variable of two cells, in a box of its own, behind a call that came in between. -/
theorem var2_after {w w1 : World} {t : TypeId} {x y : Value} (hb : Below (w.alloc (.cells #[x, y] t)).heap.size (w.alloc (.cells #[x, y] t)) w1) :
    w1.cell? ⟨w.heap.size, 0, none⟩ = some x ∧ w1.cell? ⟨w.heap.size, 1, none⟩ = some y ∧ w1.frozen? ⟨w.heap.size, 0, none⟩ = false ∧ w1.frozen? ⟨w.heap.size, 1, none⟩ = false ∧
    (∀ u, (w1.setCell ⟨w.heap.size, 0, none⟩ u).cell? ⟨w.heap.size, 0, none⟩ = some u) ∧ (∀ v u, ((w1.setCell ⟨w.heap.size, 0, none⟩ v).setCell ⟨w.heap.size, 1, none⟩ u).cell? ⟨w.heap.size, 1, none⟩ = some u) ∧
    (∀ v u, Below w.heap.size w ((w1.setCell ⟨w.heap.size, 0, none⟩ v).setCell ⟨w.heap.size, 1, none⟩ u)) ∧ w.heap.size + 1 ≤ w1.heap.size := by
  have hbox := hb.block w.heap.size (by simp)
  rw [heap_alloc_new] at hbox
  have p0 : w1.cell? ⟨w.heap.size, 0, none⟩ = some x := by simp [World.cell?, hbox]
  have p1 : w1.cell? ⟨w.heap.size, 1, none⟩ = some y := by simp [World.cell?, hbox]
  refine ⟨p0, p1, by simp [World.frozen?, hbox], by simp [World.frozen?, hbox], fun u => World.cell?_setCell_same _ _ _ p0, fun v u => World.cell?_setCell_same _ _ _ (u := y) ?_, fun v u => ?_, ?_⟩
  · rw [World.cell?_setCell_other _ _ _ _ (by simp)]; exact p1
  · exact ((((Below.refl _ _).alloc (Nat.le_refl _) _).trans (hb.mono (by simp))).setCell (Nat.le_refl _) _).setCell (Nat.le_refl _) _
  · have := hb.size; simpa using this

end Go.Proofs.YtbddcodljmglfaaGreatDoor
