/- Slices that are read, with the mark of their row; slices of versions; slices.Index and slices.Contains of versions. -/
import Derived.Test.YtbddcodljmglfaaGreatDoorSpec
import Derived.Test.YtbddcodljmglfaaGreatDoorMem
import Derived.WalkMore
import Derived.Handy
import Derived.Deep.LoopGhost
import Derived.Laws.StructEq
import Derived.Deep.QuietTactic
import Derived.BigQuiet
import Derived.Deep.RegionHeld3
set_option linter.unusedSimpArgs false
set_option linter.unusedVariables false
namespace Go.Proofs.YtbddcodljmglfaaGreatDoor
open Go.RowKit

/-- The slice value v, of n elements of 'size' cells each, reads as the cells xs, which lie in a row marked t. -/
def RdT (w : World) (t : TypeId) (size : Nat) (v : Value) (n : Nat) (xs : List Value) : Prop :=
  xs.length = n * size ∧ ∃ ao cap, v = .slice ao n cap ∧ n ≤ cap ∧ (n = 0 ∨ ∃ g off cur fr, ao = some ⟨g, off, none⟩ ∧ w.heap[g]? = some (.cells cur t fr) ∧ ∀ j u, xs[j]? = some u → cur[off + j]? = some u)

/-- What one world has in rows marked t, the other has too. -/
def Keeps (t : TypeId) (w w' : World) : Prop := ∀ (g : Nat) (cur : Array Value) (fr : Nat × Nat), w.heap[g]? = some (Obj.cells cur t fr) → w'.heap[g]? = some (Obj.cells cur t fr)
theorem Keeps.refl (t : TypeId) (w : World) : Keeps t w w := fun _ _ _ h => h
theorem Keeps.trans {t : TypeId} {a b c : World} (h1 : Keeps t a b) (h2 : Keeps t b c) : Keeps t a c := fun g cur fr h => h2 g cur fr (h1 g cur fr h)
theorem Keeps.of_below {t : TypeId} {w w' : World} (h : Below w.heap.size w w') : Keeps t w w' := fun g cur fr hg => (h.block _ (blk_lt hg)).trans hg

section
variable {w w' : World} {t : TypeId} {size : Nat} {v : Value} {n : Nat} {xs : List Value}
theorem RdT.keep (h : RdT w t size v n xs) (hk : Keeps t w w') : RdT w' t size v n xs := by
  obtain ⟨hl, ao, cap, hv, hc, h⟩ := h
  refine ⟨hl, ao, cap, hv, hc, ?_⟩
  rcases h with h | ⟨g, off, cur, fr, ha, hg, h⟩
  · exact .inl h
  · exact .inr ⟨g, off, cur, fr, ha, hk _ _ _ hg, h⟩
theorem RdT.below (h : RdT w t size v n xs) (hb : Below w.heap.size w w') : RdT w' t size v n xs := h.keep (Keeps.of_below hb)
theorem RdT.cell (h : RdT w t size v n xs) : ∃ ao cap, v = .slice ao n cap ∧ n ≤ cap ∧ (0 < n → ∃ g off, ao = some ⟨g, off, none⟩ ∧ g < w.heap.size ∧ ∀ j u, xs[j]? = some u → w.cell? ⟨g, off + j, none⟩ = some u) := by
  obtain ⟨hl, ao, cap, hv, hc, h⟩ := h
  refine ⟨ao, cap, hv, hc, fun hn => ?_⟩
  rcases h with h | ⟨g, off, cur, fr, ha, hg, h⟩
  · omega
  · exact ⟨g, off, ha, blk_lt hg, fun j u hj => by simp [World.cell?, hg, h j u hj]⟩
theorem RdT.nil (w : World) (t : TypeId) (size : Nat) : RdT w t size (.slice none 0 0) 0 [] := ⟨by simp, none, 0, rfl, Nat.le_refl _, .inl rfl⟩
theorem OwnS.rdT {base : Nat} (h : OwnS w base t size v n xs) : RdT w t size v n xs := by
  refine ⟨h.1, ?_⟩
  rcases h.2 with ⟨rfl, rfl⟩ | ⟨g, off, cap, cur, rfl, h1, hg, hc, _, _, hx⟩
  · exact ⟨_, _, rfl, Nat.le_refl _, .inl rfl⟩
  · exact ⟨_, _, rfl, hc, .inr ⟨g, off, cur, _, rfl, hg, hx⟩⟩
end

theorem heap_new {w : World} {o : Obj} {k : Nat} (h : k = w.heap.size) : (w.alloc o).heap[k]? = some o := by subst h; exact heap_alloc_new w o
theorem bcell {W w1 : World} (hb : Below W.heap.size W w1) : (∀ b o, b < W.heap.size → w1.cell? ⟨b, o, none⟩ = W.cell? ⟨b, o, none⟩) ∧ (∀ b o, b < W.heap.size → w1.frozen? ⟨b, o, none⟩ = W.frozen? ⟨b, o, none⟩) :=
  ⟨fun b o h => hb.cell (p := ⟨b, o, none⟩) h, fun b o h => hb.frozen (p := ⟨b, o, none⟩) h⟩

/-- Versions in memory. -/
def vers : List Ver → List Value
  | [] => []
  | s :: r => .string s.1 :: .int .i64 (s.2 : Int) :: vers r
theorem vers_length (l : List Ver) : (vers l).length = l.length * 2 := by
  induction l with
  | nil => rfl
  | cons s r ih => simp [vers, ih]; omega
theorem vers_append (l r : List Ver) : vers (l ++ r) = vers l ++ vers r := by
  induction l with
  | nil => rfl
  | cons s l ih => simp [vers, ih]
theorem vers_get {l : List Ver} {k : Nat} (h : k < l.length) : (vers l)[k * 2]? = some (.string l[k].1) ∧ (vers l)[k * 2 + 1]? = some (.int .i64 (l[k].2 : Int)) := by
  induction l generalizing k with
  | nil => simp at h
  | cons s r ih =>
    cases k with
    | zero => simp [vers]
    | succ k =>
      have := ih (k := k) (by simpa using h)
      have e : (k + 1) * 2 = k * 2 + 1 + 1 := by omega
      rw [e]
      simpa [vers] using this

def verV (a : Ver) : Value := .agg #[.string a.1, .int .i64 (a.2 : Int)]
theorem eqVer (s x : BA) (n m : Nat) (w : World) : (binOp .eql 111 (.agg #[.string s, .int .i64 (n : Int)]) (.agg #[.string x, .int .i64 (m : Int)])).run Tryz.prog w = .ok (.bool (verEq (s, n) (x, m))) w := by
  have u3 := Tryz.underlying3
  have u9 := Tryz.underlying9
  have hS : Tryz.prog.underlying 111 = some (.struct (Tryz.prog.fieldsOf 111)) := by kernel_rfl
  have hp : Tryz.prog.stoodInHeld 111 = false := by kernel_rfl
  rw [run_eql_struct, show (10000 : Nat) = 9999 + 1 from rfl, run_equalIn_agg w 9999 111 _ _ hS hp]
  simp only [Program.fieldsOf, Tryz.underlying111]
  go_simp
  unfold verEq
  by_cases h1 : ByteArray.toList s = ByteArray.toList x <;> by_cases h2 : (n : Int) = m <;> simp [h1, h2]
theorem guardVer (op : BinOp) (a b : Operand) (s x : BA) (n m : Nat) (w : World) : (eqGuard op 111 a b (.agg #[.string s, .int .i64 (n : Int)]) (.agg #[.string x, .int .i64 (m : Int)])).run Tryz.prog w = .ok () w :=
  run_eqGuard_agg w op 111 a b _ _ (by kernel_rfl)


set_option maxRecDepth 100000 in
set_option maxHeartbeats 2000000 in
theorem index_any (w : World) (v : Value) (l : List Ver) (s : Ver) (h : RdT w 111 2 v l.length (vers l)) (hl : l.length ≤ 1000000) :
    Calls Tryz.prog 129 #[v, .agg #[.string s.1, .int .i64 (s.2 : Int)]] w fun e w' => (∃ k : Int, e = .returned (.int .i64 k) ∧ (0 ≤ k ↔ s ∈ l)) ∧ Below w.heap.size w w' := by
  obtain ⟨ao, cap, rfl, hcap, hcell⟩ := h.cell
  obtain ⟨s, n⟩ := s
  obtain ⟨N, hN⟩ : ∃ N, N = l.length := ⟨_, rfl⟩
  have HN : Hid (N = l.length) := hN
  rw [← hN] at hcell hl hcap ⊢
  clear hN h
  go_enter Tryz.func129, Tryz.ntmps129
  go_wp2_with fail
  go_loopg [8] N (fun g i wr => ∃ k : Nat, k + g = N ∧ i = .int .i64 k ∧ Hid (Below w.heap.size w wr) ∧ wr.heap[w.heap.size]? = some (.cells #[.string s, .int .i64 (n : Int)] 111 (0, 0)) ∧ Hid (∀ j x, j < k → l[j]? = some x → (s, n) ≠ x))
  case atStart => exact ⟨0, by omega, rfl, (Below.refl _ _).alloc (Nat.le_refl _) _, heap_new rfl, fun j x hj => absurd hj (by omega)⟩
  case round =>
    obtain ⟨k, hkg, rfl, hbel, hbox, hno⟩ := hrel
    by_cases hlt : k < N
    · obtain ⟨g, off, rfl, hgl, hc⟩ := hcell (by omega)
      have hlt' : k < l.length := HN.out ▸ hlt
      have b0 : wr.cell? ⟨w.heap.size, 0, none⟩ = some (.string s) := by simp [World.cell?, hbox]
      have b1 : wr.cell? ⟨w.heap.size, 1, none⟩ = some (.int .i64 (n : Int)) := by simp [World.cell?, hbox]
      have c0 : wr.cell? ⟨g, off + k * 2, none⟩ = some (.string l[k].1) := by rw [hbel.out.cell hgl]; exact hc _ _ (vers_get hlt').1
      have c1 : wr.cell? ⟨g, off + k * 2 + 1, none⟩ = some (.int .i64 (l[k].2 : Int)) := by rw [hbel.out.cell hgl]; exact hc _ _ (vers_get hlt').2
      have HX : Hid (l[k]? = some l[k]) := List.getElem?_eq_getElem hlt'
      generalize l[k] = x at c0 c1 HX
      obtain ⟨x, m⟩ := x
      clear hc hlt' hcell
      have hE := eqVer s x n m
      have hG := guardVer
      go_wp2_with fail
      go_quiet (fail)
      go_wp2_with fail
      · rename_i hq
        have hx : (s, n) = (x, m) := verEq_iff.1 (by simpa using hq)
        go_ret
        refine ⟨⟨k, rfl, ?_⟩, below_drewN hbel.out _⟩
        exact ⟨fun _ => hx ▸ List.mem_of_getElem? HX.out, fun _ => by omega⟩
      · rename_i hq
        have hx : Hid ((s, n) ≠ (x, m)) := fun h => by rw [verEq_iff.2 h] at hq; simp at hq
        go_roundg (N - (k + 1))
        case measure => omega
        case rel => exact ⟨k + 1, by omega, by go_num, below_drewN hbel.out _, hbox, fun j y hj hy => by
          rcases Nat.lt_or_eq_of_le (Nat.le_of_lt_succ hj) with h' | h'
          · exact hno.out j y h' hy
          · subst h'; rw [HX.out] at hy; injection hy with hy; rw [← hy]; exact hx.out⟩
    · go_wp2_with fail
      go_ret
      refine ⟨⟨-1, rfl, ?_⟩, hbel.out⟩
      constructor
      · intro h; exact absurd h (by decide)
      · intro h
        obtain ⟨j, hj, he⟩ := List.getElem_of_mem h
        exact absurd rfl (hno.out j (s, n) (by have := HN.out; omega) (by rw [List.getElem?_eq_getElem hj, he]))

set_option maxHeartbeats 1000000 in
theorem contains_any (w : World) (v : Value) (l : List Ver) (s : Ver) (h : RdT w 111 2 v l.length (vers l)) (hl : l.length ≤ 1000000) :
    Calls Tryz.prog 84 #[v, .agg #[.string s.1, .int .i64 (s.2 : Int)]] w fun e w' => e = .returned (.bool (verHas l s)) ∧ Below w.heap.size w w' := by
  have HC : Hid (Calls Tryz.prog 129 _ _ _) := index_any (w.alloc (.cells #[.string s.1, .int .i64 (s.2 : Int)] 111)) v l s (h.below ((Below.refl _ _).alloc (Nat.le_refl _) _)) hl
  clear h
  go_enter Tryz.func84, Tryz.ntmps84
  go_wp2_with (first | (go_at_call 129; refine HC.out.mono ?_; rintro e w1 ⟨⟨k, rfl, hk0⟩, hb0⟩; have hk : Hid _ := hk0; have hb : Hid _ := hb0; clear hk0 hb0))
  go_ret
  refine ⟨?_, ((Below.refl _ _).alloc (Nat.le_refl _) _).trans (hb.out.mono (by simp))⟩
  by_cases hm : s ∈ l
  · have := hk.out.2 hm
    simp [verHas_iff.2 hm, this]
  · have : ¬ 0 ≤ k := fun h => hm (hk.out.1 h)
    have h2 : verHas l s = false := by rw [← Bool.not_eq_true, verHas_iff]; exact hm
    simp [h2, this]

end Go.Proofs.YtbddcodljmglfaaGreatDoor
