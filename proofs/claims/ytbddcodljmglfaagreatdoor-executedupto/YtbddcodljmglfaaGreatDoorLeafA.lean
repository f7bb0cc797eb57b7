/- The small functions of package lines: isName, find, parts, Ends. And what follows on it. -/
import Derived.Test.YtbddcodljmglfaaGreatDoorMathA
import Derived.Test.YtbddcodljmglfaaGreatDoorMemA
import Derived.WalkMore
import Derived.Handy
import Derived.Deep.LoopGhost
import Derived.Deep.MidRow
set_option linter.unusedSimpArgs false
set_option linter.unusedVariables false
namespace Go.Proofs.YtbddcodljmglfaaGreatDoor
open Go.RowKit

theorem ends_any (w : World) (k : Nat) (hk : k < 10) : Calls Tryz.prog 162 #[.int .i64 k] w fun e w' => e = .returned (.bool (endsK k)) ∧ w' = w := by
  go_enter Tryz.func162, Tryz.ntmps162
  rcases (by omega : k = 0 ∨ k = 1 ∨ k = 2 ∨ k = 3 ∨ k = 4 ∨ k = 5 ∨ k = 6 ∨ k = 7 ∨ k = 8 ∨ k = 9) with rfl | rfl | rfl | rfl | rfl | rfl | rfl | rfl | rfl | rfl
  all_goals (go_wp2; go_ret; exact ⟨rfl, rfl⟩)

theorem find_any (w : World) (s : BA) : Calls Tryz.prog 187 #[.string s] w fun e w' => e = .returned (.tuple #[.int .i64 ((kindOf s).getD 0 : Nat), .bool (kindOf s).isSome]) ∧ w' = w := by
  go_enter Tryz.func187, Tryz.ntmps187
  go_wp2
  all_goals (go_ret2; refine ⟨?_, rfl⟩; simp [kindOf, *])

theorem kindOf_lt {s : BA} {k : Nat} (h : kindOf s = some k) : k < 10 := by
  unfold kindOf at h
  repeat' split at h
  all_goals simp at h
  all_goals omega

/-- The three cells that stand for what is behind a word. -/
def parts3 (k : Nat) : List Nat := (partsOf k) ++ List.replicate (3 - (partsOf k).length) 0

set_option maxRecDepth 10000 in
theorem parts_any (w : World) (k : Nat) (hk : k < 10) : Calls Tryz.prog 188 #[.int .i64 k] w fun e w' => e = .returned (.agg (nums (parts3 k)).toArray) ∧ ∃ o, w' = w.alloc o := by
  go_enter Tryz.func188, Tryz.ntmps188
  rcases (by omega : k = 0 ∨ k = 1 ∨ k = 2 ∨ k = 3 ∨ k = 4 ∨ k = 5 ∨ k = 6 ∨ k = 7 ∨ k = 8 ∨ k = 9) with rfl | rfl | rfl | rfl | rfl | rfl | rfl | rfl | rfl | rfl
  all_goals go_wp2
  all_goals go_returns
  all_goals exact ⟨rfl, _, rfl⟩

theorem isNm_iff (s : BA) : isNm s = true ↔ 1 ≤ s.size ∧ s.size ≤ 3 ∧ ∀ j (h : j < s.size), 97 ≤ (s[j]).toNat ∧ (s[j]).toNat ≤ 122 := by
  unfold isNm
  simp only [Bool.and_eq_true, decide_eq_true_eq, List.all_eq_true, and_assoc]
  refine and_congr_right fun _ => and_congr_right fun _ => ?_
  constructor
  · intro h j hj
    exact h s[j] (by show s.data[j] ∈ s.data.toList; simp)
  · intro h b hb
    obtain ⟨j, hj, rfl⟩ := List.getElem_of_mem hb
    exact h j (by rw [Array.length_toList] at hj; exact hj)

set_option maxHeartbeats 1000000 in
theorem isName_any (w : World) (s : BA) : Calls Tryz.prog 182 #[.string s] w fun e w' => e = .returned (.bool (isNm s)) ∧ w' = w := by
  go_enter Tryz.func182, Tryz.ntmps182
  by_cases h1 : 1 ≤ s.size
  · by_cases h3 : s.size ≤ 3
    · go_wp2_with fail
      go_loopg [14] s.size (fun g i wr => ∃ k : Nat, k + g = s.size ∧ i = .int .i64 k ∧ wr = w ∧ Hid (∀ j (h : j < s.size), j < k → 97 ≤ (s[j]).toNat ∧ (s[j]).toNat ≤ 122))
      case atStart => exact ⟨0, by omega, rfl, rfl, fun j _ hj => absurd hj (by omega)⟩
      case round =>
        obtain ⟨k, hkg, rfl, rfl, hall⟩ := hrel
        by_cases hlt : k < s.size
        · go_wp2_with fail
          · rename_i hA hB
            have hno : isNm s = false := by
              rw [← Bool.not_eq_true, isNm_iff]
              rintro ⟨-, -, h⟩
              have := h k hlt
              omega
            go_ret
            exact ⟨by first | rfl | (rw [hno]; rfl), rfl⟩
          · rename_i hA hB
            have hok : 97 ≤ (s[k]).toNat ∧ (s[k]).toNat ≤ 122 := by omega
            go_roundg (s.size - (k + 1))
            case measure => omega
            case rel => exact ⟨k + 1, by omega, by go_num, rfl, fun j h hj => by rcases Nat.lt_or_eq_of_le (Nat.le_of_lt_succ hj) with h' | h'; exact hall.out j h h'; subst h'; exact hok⟩
          · rename_i hB
            have hno : isNm s = false := by
              rw [← Bool.not_eq_true, isNm_iff]
              rintro ⟨-, -, h⟩
              have := h k hlt
              omega
            go_ret
            exact ⟨by first | rfl | (rw [hno]; rfl), rfl⟩
        · have hyes : isNm s = true := (isNm_iff s).2 ⟨h1, h3, fun j h => hall.out j h (by omega)⟩
          go_wp2_with fail
          go_ret
          exact ⟨by rw [hyes]; rfl, rfl⟩
    · have hno : isNm s = false := by
        rw [← Bool.not_eq_true, isNm_iff]
        exact fun h => h3 h.2.1
      go_wp2_with fail
      go_ret
      exact ⟨by first | rfl | (rw [hno]; rfl), rfl⟩
  · have hno : isNm s = false := by
      rw [← Bool.not_eq_true, isNm_iff]
      exact fun h => h1 h.1
    go_wp2_with fail
    go_ret
    exact ⟨by first | rfl | (rw [hno]; rfl), rfl⟩

end Go.Proofs.YtbddcodljmglfaaGreatDoor

namespace Go.Proofs.YtbddcodljmglfaaGreatDoor
open Go.RowKit

/-- A type of n cells. -/
structure AggT (t : TypeId) (n : Nat) (zs : List Value) : Prop where
  row : ∃ d, Tryz.prog.underlying t = some d ∧ d.isRow = true
  size : (Tryz.prog.info? t).map (·.size) = some n
  zero : (Tryz.prog.info? t).bind (·.zero) = some (.agg zs.toArray)
  zlen : zs.length = n

/-- Block b is a variable of that type. -/
def BoxIn (w : World) (b : Nat) (t : TypeId) (cs : List Value) : Prop := w.heap[b]? = some (.cells cs.toArray t (0, 0))

theorem BoxIn.new (w : World) (t : TypeId) (cs : List Value) : BoxIn (w.alloc (.cells cs.toArray t)) w.heap.size t cs := heap_alloc_new w _
theorem BoxIn.of_block {w w' : World} {b : Nat} {t : TypeId} {cs : List Value} (h : BoxIn w b t cs) (hb : w'.heap[b]? = w.heap[b]?) : BoxIn w' b t cs := hb.trans h
theorem BoxIn.below {w w' : World} {b : Nat} {t : TypeId} {cs : List Value} (h : BoxIn w b t cs) (hb : Below w.heap.size w w') : BoxIn w' b t cs := h.of_block (hb.block _ (blk_lt h))
theorem BoxIn.lt {w : World} {b : Nat} {t : TypeId} {cs : List Value} (h : BoxIn w b t cs) : b < w.heap.size := blk_lt h
theorem BoxIn.cell {w : World} {b : Nat} {t : TypeId} {cs : List Value} (h : BoxIn w b t cs) {k : Nat} {u : Value} (hk : cs[k]? = some u) : w.cell? ⟨b, k, none⟩ = some u := by
  unfold World.cell?
  rw [show w.heap[b]? = _ from h]
  simpa using hk
theorem BoxIn.frozen {w : World} {b : Nat} {t : TypeId} {cs : List Value} (h : BoxIn w b t cs) (k : Nat) : w.frozen? ⟨b, k, none⟩ = false := by
  unfold World.frozen?
  rw [show w.heap[b]? = _ from h]
  simp
theorem BoxIn.range {w : World} {b : Nat} {t : TypeId} {cs : List Value} (h : BoxIn w b t cs) : w.rangeAt b 0 cs := by
  intro j v hv
  rw [Nat.zero_add]
  exact h.cell hv

/-- All but some blocks stay. -/
structure Grew (w w' : World) (may : Nat → Prop) : Prop where
  os : w'.os = w.os
  tape : w'.tape = w.tape
  output : w'.output = w.output
  size : w.heap.size ≤ w'.heap.size
  block : ∀ k, ¬ may k → k < w.heap.size → w'.heap[k]? = w.heap[k]?
theorem Grew.below {w w' : World} {may : Nat → Prop} {B : Nat} (h : Grew w w' may) (hB : B ≤ w.heap.size) (hm : ∀ k, may k → B ≤ k) : Below B w w' :=
  ⟨h.os, h.tape, h.output, h.size, fun k hk => h.block k (fun h' => by have := hm k h'; omega) (by omega)⟩

theorem shape_setCells {b : Nat} {t : TypeId} : ∀ (vs : List Value) (o : Nat) (w : World) (C : Array Value), w.heap[b]? = some (.cells C t (0, 0)) → ∃ C', (w.setCells b o vs).heap[b]? = some (.cells C' t (0, 0)) ∧ C'.size = C.size
  | [], o, w, C, h => ⟨C, h, rfl⟩
  | v :: r, o, w, C, h => by
    have h1 : (w.setCell ⟨b, o, none⟩ v).heap[b]? = some (.cells (C.setIfInBounds o v) t (0, 0)) := by
      simp [World.setCell, Array.getElem?_modify, h]
    obtain ⟨C', h2, h3⟩ := shape_setCells r (o + 1) _ _ h1
    exact ⟨C', h2, by rw [h3]; simp⟩
theorem other_setCells {b : Nat} : ∀ (vs : List Value) (o : Nat) (w : World), (∀ k, k ≠ b → (w.setCells b o vs).heap[k]? = w.heap[k]?) ∧ (w.setCells b o vs).heap.size = w.heap.size ∧ (w.setCells b o vs).os = w.os ∧ (w.setCells b o vs).tape = w.tape ∧ (w.setCells b o vs).output = w.output
  | [], o, w => ⟨fun _ _ => rfl, rfl, rfl, rfl, rfl⟩
  | v :: r, o, w => by
    obtain ⟨h1, h2, h3, h4, h5⟩ := other_setCells (b := b) r (o + 1) (w.setCell ⟨b, o, none⟩ v)
    refine ⟨fun k hk => (h1 k hk).trans (Below.heap_setCell _ _ _ _ hk), ?_, h3, h4, h5⟩
    rw [World.setCells, h2]
    simp [World.setCell]

section
variable {ops : Array Oper} {rest : List Oper} {op : Oper} {a : Act} {w : World} {Q : Exit → Act → World → Prop} {t : TypeId} {n : Nat} {zs : List Value}

theorem wpList_load_box (hT : AggT t n zs) (hgd : op.guard = none) (x : Operand) (ho : op.op = .load t x)
    (b : Nat) (hx : a.eval x = .pointer (some ⟨b, 0, none⟩)) (cs : List Value) (hl : cs.length = n) (hS : BoxIn w b t cs)
    (h : wpList Tryz.prog ops Q rest (a.put op.dst (.agg cs.toArray)) w) : wpList Tryz.prog ops Q (op :: rest) a w := by
  obtain ⟨d, hd1, hd2⟩ := hT.row
  exact wpList_load_mid hgd t x ho b 0 hx cs d hS.range hd1 hd2 (by rw [hT.size, hl]) h

theorem wpList_store_box (hT : AggT t n zs) (hgd : op.guard = none) (x y : Operand) (ho : op.op = .store t x y)
    (b : Nat) (hx : a.eval x = .pointer (some ⟨b, 0, none⟩)) (cs0 cs : List Value) (hy : a.eval y = .agg cs.toArray) (h0 : BoxIn w b t cs0) (hl0 : cs0.length = n) (hl : cs.length = n) (h1 : cs.toArray.all (·.oneCell') = true)
    (h : ∀ w', BoxIn w' b t cs → Grew w w' (fun k => k = b) → w'.heap.size = w.heap.size → wpList Tryz.prog ops Q rest (a.put op.dst undef) w') : wpList Tryz.prog ops Q (op :: rest) a w := by
  have hth : w.there b 0 cs.toArray.size := by
    intro j hj
    have hj' : j < cs0.length := by rw [hl0, ← hl]; simpa using hj
    rw [Nat.zero_add, h0.cell (List.getElem?_eq_getElem hj')]
    exact ⟨rfl, h0.frozen j⟩
  obtain ⟨o1, o2, o3, o4, o5⟩ := other_setCells (b := b) cs 0 w
  refine wpList_store_mid hgd t x y ho b 0 cs.toArray hx hy hth (by rw [hT.size]; simp [hl]) h1 (h _ ?_ ⟨o3, o4, o5, by simp [o2], fun k hk _ => by simpa using o1 k hk⟩ (by simpa using o2))
  obtain ⟨C', h2, h3⟩ := shape_setCells cs 0 w _ h0
  have hsz : C'.size = n := by rw [h3]; simp [hl0]
  show (w.setCells b 0 cs.toArray.toList).heap[b]? = _
  simp only [List.toList_toArray]
  rw [h2]
  congr 1
  congr 1
  apply Array.ext
  · rw [hsz]; simp [hl]
  · intro j hj1 hj2
    have hj : j < cs.length := by simpa using hj2
    have := World.cell?_setCells_in b cs 0 w (fun i hi => by simpa using (hth i (by simpa using hi)).1) j hj
    simp only [Nat.zero_add, World.cell?, h2] at this
    simpa [hj1] using this
end

section
variable {ops : Array Oper} {rest : List Oper} {op1 op2 : Oper} {a : Act} {w : World} {Q : Exit → Act → World → Prop} {t : TypeId} {n : Nat} {zs : List Value}
end

/-- Results: a variable in a box, and something beside it. -/
theorem results_box1 {fn : Func} {tmps : Array Value} {t : TypeId} {n : Nat} {zs : List Value} (hT : AggT t n zs) {i b : Nat} {cs : List Value} {w : World} (hr : fn.results = #[.cell i t]) (ht : tmps.getD i undef = .pointer (some ⟨b, 0, none⟩)) (hl : cs.length = n) (hB : BoxIn w b t cs) :
    (results fn tmps).run Tryz.prog w = .ok (.agg cs.toArray) w := by
  obtain ⟨d, hd1, hd2⟩ := hT.row
  have hload := run_loadVar_mid (P := Tryz.prog) w b 0 t cs d hB.range hd1 hd2 (by rw [hT.size, hl])
  have ht' : tmps[i]?.getD undef = .pointer (some ⟨b, 0, none⟩) := by simpa using ht
  simp [results, hr, ht', asAddr, Sem.run_bind, hload]
theorem results_box2 {fn : Func} {tmps : Array Value} {t : TypeId} {n : Nat} {zs : List Value} (hT : AggT t n zs) {i j b : Nat} {cs : List Value} {w : World} {v : Value} (hr : fn.results = #[.cell i t, .tmp j]) (ht : tmps.getD i undef = .pointer (some ⟨b, 0, none⟩)) (hv : tmps.getD j undef = v) (hl : cs.length = n) (hB : BoxIn w b t cs) :
    (results fn tmps).run Tryz.prog w = .ok (.tuple #[.agg cs.toArray, v]) w := by
  obtain ⟨d, hd1, hd2⟩ := hT.row
  have hload := run_loadVar_mid (P := Tryz.prog) w b 0 t cs d hB.range hd1 hd2 (by rw [hT.size, hl])
  have ht' : tmps[i]?.getD undef = .pointer (some ⟨b, 0, none⟩) := by simpa using ht
  have hv' : tmps[j]?.getD undef = v := by simpa using hv
  simp [results, hr, ht', hv', asAddr, Sem.run_bind, hload]
theorem results_box3 {fn : Func} {tmps : Array Value} {t : TypeId} {n : Nat} {zs : List Value} (hT : AggT t n zs) {i j k b : Nat} {cs : List Value} {w : World} {v u : Value} (hr : fn.results = #[.cell i t, .tmp j, .tmp k]) (ht : tmps.getD i undef = .pointer (some ⟨b, 0, none⟩)) (hv : tmps.getD j undef = v) (hu : tmps.getD k undef = u) (hl : cs.length = n) (hB : BoxIn w b t cs) :
    (results fn tmps).run Tryz.prog w = .ok (.tuple #[.agg cs.toArray, v, u]) w := by
  obtain ⟨d, hd1, hd2⟩ := hT.row
  have hload := run_loadVar_mid (P := Tryz.prog) w b 0 t cs d hB.range hd1 hd2 (by rw [hT.size, hl])
  have ht' : tmps[i]?.getD undef = .pointer (some ⟨b, 0, none⟩) := by simpa using ht
  have hv' : tmps[j]?.getD undef = v := by simpa using hv
  have hu' : tmps[k]?.getD undef = u := by simpa using hu
  simp [results, hr, ht', hv', hu', asAddr, Sem.run_bind, hload]

end Go.Proofs.YtbddcodljmglfaaGreatDoor
