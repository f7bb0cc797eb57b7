/- What the operations on a map from pairs of numbers to numbers do, said of the list of its keys (each kept once, with the number 1): look up, enter, store, strike, range. -/
import Derived.Test.YtbddcodljmglfaaProg
import Derived.WalkKit
import Derived.WalkSpells
import Derived.WalkLawsBesides
import Derived.MapKept
set_option linter.unusedSimpArgs false
set_option linter.unusedVariables false
namespace Go.Proofs.Ytbddcodljmglfaa
open Go.RowKit

def ekey (p : Nat × Nat) : Value := .agg #[.int .i64 p.1, .int .i64 p.2]

theorem ekey_inj {p q : Nat × Nat} (h : ekey p = ekey q) : p = q := by
  simp [ekey] at h
  exact Prod.ext (by omega) (by omega)

theorem part0 (a b : Value) (w : World) : (part 3 #[a, b] 0).run Try.prog w = .ok a w := by kernel_rfl
theorem part1 (a b : Value) (w : World) : (part 3 #[a, b] 1).run Try.prog w = .ok b w := by kernel_rfl
theorem sizeInt (w : World) : (sizeOf 3).run Try.prog w = .ok 1 w := by kernel_rfl
theorem zeroInt (w : World) : (zeroValue 3).run Try.prog w = .ok (.int .i64 0) w := by kernel_rfl

theorem run_eq_int (d : Nat) (a b : Int) (w : World) : (Op.equalIn (d + 1) 3 (.int .i64 a) (.int .i64 b)).run Try.prog w = .ok (a == b) w := by
  unfold Op.equalIn
  simp [run_underlying Try.underlying3, Result.andThen]

theorem run_eq_key (p q : Nat × Nat) (w : World) : (Op.equal 108 (ekey p) (ekey q)).run Try.prog w = .ok (decide (p = q)) w := by
  unfold Op.equal Op.maxDepth ekey
  unfold Op.equalIn
  simp only [run_underlying Try.underlying108, Result.andThen, Sem.run_bind, sizeInt, Std.Legacy.Range.forIn_eq_forIn_range', Std.Legacy.Range.size]
  simp only [Nat.sub_zero, Nat.add_one_sub_one, Nat.div_one, List.range'_succ, List.range'_zero, List.forIn_cons, List.forIn_nil, Sem.run_bind, Nat.zero_mul, Nat.one_mul, Nat.mul_one, part0, part1, Nat.zero_add, Result.andThen, run_eq_int]
  by_cases h1 : p.1 = q.1
  · by_cases h2 : p.2 = q.2
    · have e : p = q := Prod.ext h1 h2
      subst e
      simp [run_eq_int, Result.andThen, part1]
    · have e : p ≠ q := fun e => h2 (by rw [e])
      have h3 : ((p.2 : Int) == (q.2 : Int)) = false := by simp; omega
      simp [h1, h3, e, run_eq_int, Result.andThen, part1]
  · have e : p ≠ q := fun e => h1 (by rw [e])
    have h3 : ((p.1 : Int) == (q.1 : Int)) = false := by simp; omega
    simp [h3, e, Result.andThen]

theorem run_check_int (e : Bool) (d : Nat) (a : Int) (w : World) : (Instr.checkKey e (d + 1) 3 (.int .i64 a)).run Try.prog w = .ok () w := by
  unfold Instr.checkKey
  simp [run_underlying Try.underlying3, Result.andThen]

theorem run_check_key (e : Bool) (p : Nat × Nat) (w : World) : (Instr.checkKey e 10000 108 (ekey p)).run Try.prog w = .ok () w := by
  unfold Instr.checkKey ekey
  simp only [run_underlying Try.underlying108, Result.andThen, Sem.run_bind, Std.Legacy.Range.forIn_eq_forIn_range', Std.Legacy.Range.size]
  simp [List.range'_succ, sizeInt, part0, part1, Result.andThen, run_check_int]

/-- The first entry at a key. -/
theorem run_asking (p : Nat × Nat) (w : World) : ∀ (l : List MapEntry) (L : List (Nat × Nat)) (i : Nat), l.map (·.key) = L.map ekey →
    (p ∉ L → (Instr.findAsking 108 (ekey p) l i).run Try.prog w = .ok none w) ∧
    (p ∈ L → ∃ j e, l[j]? = some e ∧ L[j]? = some p ∧ (∀ j', j' < j → L[j']? ≠ some p) ∧ (Instr.findAsking 108 (ekey p) l i).run Try.prog w = .ok (some (i + j, e.val)) w)
  | [], L, i, h => by
    have : L = [] := by cases L <;> simp_all
    subst this
    simp [Instr.findAsking]
  | e :: l, [], i, h => by simp at h
  | e :: l, q :: L, i, h => by
    simp only [List.map_cons, List.cons.injEq] at h
    have ih := run_asking p w l L (i + 1) h.2
    by_cases hq : p = q
    · subst hq
      refine ⟨fun hn => absurd (by simp) hn, fun _ => ⟨0, e, by simp, by simp, fun _ h' => absurd h' (by omega), ?_⟩⟩
      simp [Instr.findAsking, h.1, run_eq_key, Result.andThen]
    · refine ⟨fun hn => ?_, fun hm => ?_⟩
      · have := ih.1 (fun h' => hn (by simp [h']))
        simp [Instr.findAsking, h.1, run_eq_key, Result.andThen, hq, this]
      · obtain ⟨j, e', h1, h2, h3, h4⟩ := ih.2 (by simpa [hq] using hm)
        refine ⟨j + 1, e', by simpa using h1, by simpa using h2, ?_, ?_⟩
        · intro j' hj'
          cases j' with
          | zero => simpa using fun e => hq e.symm
          | succ j' => simpa using h3 j' (by omega)
        · simp [Instr.findAsking, h.1, run_eq_key, Result.andThen, hq, h4]
          omega

theorem run_find (p : Nat × Nat) (w : World) (l : List MapEntry) (L : List (Nat × Nat)) (h : l.map (·.key) = L.map ekey) :
    (p ∉ L → (Instr.findKey 108 (ekey p) l).run Try.prog w = .ok none w) ∧
    (p ∈ L → ∃ j e, l[j]? = some e ∧ L[j]? = some p ∧ (∀ j', j' < j → L[j']? ≠ some p) ∧ (Instr.findKey 108 (ekey p) l).run Try.prog w = .ok (some (j, e.val)) w) := by
  have hr := run_asking p w l L 0 h
  have e : (Instr.findKey 108 (ekey p) l).run Try.prog w = (Instr.findAsking 108 (ekey p) l 0).run Try.prog w := by
    cases l with
    | nil => simp [Instr.findKey, Instr.findNow, Instr.findAsking, run_underlying Try.underlying108, Result.andThen]
    | cons a l => simp [Instr.findKey, Instr.findNow, Instr.sameNow, run_underlying Try.underlying108, Result.andThen]
  rw [e]
  refine ⟨hr.1, fun hm => ?_⟩
  obtain ⟨j, x, h1, h2, h3, h4⟩ := hr.2 hm
  exact ⟨j, x, h1, h2, h3, by simpa using h4⟩

/-- Block m is a map whose keys are the pairs of L, each once, each with the number 1; its stamps tell the entries apart. -/
def EMap (w : World) (m : Nat) (L : List (Nat × Nat)) : Prop :=
  ∃ es clock, w.heap[m]? = some (.map es clock) ∧ es.toList.map (·.key) = L.map ekey ∧ (∀ e ∈ es.toList, e.val = .int .i64 1) ∧
    (∀ e ∈ es.toList, e.born < clock) ∧ (es.toList.map (·.born)).Nodup ∧ L.Nodup

theorem EMap.nodup {w : World} {m : Nat} {L : List (Nat × Nat)} (h : EMap w m L) : L.Nodup := by
  obtain ⟨_, _, _, _, _, _, _, h⟩ := h
  exact h

theorem EMap.lt {w : World} {m : Nat} {L : List (Nat × Nat)} (h : EMap w m L) : m < w.heap.size := by
  obtain ⟨es, c, h, _⟩ := h
  rcases Nat.lt_or_ge m w.heap.size with h' | h'
  · exact h'
  · simp [Array.getElem?_eq_none h'] at h

theorem EMap.of_block {w w' : World} {m : Nat} {L : List (Nat × Nat)} (h : EMap w m L) (hb : w'.heap[m]? = w.heap[m]?) : EMap w' m L := by
  obtain ⟨es, c, h, r⟩ := h
  exact ⟨es, c, hb.trans h, r⟩

theorem EMap.lookup {w : World} {m : Nat} {L : List (Nat × Nat)} (h : EMap w m L) (p : Nat × Nat) :
    (Instr.lookup 70 (.map (some m)) (ekey p) false).run Try.prog w = .ok (.int .i64 (if p ∈ L then 1 else 0)) w := by
  obtain ⟨es, c, hb, hk, hv, _, _, _⟩ := h
  have hf := run_find p w es.toList L hk
  by_cases hp : p ∈ L
  · obtain ⟨j, e, h1, h2, _, h4⟩ := hf.2 hp
    have : e.val = .int .i64 1 := hv e (List.mem_of_getElem? h1)
    simp [Instr.lookup, run_underlying Try.underlying70, MapKept.run_getObj_map hb, run_check_key, h4, Result.andThen, hp, this]
  · simp [Instr.lookup, run_underlying Try.underlying70, MapKept.run_getObj_map hb, run_check_key, hf.1 hp, Result.andThen, hp, zeroInt]

/-- w' is w but for block m. -/
structure Turned (w w' : World) (m : Nat) : Prop where
  os : w'.os = w.os
  tape : w'.tape = w.tape
  output : w'.output = w.output
  size : w'.heap.size = w.heap.size
  block : ∀ k, k ≠ m → w'.heap[k]? = w.heap[k]?

theorem Turned.refl (w : World) (m : Nat) : Turned w w m := ⟨rfl, rfl, rfl, rfl, fun _ _ => rfl⟩
theorem Turned.trans {a b c : World} {m : Nat} (h : Turned a b m) (k : Turned b c m) : Turned a c m :=
  ⟨k.os.trans h.os, k.tape.trans h.tape, k.output.trans h.output, k.size.trans h.size, fun i hi => (k.block i hi).trans (h.block i hi)⟩
theorem turned_set (w : World) (m : Nat) (o : Obj) : Turned w { w with heap := w.heap.setIfInBounds m o } m :=
  ⟨rfl, rfl, rfl, by simp, fun k hk => by simp [Array.getElem?_setIfInBounds_ne (Ne.symm hk)]⟩

theorem stays_ekey (p : Nat × Nat) (w : World) : (Instr.keyThatStays (ekey p) (ekey p)).run Try.prog w = .ok (ekey p) w := by
  have h : Instr.sameBits 10000 (ekey p) (ekey p) = true := by
    unfold ekey Instr.sameBits
    simp [Instr.sameBits]
  simp [Instr.keyThatStays, h]

theorem lt_of_block' {w : World} {m : Nat} {o : Obj} (h : w.heap[m]? = some o) : m < w.heap.size := by
  rcases Nat.lt_or_ge m w.heap.size with h' | h'
  · exact h'
  · simp [Array.getElem?_eq_none h'] at h

theorem findIdx_last (l : List MapEntry) (e : MapEntry) (h : ∀ x ∈ l, x.born ≠ e.born) : (l ++ [e]).toArray.findIdx? (fun x => (x.born : Int) == (e.born : Int)) = some l.length := by
  rw [List.findIdx?_toArray, List.findIdx?_append]
  have : l.findIdx? (fun x => (x.born : Int) == (e.born : Int)) = none := by
    rw [List.findIdx?_eq_none_iff]
    intro x hx
    have := h x hx
    simp
    omega
  simp [this]

/-- 'm[k]++' at a key that is not there: the entry is made, then its number is stored. -/
theorem EMap.enter {w : World} {m : Nat} {L : List (Nat × Nat)} (h : EMap w m L) (p : Nat × Nat) (hp : p ∉ L) :
    ∃ (c : Nat) (w1 : World), (Instr.mapEntry 70 (.map (some m)) (ekey p)).run Try.prog w = .ok (.tuple #[.int .i64 0, .int .i64 c]) w1 ∧ Turned w w1 m ∧
      (Instr.lookup 70 (.map (some m)) (ekey p) false).run Try.prog w1 = .ok (.int .i64 0) w1 ∧
      ∃ w2 : World, (Instr.entryStore 70 (.map (some m)) (.int .i64 c) (.int .i64 1)).run Try.prog w1 = .ok () w2 ∧ Turned w1 w2 m ∧ EMap w2 m (L ++ [p]) := by
  obtain ⟨es, c, hb, hk, hv, hc, hn, hL⟩ := h
  have hf := (run_find p w es.toList L hk).1 hp
  have hlt := lt_of_block' hb
  have hb1 : ({ w with heap := w.heap.setIfInBounds m (.map (es.push ⟨ekey p, .int .i64 0, c⟩) (c + 1)) } : World).heap[m]? = some (.map (es.push ⟨ekey p, .int .i64 0, c⟩) (c + 1)) := by
    simp [Array.getElem?_setIfInBounds, hlt]
  have hk1 : (es.push ⟨ekey p, .int .i64 0, c⟩).toList.map (·.key) = (L ++ [p]).map ekey := by simp [hk]
  refine ⟨c, _, ?_, turned_set w m (.map (es.push ⟨ekey p, .int .i64 0, c⟩) (c + 1)), ?_, ?_⟩
  · simp [Instr.mapEntry, run_underlying Try.underlying70, MapKept.run_getObj_map hb, run_check_key, hf, Result.andThen, MapKept.run_setObj_map _ hb, goInt]
  · obtain ⟨j, e, h1, h2, h3, h4⟩ := (run_find p { w with heap := w.heap.setIfInBounds m (.map (es.push ⟨ekey p, .int .i64 0, c⟩) (c + 1)) } _ (L ++ [p]) hk1).2 (by simp)
    have hj : j = L.length := by
      rcases Nat.lt_trichotomy j L.length with hj | hj | hj
      · rw [List.getElem?_append_left hj] at h2
        exact absurd (List.mem_of_getElem? h2) hp
      · exact hj
      · have : j < (L ++ [p]).length := (List.getElem?_eq_some_iff.1 h2).1
        simp at this
        omega
    have hlen : es.toList.length = L.length := by have := congrArg List.length hk; simpa using this
    have he : e = ⟨ekey p, .int .i64 0, c⟩ := by
      rw [hj] at h1
      simp only [Array.toList_push] at h1
      rw [← hlen, List.getElem?_append_right (Nat.le_refl _)] at h1
      simpa using h1.symm
    simp only [Array.toList_push] at h4
    simp [Instr.lookup, run_underlying Try.underlying70, MapKept.run_getObj_map hb1, run_check_key, h4, Result.andThen, he]
  · have hi : (es.push ⟨ekey p, .int .i64 0, c⟩).findIdx? (fun x => (x.born : Int) == (c : Int)) = some es.size := by
      have := findIdx_last es.toList ⟨ekey p, .int .i64 0, c⟩ (fun x hx => by have := hc x hx; show x.born ≠ c; omega)
      have e : (es.toList ++ [(⟨ekey p, .int .i64 0, c⟩ : MapEntry)]).toArray = es.push ⟨ekey p, .int .i64 0, c⟩ := by apply Array.toList_inj.1; rw [Array.toList_push]
      rw [e] at this
      simpa using this
    refine ⟨_, by simp [Instr.entryStore, MapKept.run_getObj_map hb1, Result.andThen, asInt, asIntOf, hi, MapKept.run_setObj_map _ hb1]; rfl, turned_set _ m _, ?_⟩
    have hm : (es.push ⟨ekey p, .int .i64 0, c⟩).modify es.size (fun e => { e with val := .int .i64 1 }) = es.push ⟨ekey p, .int .i64 1, c⟩ := by
      apply Array.ext_getElem?
      intro i
      simp [Array.getElem?_modify, Array.getElem?_push]
      by_cases hi : i = es.size
      · simp [hi]
      · have hi' : ¬ es.size = i := fun e => hi e.symm
        simp [hi, hi']
    refine ⟨es.push ⟨ekey p, .int .i64 1, c⟩, c + 1, by simp [Array.getElem?_setIfInBounds, hlt, hm], by simp [hk], ?_, ?_, ?_, ?_⟩
    · intro e he
      simp only [Array.toList_push, List.mem_append, List.mem_singleton] at he
      rcases he with he | rfl
      · exact hv e he
      · rfl
    · intro e he
      simp only [Array.toList_push, List.mem_append, List.mem_singleton] at he
      rcases he with he | rfl
      · have := hc e he; omega
      · simp
    · simp only [Array.toList_push, List.map_append, List.map_cons, List.map_nil]
      rw [List.nodup_append]
      refine ⟨hn, by simp, ?_⟩
      intro a ha b hb' e
      simp only [List.mem_map] at ha
      obtain ⟨x, hx, rfl⟩ := ha
      simp at hb'
      have := hc x hx
      omega
    · rw [List.nodup_append]
      exact ⟨hL, by simp, fun a ha b hb' e => by simp at hb'; subst hb'; subst e; exact hp ha⟩

/-- 'delete(m, k)' at a key that is there. -/
theorem EMap.strike {w : World} {m : Nat} {L : List (Nat × Nat)} (h : EMap w m L) (p : Nat × Nat) (hp : p ∈ L) :
    ∃ (w1 : World) (L' : List (Nat × Nat)), (∀ ty : TypeId, (Builtin.delete_ #[70, 108] ty #[.map (some m), ekey p]).run Try.prog w = .ok (.tuple #[]) w1) ∧ Turned w w1 m ∧ EMap w1 m L' ∧ (∀ q, q ∈ L' ↔ q ∈ L ∧ q ≠ p) := by
  obtain ⟨es, c, hb, hk, hv, hc, hn, hL⟩ := h
  obtain ⟨j, e, h1, h2, h3, h4⟩ := (run_find p w es.toList L hk).2 hp
  have hlt := lt_of_block' hb
  have hj : j < es.size := by have := (List.getElem?_eq_some_iff.1 h1).1; simpa using this
  refine ⟨_, L.eraseIdx j, fun ty => by simp [Builtin.delete_, run_underlying Try.underlying70, MapKept.run_getObj_map hb, run_check_key, h4, Result.andThen, MapKept.run_setObj_map _ hb]; rfl, turned_set w m _, ?_, ?_⟩
  · refine ⟨es.eraseIdxIfInBounds j, c, by simp [Array.getElem?_setIfInBounds, hlt], ?_, ?_, ?_, ?_, ?_⟩
    · simp only [Array.eraseIdxIfInBounds, hj, dite_true, Array.toList_eraseIdx]
      have e1 : ∀ (l : List MapEntry) (L : List (Nat × Nat)), l.map (·.key) = L.map ekey → (l.eraseIdx j).map (·.key) = (L.eraseIdx j).map ekey := by
        intro l L h
        simp only [List.eraseIdx_eq_take_drop_succ, List.map_append, List.map_take, List.map_drop, h]
      exact e1 _ _ hk
    · intro x hx
      simp [Array.eraseIdxIfInBounds, hj] at hx
      exact hv x (List.mem_of_mem_eraseIdx hx)
    · intro x hx
      simp [Array.eraseIdxIfInBounds, hj] at hx
      exact hc x (List.mem_of_mem_eraseIdx hx)
    · simp [Array.eraseIdxIfInBounds, hj]
      exact (List.eraseIdx_sublist _ _).map _ |>.nodup hn
    · exact (List.eraseIdx_sublist _ _).nodup hL
  · intro q
    have hjL := (List.getElem?_eq_some_iff.1 h2)
    obtain ⟨hj2, hj3⟩ := hjL
    constructor
    · intro hq
      refine ⟨List.mem_of_mem_eraseIdx hq, ?_⟩
      rintro rfl
      rw [List.mem_eraseIdx_iff_getElem] at hq
      obtain ⟨i, hi, hne, e1⟩ := hq
      have := (List.getElem_inj (h₀ := hi) (h₁ := hj2) hL).1 (e1.trans hj3.symm)
      exact hne this
    · rintro ⟨hq, hne⟩
      rw [List.mem_eraseIdx_iff_getElem]
      obtain ⟨i, hi, e1⟩ := List.getElem_of_mem hq
      refine ⟨i, hi, ?_, e1⟩
      rintro rfl
      exact hne (e1.symm.trans hj3)

/-- Block r is an iterator over the map of edges in block m; the pairs of R are still to come. -/
def EIter (w : World) (r m : Nat) (L R : List (Nat × Nat)) : Prop :=
  ∃ es clock seen, w.heap[m]? = some (.map es clock) ∧ es.toList.map (·.key) = L.map ekey ∧ (∀ e ∈ es.toList, e.val = .int .i64 1) ∧
    (∀ e ∈ es.toList, e.born < clock) ∧ (es.toList.map (·.born)).Nodup ∧ L.Nodup ∧ w.heap[r]? = some (.mapIter (some m) clock seen clock) ∧
    (es.toList.filter (fun e => !seen.contains e.born)).map (·.key) = R.map ekey

theorem EIter.map {w : World} {r m : Nat} {L R : List (Nat × Nat)} (h : EIter w r m L R) : EMap w m L := by
  obtain ⟨es, c, seen, hb, hk, hv, hc, hn, hL, _, _⟩ := h
  exact ⟨es, c, hb, hk, hv, hc, hn, hL⟩

theorem EIter.of_block {w w' : World} {r m : Nat} {L R : List (Nat × Nat)} (h : EIter w r m L R) (hm : w'.heap[m]? = w.heap[m]?) (hr : w'.heap[r]? = w.heap[r]?) : EIter w' r m L R := by
  obtain ⟨es, c, seen, hb, hk, hv, hc, hn, hL, hi, h⟩ := h
  exact ⟨es, c, seen, hm.trans hb, hk, hv, hc, hn, hL, hr.trans hi, h⟩

theorem EMap.range {w : World} {m : Nat} {L : List (Nat × Nat)} (h : EMap w m L) :
    (∃ o, (Instr.range 70 (.map (some m))).run Try.prog w = .ok (.pointer (some ⟨w.heap.size, 0, none⟩)) (w.alloc o) ∧ EIter (w.alloc o) w.heap.size m L L) := by
  obtain ⟨es, c, hb, hk, hv, hc, hn, hL⟩ := h
  have hlt := lt_of_block' hb
  refine ⟨.mapIter (some m) c #[] c, ?_, es, c, #[], ?_, hk, hv, hc, hn, hL, ?_, ?_⟩
  · simp [Instr.range, run_underlying Try.underlying70, MapKept.run_getObj_map hb, Result.andThen, newObj, Sem.run]
  · show (w.heap.push _)[m]? = _
    rw [Array.getElem?_push, if_neg (by omega)]; exact hb
  · show (w.heap.push _)[w.heap.size]? = _
    simp
  · have e : es.toList.filter (fun e => !(#[] : Array Nat).contains e.born) = es.toList := List.filter_eq_self.2 (by simp)
    rw [e]; exact hk

theorem run_getObj_iter {P : Program} {w : World} {r : Nat} {x : Option Nat} {a : Nat} {b : Array Nat} {c : Nat} (hb : w.heap[r]? = some (.mapIter x a b c)) : (getObj r).run P w = .ok (.mapIter x a b c) w := by
  simp [getObj, Sem.run, hb]
theorem run_setObj_iter {P : Program} {w : World} {r : Nat} {x : Option Nat} {a : Nat} {b : Array Nat} {c : Nat} (o : Obj) (hb : w.heap[r]? = some (.mapIter x a b c)) : (setObj r o).run P w = .ok () { w with heap := w.heap.setIfInBounds r o } := by
  simp [setObj, Sem.run, hb]

theorem EIter.over {w : World} {r m : Nat} {L : List (Nat × Nat)} (h : EIter w r m L []) (ty : TypeId) :
    (Instr.next (.pointer (some ⟨r, 0, none⟩)) false ty).run Try.prog w = .ok (.tuple #[.bool false]) w := by
  obtain ⟨es, c, seen, hb, hk, hv, hc, hn, hL, hi, hR⟩ := h
  have hempty : es.filter (fun e => !seen.contains e.born) = #[] := by
    apply Array.toList_inj.1
    rw [Array.toList_filter]
    simpa using hR
  have hall : (!seen.isEmpty && !es.isEmpty && es.all (fun e => decide (e.born ≥ c))) = false := by
    rcases hes : es.toList with _ | ⟨e, l⟩
    · have : es = #[] := Array.toList_inj.1 (by simpa using hes)
      simp [this]
    · have he : e ∈ es.toList := by rw [hes]; simp
      have h1 := hc e he
      have : es.all (fun e => decide (e.born ≥ c)) = false := by
        rw [← Array.all_toList, hes]
        simp
        intro h2
        omega
      simp [this]
  simp only [Instr.next, Sem.run_bind, run_getObj_iter hi, MapKept.run_getObj_map hb, Result.andThen, hall, hempty]
  simp [choose, Question.forced, Result.andThen, Sem.run]

theorem EIter.step0 {w : World} {r m : Nat} {L R : List (Nat × Nat)} (h : EIter w r m L R) (hne : R ≠ []) (ty : TypeId) :
    ∃ (p : Nat × Nat) (A B : List (Nat × Nat)) (w1 : World), R = A ++ p :: B ∧ (Instr.next (.pointer (some ⟨r, 0, none⟩)) false ty).run Try.prog w = .ok (.tuple #[.bool true, ekey p, .int .i64 1]) w1 ∧
      Turned w w1 r ∧ EIter w1 r m L (A ++ B) ∧ p ∈ L ∧ r ≠ m ∧
      (∀ w' : World, w'.heap[r]? = w1.heap[r]? → w'.heap[m]? = w1.heap[m]? → (Instr.entry (.pointer (some ⟨r, 0, none⟩))).run Try.prog w' = .ok (.tuple #[ekey p, .int .i64 1]) w') := by
  obtain ⟨es, c, seen, hb, hk, hv, hc, hn, hL, hi, hR⟩ := h
  have hrm : r ≠ m := by rintro rfl; rw [hb] at hi; simp at hi
  have hlt := lt_of_block' hi
  have hall : (!seen.isEmpty && !es.isEmpty && es.all (fun e => decide (e.born ≥ c))) = false := by
    rcases hes : es.toList with _ | ⟨e, l⟩
    · have : es = #[] := Array.toList_inj.1 (by simpa using hes)
      simp [this]
    · have he : e ∈ es.toList := by rw [hes]; simp
      have h1 := hc e he
      have : es.all (fun e => decide (e.born ≥ c)) = false := by
        rw [← Array.all_toList, hes]
        simp
        intro h2
        omega
      simp [this]
  have hold : (es.filter (fun e => !seen.contains e.born)).filter (fun e => decide (e.born < c)) = es.filter (fun e => !seen.contains e.born) := by
    apply Array.filter_eq_self.2
    intro e he
    have : e ∈ es.toList := by
      have := Array.mem_filter.1 he
      exact Array.mem_toList_iff.2 this.1
    simpa using hc e this
  have hnew : (es.filter (fun e => !seen.contains e.born)).filter (fun e => decide (e.born ≥ c)) = #[] := by
    apply Array.filter_eq_empty_iff.2
    intro e he
    have : e ∈ es.toList := by
      have := Array.mem_filter.1 he
      exact Array.mem_toList_iff.2 this.1
    have := hc e this
    simp
    omega
  obtain ⟨left, hleft⟩ : ∃ left, left = es.filter (fun e => !seen.contains e.born) := ⟨_, rfl⟩
  have hR' : left.toList.map (·.key) = R.map ekey := by rw [hleft, Array.toList_filter]; exact hR
  rw [← hleft] at hold hnew
  have hlen : left.size = R.length := by have := congrArg List.length hR'; simpa using this
  have hpos : 0 < left.size := by rw [hlen]; exact List.length_pos_iff.2 hne
  have hemp : left.isEmpty = false := by simp only [Array.isEmpty, decide_eq_false_iff_not]; omega
  -- the choice
  have key : ∀ (i : Nat) (w0 : World), i < left.size → w0.heap = w.heap → w0.os = w.os → w0.tape = w.tape → w0.output = w.output →
      (Instr.next (.pointer (some ⟨r, 0, none⟩)) false ty).run Try.prog w = ((do
        match (left.map some)[i]? with
        | some (some e) =>
          setObj r (.mapIter (some m) c (seen.push e.born) c)
          pure (.tuple #[.bool true, e.key, e.val])
        | some none => pure (.tuple #[.bool false])
        | none => stuck "Next: no such candidate" : Sem Value)).run Try.prog w0 →
      ∃ (p : Nat × Nat) (A B : List (Nat × Nat)) (w1 : World), R = A ++ p :: B ∧ (Instr.next (.pointer (some ⟨r, 0, none⟩)) false ty).run Try.prog w = .ok (.tuple #[.bool true, ekey p, .int .i64 1]) w1 ∧
        Turned w w1 r ∧ EIter w1 r m L (A ++ B) ∧ p ∈ L ∧ r ≠ m ∧
        (∀ w' : World, w'.heap[r]? = w1.heap[r]? → w'.heap[m]? = w1.heap[m]? → (Instr.entry (.pointer (some ⟨r, 0, none⟩))).run Try.prog w' = .ok (.tuple #[ekey p, .int .i64 1]) w') := by
    intro i w0 hi' hh0 ho0 ht0 hout0 hrun
    have hiR : i < R.length := by omega
    have hi0 : w0.heap[r]? = some (.mapIter (some m) c seen c) := by rw [hh0]; exact hi
    have hge : left[i]? = some left[i] := Array.getElem?_eq_getElem hi'
    obtain ⟨e, he⟩ : ∃ e, e = left[i] := ⟨_, rfl⟩
    have hel : left.toList[i]? = some e := by rw [he]; simp [hi']
    have hkey : e.key = ekey R[i] := by
      have := congrArg (fun l => l[i]?) hR'
      simp only [List.getElem?_map, hel, List.getElem?_eq_getElem hiR, Option.map_some] at this
      simpa using this
    have hmem : e ∈ left.toList := List.mem_of_getElem? hel
    have hmem' : e ∈ es.toList ∧ seen.contains e.born = false := by
      rw [hleft, Array.toList_filter, List.mem_filter] at hmem
      simpa using hmem
    have hval := hv e hmem'.1
    refine ⟨R[i], R.take i, R.drop (i + 1), { w0 with heap := w0.heap.setIfInBounds r (.mapIter (some m) c (seen.push e.born) c) }, ?_, ?_, ?_, ?_, ?_, hrm, ?_⟩
    · rw [List.getElem_cons_drop hiR, List.take_append_drop]
    · rw [hrun]
      simp [Array.getElem?_map, hge, ← he, run_setObj_iter _ hi0, Result.andThen, hkey, hval]
    · refine ⟨ho0, ht0, hout0, by simp [hh0], fun k hk => ?_⟩
      simp [Array.getElem?_setIfInBounds_ne (Ne.symm hk), hh0]
    · refine ⟨es, c, seen.push e.born, ?_, hk, hv, hc, hn, hL, by simp [Array.getElem?_setIfInBounds, hh0, hlt], ?_⟩
      · simp [Array.getElem?_setIfInBounds_ne hrm, hh0, hb]
      · have e1 : es.toList.filter (fun x => !(seen.push e.born).contains x.born) = left.toList.eraseIdx i := by
          have e2 : es.toList.filter (fun x => !(seen.push e.born).contains x.born) = left.toList.filter (fun x => x.born != e.born) := by
            rw [hleft, Array.toList_filter, List.filter_filter]
            apply List.filter_congr
            intro x _
            simp [Array.contains_eq_mem, Bool.and_comm, bne]
            by_cases h1 : x.born = e.born <;> simp [h1]
          rw [e2]
          have hnd : (left.toList.map (·.born)).Nodup := by
            rw [hleft, Array.toList_filter]
            exact ((List.filter_sublist (l := es.toList)).map (·.born)).nodup hn
          have gen : ∀ (l : List MapEntry) (i : Nat) (e : MapEntry), (l.map (·.born)).Nodup → l[i]? = some e → l.filter (fun x => x.born != e.born) = l.eraseIdx i := by
            intro l
            induction l with
            | nil => intro i e _ h; simp at h
            | cons x l ih =>
              intro i e hnd h
              simp only [List.map_cons, List.nodup_cons] at hnd
              cases i with
              | zero =>
                simp at h
                subst h
                simp only [List.eraseIdx_cons_zero]
                rw [List.filter_cons]
                simp only [bne_self_eq_false, Bool.false_eq_true, if_false]
                apply List.filter_eq_self.2
                intro y hy
                simp
                intro e2
                exact hnd.1 (by rw [← e2]; exact List.mem_map.2 ⟨y, hy, rfl⟩)
              | succ i =>
                simp at h
                have hne : x.born ≠ e.born := fun e2 => hnd.1 (by rw [e2]; exact List.mem_map.2 ⟨e, List.mem_of_getElem? h, rfl⟩)
                simp [List.filter_cons, hne, ih i e hnd.2 h]
          exact gen _ i e hnd hel
        rw [e1]
        have e3 : ∀ (l : List MapEntry) (L : List (Nat × Nat)), l.map (·.key) = L.map ekey → (l.eraseIdx i).map (·.key) = (L.take i ++ L.drop (i + 1)).map ekey := by
          intro l L h
          simp only [List.eraseIdx_eq_take_drop_succ, List.map_append, List.map_take, List.map_drop, h]
        exact e3 _ _ hR'
    · have h1 : ekey R[i] ∈ L.map ekey := by
        rw [← hk, ← hkey]
        exact List.mem_map.2 ⟨e, hmem'.1, rfl⟩
      obtain ⟨q, hq, e2⟩ := List.mem_map.1 h1
      rw [← ekey_inj e2]
      exact hq
    · intro w' hr' hm'
      have hr1 : w'.heap[r]? = some (.mapIter (some m) c (seen.push e.born) c) := by rw [hr']; simp [Array.getElem?_setIfInBounds, hh0, hlt]
      have hm1 : w'.heap[m]? = some (.map es c) := by rw [hm']; simp [Array.getElem?_setIfInBounds_ne hrm, hh0, hb]
      have hfind : es.find? (fun x => x.born == e.born) = some e := by
        have gen : ∀ (l : List MapEntry), (l.map (·.born)).Nodup → e ∈ l → l.find? (fun x => x.born == e.born) = some e := by
          intro l
          induction l with
          | nil => intro _ h; simp at h
          | cons x l ih =>
            intro hnd h
            simp only [List.map_cons, List.nodup_cons] at hnd
            rcases List.mem_cons.1 h with rfl | h
            · simp
            · have hne : x.born ≠ e.born := fun e2 => hnd.1 (by rw [e2]; exact List.mem_map.2 ⟨e, h, rfl⟩)
              simp [hne, ih hnd.2 h]
        rw [← Array.find?_toList]
        exact gen _ hn hmem'.1
      simp [Instr.entry, run_getObj_iter hr1, MapKept.run_getObj_map hm1, Result.andThen, hfind, hkey, hval]
  have hcand : (if left.isEmpty then #[(none : Option MapEntry)] else #[]) ++ (left ++ #[]).map some = left.map some := by simp [hemp]
  by_cases h1 : left.size ≤ 1
  · refine key 0 w hpos rfl rfl rfl rfl ?_
    simp only [Instr.next, Sem.run_bind, run_getObj_iter hi, MapKept.run_getObj_map hb, Result.andThen, hall, ← hleft, hold, hnew, hcand]
    simp [choose, Question.forced, Result.andThen, Sem.run, h1]
    rw [Array.getElem?_eq_getElem hpos]
    rfl
  · refine key (w.tape w.drawn (.mapNext left.size) % left.size) { w with drawn := w.drawn + 1 } (Nat.mod_lt _ hpos) rfl rfl rfl rfl ?_
    simp only [Instr.next, Sem.run_bind, run_getObj_iter hi, MapKept.run_getObj_map hb, Result.andThen, hall, ← hleft, hold, hnew, hcand]
    simp [choose, Question.forced, Result.andThen, Sem.run, h1, Question.cut]
    rw [Array.getElem?_eq_getElem (Nat.mod_lt _ hpos)]
    rfl

theorem EIter.step {w : World} {r m : Nat} {L R : List (Nat × Nat)} (h : EIter w r m L R) (hne : R ≠ []) :
    ∃ (p : Nat × Nat) (A B : List (Nat × Nat)) (w1 : World), R = A ++ p :: B ∧ (∀ ty, (Instr.next (.pointer (some ⟨r, 0, none⟩)) false ty).run Try.prog w = .ok (.tuple #[.bool true, .agg #[.int .i64 (p.1 : Int), .int .i64 (p.2 : Int)], .int .i64 1]) w1) ∧
      Turned w w1 r ∧ EIter w1 r m L (A ++ B) ∧ p ∈ L ∧ r ≠ m ∧
      (Instr.entry (.pointer (some ⟨r, 0, none⟩))).run Try.prog w1 = .ok (.tuple #[.agg #[.int .i64 (p.1 : Int), .int .i64 (p.2 : Int)], .int .i64 1]) w1 := by
  obtain ⟨p, A, B, w1, h1, h2, h3, h4, h5, h6, h7⟩ := h.step0 hne 0
  exact ⟨p, A, B, w1, h1, fun ty => h2, h3, h4, h5, h6, h7 w1 rfl rfl⟩

end Go.Proofs.Ytbddcodljmglfaa
