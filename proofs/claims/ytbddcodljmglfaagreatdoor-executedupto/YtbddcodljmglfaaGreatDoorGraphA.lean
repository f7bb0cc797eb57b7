/- What the operations on a map from pairs of numbers to numbers do, said of the list of its keys (each kept once, with a number that is not 0): look up, enter, store, strike, range. And what follows on it. -/
import Derived.Test.YtbddcodljmglfaaGreatDoorProg
import Derived.WalkKit
import Derived.WalkSpells
import Derived.WalkLawsBesides
import Derived.MapKept
import Derived.Test.YtbddcodljmglfaaGreatDoorMemA
import Derived.Deep.RegionHeld3
import Derived.Deep.QuietTactic
import Derived.BigQuiet
set_option linter.unusedSimpArgs false
set_option linter.unusedVariables false
namespace Go.Proofs.YtbddcodljmglfaaGreatDoor
open Go.RowKit

def ekey (p : Nat × Nat) : Value := .agg #[.int .i64 p.1, .int .i64 p.2]

theorem ekey_inj {p q : Nat × Nat} (h : ekey p = ekey q) : p = q := by
  simp [ekey] at h
  exact Prod.ext (by omega) (by omega)

theorem part0 (a b : Value) (w : World) : (part 3 #[a, b] 0).run Tryz.prog w = .ok a w := by kernel_rfl
theorem part1 (a b : Value) (w : World) : (part 3 #[a, b] 1).run Tryz.prog w = .ok b w := by kernel_rfl
theorem sizeInt (w : World) : (sizeOf 3).run Tryz.prog w = .ok 1 w := by kernel_rfl
theorem zeroInt (w : World) : (zeroValue 3).run Tryz.prog w = .ok (.int .i64 0) w := by kernel_rfl

theorem run_eq_int (d : Nat) (a b : Int) (w : World) : (Op.equalIn (d + 1) 3 (.int .i64 a) (.int .i64 b)).run Tryz.prog w = .ok (a == b) w := by
  unfold Op.equalIn
  simp [run_underlying Tryz.underlying3, Result.andThen]

theorem run_eq_key (p q : Nat × Nat) (w : World) : (Op.equal 208 (ekey p) (ekey q)).run Tryz.prog w = .ok (decide (p = q)) w := by
  unfold Op.equal Op.maxDepth ekey
  unfold Op.equalIn
  simp only [run_underlying Tryz.underlying208, Result.andThen, Sem.run_bind, sizeInt, Std.Legacy.Range.forIn_eq_forIn_range', Std.Legacy.Range.size]
  simp only [Nat.sub_zero, Nat.add_one_sub_one, Nat.div_one, List.range'_succ, List.range'_zero, List.forIn_cons, List.forIn_nil, Sem.run_bind, Nat.zero_mul, Nat.one_mul, Nat.mul_one, part0, part1, Nat.zero_add, Result.andThen, run_eq_int]
  by_cases h1 : p.1 = q.1
  · by_cases h2 : p.2 = q.2
    · have e : p = q := Prod.ext h1 h2
      subst e
      simp [run_eq_int, Result.andThen, part1]
    · have e : p ≠ q := fun e => h2 (by rw [e])
      have h3 : ((p.2 : Int) == (q.2 : Int)) = false := by simp; omega
      simp [h1, h3, e, run_eq_int, Result.andThen, part1]
  · have e : p ≠ q := fun e => h1 (by rw [e])
    have h3 : ((p.1 : Int) == (q.1 : Int)) = false := by simp; omega
    simp [h3, e, Result.andThen]

theorem run_check_int (e : Bool) (d : Nat) (a : Int) (w : World) : (Instr.checkKey e (d + 1) 3 (.int .i64 a)).run Tryz.prog w = .ok () w := by
  unfold Instr.checkKey
  simp [run_underlying Tryz.underlying3, Result.andThen]

theorem run_check_key (e : Bool) (p : Nat × Nat) (w : World) : (Instr.checkKey e 10000 208 (ekey p)).run Tryz.prog w = .ok () w := by
  unfold Instr.checkKey ekey
  simp only [run_underlying Tryz.underlying208, Result.andThen, Sem.run_bind, Std.Legacy.Range.forIn_eq_forIn_range', Std.Legacy.Range.size]
  simp [List.range'_succ, sizeInt, part0, part1, Result.andThen, run_check_int]

/-- The first entry at a key. -/
theorem run_asking (p : Nat × Nat) (w : World) : ∀ (l : List MapEntry) (L : List (Nat × Nat)) (i : Nat), l.map (·.key) = L.map ekey →
    (p ∉ L → (Instr.findAsking 208 (ekey p) l i).run Tryz.prog w = .ok none w) ∧
    (p ∈ L → ∃ j e, l[j]? = some e ∧ L[j]? = some p ∧ (∀ j', j' < j → L[j']? ≠ some p) ∧ (Instr.findAsking 208 (ekey p) l i).run Tryz.prog w = .ok (some (i + j, e.val)) w)
  | [], L, i, h => by
    have : L = [] := by cases L <;> simp_all
    subst this
    simp [Instr.findAsking]
  | e :: l, [], i, h => by simp at h
  | e :: l, q :: L, i, h => by
    simp only [List.map_cons, List.cons.injEq] at h
    have ih := run_asking p w l L (i + 1) h.2
    by_cases hq : p = q
    · subst hq
      refine ⟨fun hn => absurd (by simp) hn, fun _ => ⟨0, e, by simp, by simp, fun _ h' => absurd h' (by omega), ?_⟩⟩
      simp [Instr.findAsking, h.1, run_eq_key, Result.andThen]
    · refine ⟨fun hn => ?_, fun hm => ?_⟩
      · have := ih.1 (fun h' => hn (by simp [h']))
        simp [Instr.findAsking, h.1, run_eq_key, Result.andThen, hq, this]
      · obtain ⟨j, e', h1, h2, h3, h4⟩ := ih.2 (by simpa [hq] using hm)
        refine ⟨j + 1, e', by simpa using h1, by simpa using h2, ?_, ?_⟩
        · intro j' hj'
          cases j' with
          | zero => simpa using fun e => hq e.symm
          | succ j' => simpa using h3 j' (by omega)
        · simp [Instr.findAsking, h.1, run_eq_key, Result.andThen, hq, h4]
          omega

theorem run_find (p : Nat × Nat) (w : World) (l : List MapEntry) (L : List (Nat × Nat)) (h : l.map (·.key) = L.map ekey) :
    (p ∉ L → (Instr.findKey 208 (ekey p) l).run Tryz.prog w = .ok none w) ∧
    (p ∈ L → ∃ j e, l[j]? = some e ∧ L[j]? = some p ∧ (∀ j', j' < j → L[j']? ≠ some p) ∧ (Instr.findKey 208 (ekey p) l).run Tryz.prog w = .ok (some (j, e.val)) w) := by
  have hr := run_asking p w l L 0 h
  have e : (Instr.findKey 208 (ekey p) l).run Tryz.prog w = (Instr.findAsking 208 (ekey p) l 0).run Tryz.prog w := by
    cases l with
    | nil => simp [Instr.findKey, Instr.findNow, Instr.findAsking, run_underlying Tryz.underlying208, Result.andThen]
    | cons a l => simp [Instr.findKey, Instr.findNow, Instr.sameNow, run_underlying Tryz.underlying208, Result.andThen]
  rw [e]
  refine ⟨hr.1, fun hm => ?_⟩
  obtain ⟨j, x, h1, h2, h3, h4⟩ := hr.2 hm
  exact ⟨j, x, h1, h2, h3, by simpa using h4⟩

/-- Block m is a map whose keys are the pairs of L, each once, each with a number that is not 0; its stamps tell the entries apart. -/
def EMap (w : World) (m : Nat) (L : List (Nat × Nat)) : Prop :=
  ∃ es clock, w.heap[m]? = some (.map es clock) ∧ es.toList.map (·.key) = L.map ekey ∧ (∀ e ∈ es.toList, ∃ v : Nat, e.val = .int .i64 (v : Int) ∧ 1 ≤ v) ∧
    (∀ e ∈ es.toList, e.born < clock) ∧ (es.toList.map (·.born)).Nodup ∧ L.Nodup

theorem EMap.nodup {w : World} {m : Nat} {L : List (Nat × Nat)} (h : EMap w m L) : L.Nodup := by
  obtain ⟨_, _, _, _, _, _, _, h⟩ := h
  exact h

theorem EMap.lt {w : World} {m : Nat} {L : List (Nat × Nat)} (h : EMap w m L) : m < w.heap.size := by
  obtain ⟨es, c, h, _⟩ := h
  rcases Nat.lt_or_ge m w.heap.size with h' | h'
  · exact h'
  · simp [Array.getElem?_eq_none h'] at h

theorem EMap.of_block {w w' : World} {m : Nat} {L : List (Nat × Nat)} (h : EMap w m L) (hb : w'.heap[m]? = w.heap[m]?) : EMap w' m L := by
  obtain ⟨es, c, h, r⟩ := h
  exact ⟨es, c, hb.trans h, r⟩

theorem EMap.lookup {w : World} {m : Nat} {L : List (Nat × Nat)} (h : EMap w m L) (p : Nat × Nat) :
    ∃ v : Nat, (Instr.lookup 98 (.map (some m)) (ekey p) false).run Tryz.prog w = .ok (.int .i64 (v : Int)) w ∧ (0 < v ↔ p ∈ L) := by
  obtain ⟨es, c, hb, hk, hv, _, _, _⟩ := h
  have hf := run_find p w es.toList L hk
  by_cases hp : p ∈ L
  · obtain ⟨j, e, h1, h2, _, h4⟩ := hf.2 hp
    obtain ⟨v, hv1, hv2⟩ := hv e (List.mem_of_getElem? h1)
    refine ⟨v, ?_, by simp [hp]; omega⟩
    simp [Instr.lookup, run_underlying Tryz.underlying98, MapKept.run_getObj_map hb, run_check_key, h4, Result.andThen, hp, hv1]
  · refine ⟨0, ?_, by simp [hp]⟩
    simp [Instr.lookup, run_underlying Tryz.underlying98, MapKept.run_getObj_map hb, run_check_key, hf.1 hp, Result.andThen, hp, zeroInt]

/-- w' is w but for block m. -/
structure Turned (w w' : World) (m : Nat) : Prop where
  os : w'.os = w.os
  tape : w'.tape = w.tape
  output : w'.output = w.output
  size : w'.heap.size = w.heap.size
  block : ∀ k, k ≠ m → w'.heap[k]? = w.heap[k]?

theorem Turned.refl (w : World) (m : Nat) : Turned w w m := ⟨rfl, rfl, rfl, rfl, fun _ _ => rfl⟩
theorem Turned.trans {a b c : World} {m : Nat} (h : Turned a b m) (k : Turned b c m) : Turned a c m :=
  ⟨k.os.trans h.os, k.tape.trans h.tape, k.output.trans h.output, k.size.trans h.size, fun i hi => (k.block i hi).trans (h.block i hi)⟩
theorem turned_set (w : World) (m : Nat) (o : Obj) : Turned w { w with heap := w.heap.setIfInBounds m o } m :=
  ⟨rfl, rfl, rfl, by simp, fun k hk => by simp [Array.getElem?_setIfInBounds_ne (Ne.symm hk)]⟩

theorem stays_ekey (p : Nat × Nat) (w : World) : (Instr.keyThatStays (ekey p) (ekey p)).run Tryz.prog w = .ok (ekey p) w := by
  have h : Instr.sameBits 10000 (ekey p) (ekey p) = true := by
    unfold ekey Instr.sameBits
    simp [Instr.sameBits]
  simp [Instr.keyThatStays, h]

theorem lt_of_block' {w : World} {m : Nat} {o : Obj} (h : w.heap[m]? = some o) : m < w.heap.size := by
  rcases Nat.lt_or_ge m w.heap.size with h' | h'
  · exact h'
  · simp [Array.getElem?_eq_none h'] at h

theorem findIdx_last (l : List MapEntry) (e : MapEntry) (h : ∀ x ∈ l, x.born ≠ e.born) : (l ++ [e]).toArray.findIdx? (fun x => (x.born : Int) == (e.born : Int)) = some l.length := by
  rw [List.findIdx?_toArray, List.findIdx?_append]
  have : l.findIdx? (fun x => (x.born : Int) == (e.born : Int)) = none := by
    rw [List.findIdx?_eq_none_iff]
    intro x hx
    have := h x hx
    simp
    omega
  simp [this]

/-- No number in the map is greater than K. -/
def EBound (w : World) (m K : Nat) : Prop := ∀ es clock, w.heap[m]? = some (.map es clock) → ∀ e ∈ es.toList, ∀ v : Nat, e.val = .int .i64 (v : Int) → v ≤ K
theorem EBound.of_block {w w' : World} {m K : Nat} (h : EBound w m K) (hb : w'.heap[m]? = w.heap[m]?) : EBound w' m K := fun es c hw => h es c (hb.symm.trans hw)

/-- 'm[k]++' at a key that is not there: the entry is made, then its number is stored. -/
theorem EMap.enter {w : World} {m : Nat} {L : List (Nat × Nat)} (h : EMap w m L) (p : Nat × Nat) (hp : p ∉ L) :
    ∃ (c : Nat) (w1 : World), (Instr.mapEntry 98 (.map (some m)) (ekey p)).run Tryz.prog w = .ok (.tuple #[.int .i64 0, .int .i64 c]) w1 ∧ Turned w w1 m ∧
      (Instr.lookup 98 (.map (some m)) (ekey p) false).run Tryz.prog w1 = .ok (.int .i64 0) w1 ∧
      ∃ w2 : World, (Instr.entryStore 98 (.map (some m)) (.int .i64 c) (.int .i64 1)).run Tryz.prog w1 = .ok () w2 ∧ Turned w1 w2 m ∧ EMap w2 m (L ++ [p]) ∧ ∀ K, EBound w m K → EBound w2 m (K + 1) := by
  obtain ⟨es, c, hb, hk, hv, hc, hn, hL⟩ := h
  have hf := (run_find p w es.toList L hk).1 hp
  have hlt := lt_of_block' hb
  have hb1 : ({ w with heap := w.heap.setIfInBounds m (.map (es.push ⟨ekey p, .int .i64 0, c⟩) (c + 1)) } : World).heap[m]? = some (.map (es.push ⟨ekey p, .int .i64 0, c⟩) (c + 1)) := by
    simp [Array.getElem?_setIfInBounds, hlt]
  have hk1 : (es.push ⟨ekey p, .int .i64 0, c⟩).toList.map (·.key) = (L ++ [p]).map ekey := by simp [hk]
  refine ⟨c, _, ?_, turned_set w m (.map (es.push ⟨ekey p, .int .i64 0, c⟩) (c + 1)), ?_, ?_⟩
  · simp [Instr.mapEntry, run_underlying Tryz.underlying98, MapKept.run_getObj_map hb, run_check_key, hf, Result.andThen, MapKept.run_setObj_map _ hb, goInt]
  · obtain ⟨j, e, h1, h2, h3, h4⟩ := (run_find p { w with heap := w.heap.setIfInBounds m (.map (es.push ⟨ekey p, .int .i64 0, c⟩) (c + 1)) } _ (L ++ [p]) hk1).2 (by simp)
    have hj : j = L.length := by
      rcases Nat.lt_trichotomy j L.length with hj | hj | hj
      · rw [List.getElem?_append_left hj] at h2
        exact absurd (List.mem_of_getElem? h2) hp
      · exact hj
      · have : j < (L ++ [p]).length := (List.getElem?_eq_some_iff.1 h2).1
        simp at this
        omega
    have hlen : es.toList.length = L.length := by have := congrArg List.length hk; simpa using this
    have he : e = ⟨ekey p, .int .i64 0, c⟩ := by
      rw [hj] at h1
      simp only [Array.toList_push] at h1
      rw [← hlen, List.getElem?_append_right (Nat.le_refl _)] at h1
      simpa using h1.symm
    simp only [Array.toList_push] at h4
    simp [Instr.lookup, run_underlying Tryz.underlying98, MapKept.run_getObj_map hb1, run_check_key, h4, Result.andThen, he]
  · have hi : (es.push ⟨ekey p, .int .i64 0, c⟩).findIdx? (fun x => (x.born : Int) == (c : Int)) = some es.size := by
      have := findIdx_last es.toList ⟨ekey p, .int .i64 0, c⟩ (fun x hx => by have := hc x hx; show x.born ≠ c; omega)
      have e : (es.toList ++ [(⟨ekey p, .int .i64 0, c⟩ : MapEntry)]).toArray = es.push ⟨ekey p, .int .i64 0, c⟩ := by apply Array.toList_inj.1; rw [Array.toList_push]
      rw [e] at this
      simpa using this
    refine ⟨_, by simp [Instr.entryStore, MapKept.run_getObj_map hb1, Result.andThen, asInt, asIntOf, hi, MapKept.run_setObj_map _ hb1]; rfl, turned_set _ m _, ?_⟩
    have hm : (es.push ⟨ekey p, .int .i64 0, c⟩).modify es.size (fun e => { e with val := .int .i64 1 }) = es.push ⟨ekey p, .int .i64 1, c⟩ := by
      apply Array.ext_getElem?
      intro i
      simp [Array.getElem?_modify, Array.getElem?_push]
      by_cases hi : i = es.size
      · simp [hi]
      · have hi' : ¬ es.size = i := fun e => hi e.symm
        simp [hi, hi']
    refine ⟨?_, ?_⟩
    case refine_2 =>
      intro K hK es' c' hb' x hx u hu
      have : es' = es.push ⟨ekey p, .int .i64 1, c⟩ := by
        simp [Array.getElem?_setIfInBounds, hlt, hm] at hb'
        exact hb'.1.symm
      subst this
      simp only [Array.toList_push, List.mem_append, List.mem_singleton] at hx
      rcases hx with hx | rfl
      · have := hK es c hb x hx u hu
        omega
      · injection hu with _ hu
        omega
    refine ⟨es.push ⟨ekey p, .int .i64 1, c⟩, c + 1, by simp [Array.getElem?_setIfInBounds, hlt, hm], by simp [hk], ?_, ?_, ?_, ?_⟩
    · intro e he
      simp only [Array.toList_push, List.mem_append, List.mem_singleton] at he
      rcases he with he | rfl
      · exact hv e he
      · exact ⟨1, rfl, by omega⟩
    · intro e he
      simp only [Array.toList_push, List.mem_append, List.mem_singleton] at he
      rcases he with he | rfl
      · have := hc e he; omega
      · simp
    · simp only [Array.toList_push, List.map_append, List.map_cons, List.map_nil]
      rw [List.nodup_append]
      refine ⟨hn, by simp, ?_⟩
      intro a ha b hb' e
      simp only [List.mem_map] at ha
      obtain ⟨x, hx, rfl⟩ := ha
      simp at hb'
      have := hc x hx
      omega
    · rw [List.nodup_append]
      exact ⟨hL, by simp, fun a ha b hb' e => by simp at hb'; subst hb'; subst e; exact hp ha⟩

theorem find_born : ∀ (l : List MapEntry) (j : Nat) (e : MapEntry), (l.map (·.born)).Nodup → l[j]? = some e → l.findIdx? (fun x => (x.born : Int) == (e.born : Int)) = some j
  | [], j, e, _, h => by simp at h
  | x :: l, 0, e, hn, h => by simp at h; subst h; simp [List.findIdx?_cons]
  | x :: l, j + 1, e, hn, h => by
    simp only [List.map_cons, List.nodup_cons] at hn
    simp at h
    have hne : x.born ≠ e.born := fun e2 => hn.1 (by rw [e2]; exact List.mem_map.2 ⟨e, List.mem_of_getElem? h, rfl⟩)
    have hne' : ((x.born : Int) == (e.born : Int)) = false := by rw [beq_eq_false_iff_ne]; omega
    rw [List.findIdx?_cons, hne']
    simp [find_born l j e hn.2 h]
theorem set_same {w : World} {m : Nat} {o : Obj} (h : w.heap[m]? = some o) : ({ w with heap := w.heap.setIfInBounds m o } : World) = w := by
  have : w.heap.setIfInBounds m o = w.heap := by
    apply Array.ext_getElem?
    intro k
    by_cases hk : k = m
    · subst hk
      rw [Array.getElem?_setIfInBounds_self_of_lt (lt_of_block' h), h]
    · rw [Array.getElem?_setIfInBounds_ne (Ne.symm hk)]
  rw [this]
theorem modify_same {es : Array MapEntry} {j : Nat} {e : MapEntry} (h : es[j]? = some e) (f : MapEntry → MapEntry) (hf : f e = e) : es.modify j f = es := by
  apply Array.ext_getElem?
  intro k
  rw [Array.getElem?_modify]
  split
  · rename_i hk
    subst hk
    rw [h]
    simp [hf]
  · rfl

/-- 'm[k]++' at a key that is there. -/
theorem EMap.again {w : World} {m K : Nat} {L : List (Nat × Nat)} (h : EMap w m L) (hB : EBound w m K) (p : Nat × Nat) (hp : p ∈ L) :
    ∃ (v b : Nat), v ≤ K ∧ (Instr.mapEntry 98 (.map (some m)) (ekey p)).run Tryz.prog w = .ok (.tuple #[.int .i64 (v : Int), .int .i64 b]) w ∧
      (Instr.lookup 98 (.map (some m)) (ekey p) false).run Tryz.prog w = .ok (.int .i64 (v : Int)) w ∧
      ∃ w2 : World, (Instr.entryStore 98 (.map (some m)) (.int .i64 b) (.int .i64 ((v : Int) + 1))).run Tryz.prog w = .ok () w2 ∧ Turned w w2 m ∧ EMap w2 m L ∧ EBound w2 m (K + 1) := by
  obtain ⟨es, c, hb, hk, hv, hc, hn, hL⟩ := h
  obtain ⟨j, e, h1, h2, h3, h4⟩ := (run_find p w es.toList L hk).2 hp
  have hlt := lt_of_block' hb
  obtain ⟨v, hv1, hv2⟩ := hv e (List.mem_of_getElem? h1)
  have hvK := hB es c hb e (List.mem_of_getElem? h1) v hv1
  have hes : es[j]? = some e := by simpa using h1
  have hkey : e.key = ekey p := by
    have := congrArg (fun l => l[j]?) hk
    simp only [List.getElem?_map, h1, h2, Option.map_some] at this
    simpa using this
  refine ⟨v, e.born, hvK, ?_, ?_, ?_⟩
  · simp [Instr.mapEntry, run_underlying Tryz.underlying98, MapKept.run_getObj_map hb, run_check_key, h4, Result.andThen, goInt, hes, hkey, stays_ekey, MapKept.run_setObj_map _ hb, hv1]
    rw [modify_same hes _ (by rw [← hkey]), set_same hb]
  · simp [Instr.lookup, run_underlying Tryz.underlying98, MapKept.run_getObj_map hb, run_check_key, h4, Result.andThen, hv1]
  · have hi : es.findIdx? (fun x => (x.born : Int) == (e.born : Int)) = some j := by
      have := find_born es.toList j e hn h1
      rw [← List.findIdx?_toArray] at this
      simpa using this
    have hget : ∀ k, (es.modify j (fun x => { x with val := .int .i64 ((v : Int) + 1) })).toList[k]? = if j = k then (es.toList[k]?).map (fun x => { x with val := .int .i64 ((v : Int) + 1) }) else es.toList[k]? := by
      intro k
      simp only [Array.getElem?_toList, Array.getElem?_modify]
    have hmem : ∀ x ∈ (es.modify j (fun x => { x with val := .int .i64 ((v : Int) + 1) })).toList, (∃ y ∈ es.toList, x.born = y.born ∧ x.key = y.key ∧ (x.val = y.val ∨ x.val = .int .i64 ((v : Int) + 1))) := by
      intro x hx
      obtain ⟨k, hk'⟩ := List.mem_iff_getElem?.1 hx
      rw [hget k] at hk'
      split at hk'
      · rename_i hjk
        cases hy : es.toList[k]? with
        | none => rw [hy] at hk'; cases hk'
        | some y =>
          rw [hy] at hk'
          simp at hk'
          subst hk'
          exact ⟨y, List.mem_of_getElem? hy, rfl, rfl, .inr rfl⟩
      · exact ⟨x, List.mem_of_getElem? hk', rfl, rfl, .inl rfl⟩
    have hkeys : (es.modify j (fun x => { x with val := .int .i64 ((v : Int) + 1) })).toList.map (·.key) = es.toList.map (·.key) := by
      apply List.ext_getElem?
      intro k
      rw [List.getElem?_map, List.getElem?_map, hget k]
      split
      · cases es.toList[k]? <;> rfl
      · rfl
    have hborn : (es.modify j (fun x => { x with val := .int .i64 ((v : Int) + 1) })).toList.map (·.born) = es.toList.map (·.born) := by
      apply List.ext_getElem?
      intro k
      rw [List.getElem?_map, List.getElem?_map, hget k]
      split
      · cases es.toList[k]? <;> rfl
      · rfl
    refine ⟨_, by simp [Instr.entryStore, MapKept.run_getObj_map hb, Result.andThen, asInt, asIntOf, hi, MapKept.run_setObj_map _ hb]; rfl, turned_set _ m _, ?_, ?_⟩
    · refine ⟨es.modify j (fun x => { x with val := .int .i64 ((v : Int) + 1) }), c, by simp [Array.getElem?_setIfInBounds, hlt], by rw [hkeys]; exact hk, ?_, ?_, by rw [hborn]; exact hn, hL⟩
      · intro x hx
        obtain ⟨y, hy, -, -, h⟩ := hmem x hx
        rcases h with h | h
        · rw [h]; exact hv y hy
        · exact ⟨v + 1, by rw [h]; simp, by omega⟩
      · intro x hx
        obtain ⟨y, hy, h, -⟩ := hmem x hx
        rw [h]; exact hc y hy
    · intro es' c' hb' x hx u hu
      have : es' = es.modify j (fun x => { x with val := .int .i64 ((v : Int) + 1) }) := by
        simp [Array.getElem?_setIfInBounds, hlt] at hb'
        exact hb'.1.symm
      subst this
      obtain ⟨y, hy, -, -, h⟩ := hmem x hx
      rcases h with h | h
      · have := hB es c hb y hy u (by rw [← h]; exact hu)
        omega
      · rw [h] at hu
        injection hu with _ hu
        omega

/-- Block r is an iterator over the map of edges in block m; the pairs of R are still to come. -/
def EIter (w : World) (r m : Nat) (L R : List (Nat × Nat)) : Prop :=
  ∃ es clock seen, w.heap[m]? = some (.map es clock) ∧ es.toList.map (·.key) = L.map ekey ∧ (∀ e ∈ es.toList, ∃ v : Nat, e.val = .int .i64 (v : Int) ∧ 1 ≤ v) ∧
    (∀ e ∈ es.toList, e.born < clock) ∧ (es.toList.map (·.born)).Nodup ∧ L.Nodup ∧ w.heap[r]? = some (.mapIter (some m) clock seen clock) ∧
    (es.toList.filter (fun e => !seen.contains e.born)).map (·.key) = R.map ekey

theorem EIter.map {w : World} {r m : Nat} {L R : List (Nat × Nat)} (h : EIter w r m L R) : EMap w m L := by
  obtain ⟨es, c, seen, hb, hk, hv, hc, hn, hL, _, _⟩ := h
  exact ⟨es, c, hb, hk, hv, hc, hn, hL⟩

theorem EIter.of_block {w w' : World} {r m : Nat} {L R : List (Nat × Nat)} (h : EIter w r m L R) (hm : w'.heap[m]? = w.heap[m]?) (hr : w'.heap[r]? = w.heap[r]?) : EIter w' r m L R := by
  obtain ⟨es, c, seen, hb, hk, hv, hc, hn, hL, hi, h⟩ := h
  exact ⟨es, c, seen, hm.trans hb, hk, hv, hc, hn, hL, hr.trans hi, h⟩

theorem EMap.range {w : World} {m : Nat} {L : List (Nat × Nat)} (h : EMap w m L) :
    (∃ o, (Instr.range 98 (.map (some m))).run Tryz.prog w = .ok (.pointer (some ⟨w.heap.size, 0, none⟩)) (w.alloc o) ∧ EIter (w.alloc o) w.heap.size m L L) := by
  obtain ⟨es, c, hb, hk, hv, hc, hn, hL⟩ := h
  have hlt := lt_of_block' hb
  refine ⟨.mapIter (some m) c #[] c, ?_, es, c, #[], ?_, hk, hv, hc, hn, hL, ?_, ?_⟩
  · simp [Instr.range, run_underlying Tryz.underlying98, MapKept.run_getObj_map hb, Result.andThen, newObj, Sem.run]
  · show (w.heap.push _)[m]? = _
    rw [Array.getElem?_push, if_neg (by omega)]; exact hb
  · show (w.heap.push _)[w.heap.size]? = _
    simp
  · have e : es.toList.filter (fun e => !(#[] : Array Nat).contains e.born) = es.toList := List.filter_eq_self.2 (by simp)
    rw [e]; exact hk

theorem run_getObj_iter {P : Program} {w : World} {r : Nat} {x : Option Nat} {a : Nat} {b : Array Nat} {c : Nat} (hb : w.heap[r]? = some (.mapIter x a b c)) : (getObj r).run P w = .ok (.mapIter x a b c) w := by
  simp [getObj, Sem.run, hb]
theorem run_setObj_iter {P : Program} {w : World} {r : Nat} {x : Option Nat} {a : Nat} {b : Array Nat} {c : Nat} (o : Obj) (hb : w.heap[r]? = some (.mapIter x a b c)) : (setObj r o).run P w = .ok () { w with heap := w.heap.setIfInBounds r o } := by
  simp [setObj, Sem.run, hb]

theorem EIter.over {w : World} {r m : Nat} {L : List (Nat × Nat)} (h : EIter w r m L []) (ty : TypeId) :
    (Instr.next (.pointer (some ⟨r, 0, none⟩)) false ty).run Tryz.prog w = .ok (.tuple #[.bool false]) w := by
  obtain ⟨es, c, seen, hb, hk, hv, hc, hn, hL, hi, hR⟩ := h
  have hempty : es.filter (fun e => !seen.contains e.born) = #[] := by
    apply Array.toList_inj.1
    rw [Array.toList_filter]
    simpa using hR
  have hall : (!seen.isEmpty && !es.isEmpty && es.all (fun e => decide (e.born ≥ c))) = false := by
    rcases hes : es.toList with _ | ⟨e, l⟩
    · have : es = #[] := Array.toList_inj.1 (by simpa using hes)
      simp [this]
    · have he : e ∈ es.toList := by rw [hes]; simp
      have h1 := hc e he
      have : es.all (fun e => decide (e.born ≥ c)) = false := by
        rw [← Array.all_toList, hes]
        simp
        intro h2
        omega
      simp [this]
  simp only [Instr.next, Sem.run_bind, run_getObj_iter hi, MapKept.run_getObj_map hb, Result.andThen, hall, hempty]
  simp [choose, Question.forced, Result.andThen, Sem.run]

theorem EIter.step0 {w : World} {r m : Nat} {L R : List (Nat × Nat)} (h : EIter w r m L R) (hne : R ≠ []) (ty : TypeId) :
    ∃ (p : Nat × Nat) (A B : List (Nat × Nat)) (w1 : World) (v : Nat), R = A ++ p :: B ∧ (Instr.next (.pointer (some ⟨r, 0, none⟩)) false ty).run Tryz.prog w = .ok (.tuple #[.bool true, ekey p, .int .i64 (v : Int)]) w1 ∧
      Turned w w1 r ∧ EIter w1 r m L (A ++ B) ∧ p ∈ L ∧ r ≠ m ∧
      (∀ w' : World, w'.heap[r]? = w1.heap[r]? → w'.heap[m]? = w1.heap[m]? → (Instr.entry (.pointer (some ⟨r, 0, none⟩))).run Tryz.prog w' = .ok (.tuple #[ekey p, .int .i64 (v : Int)]) w') := by
  obtain ⟨es, c, seen, hb, hk, hv, hc, hn, hL, hi, hR⟩ := h
  have hrm : r ≠ m := by rintro rfl; rw [hb] at hi; simp at hi
  have hlt := lt_of_block' hi
  have hall : (!seen.isEmpty && !es.isEmpty && es.all (fun e => decide (e.born ≥ c))) = false := by
    rcases hes : es.toList with _ | ⟨e, l⟩
    · have : es = #[] := Array.toList_inj.1 (by simpa using hes)
      simp [this]
    · have he : e ∈ es.toList := by rw [hes]; simp
      have h1 := hc e he
      have : es.all (fun e => decide (e.born ≥ c)) = false := by
        rw [← Array.all_toList, hes]
        simp
        intro h2
        omega
      simp [this]
  have hold : (es.filter (fun e => !seen.contains e.born)).filter (fun e => decide (e.born < c)) = es.filter (fun e => !seen.contains e.born) := by
    apply Array.filter_eq_self.2
    intro e he
    have : e ∈ es.toList := by
      have := Array.mem_filter.1 he
      exact Array.mem_toList_iff.2 this.1
    simpa using hc e this
  have hnew : (es.filter (fun e => !seen.contains e.born)).filter (fun e => decide (e.born ≥ c)) = #[] := by
    apply Array.filter_eq_empty_iff.2
    intro e he
    have : e ∈ es.toList := by
      have := Array.mem_filter.1 he
      exact Array.mem_toList_iff.2 this.1
    have := hc e this
    simp
    omega
  obtain ⟨left, hleft⟩ : ∃ left, left = es.filter (fun e => !seen.contains e.born) := ⟨_, rfl⟩
  have hR' : left.toList.map (·.key) = R.map ekey := by rw [hleft, Array.toList_filter]; exact hR
  rw [← hleft] at hold hnew
  have hlen : left.size = R.length := by have := congrArg List.length hR'; simpa using this
  have hpos : 0 < left.size := by rw [hlen]; exact List.length_pos_iff.2 hne
  have hemp : left.isEmpty = false := by simp only [Array.isEmpty, decide_eq_false_iff_not]; omega
  -- the choice
  have key : ∀ (i : Nat) (w0 : World), i < left.size → w0.heap = w.heap → w0.os = w.os → w0.tape = w.tape → w0.output = w.output →
      (Instr.next (.pointer (some ⟨r, 0, none⟩)) false ty).run Tryz.prog w = ((do
        match (left.map some)[i]? with
        | some (some e) =>
          setObj r (.mapIter (some m) c (seen.push e.born) c)
          pure (.tuple #[.bool true, e.key, e.val])
        | some none => pure (.tuple #[.bool false])
        | none => stuck "Next: no such candidate" : Sem Value)).run Tryz.prog w0 →
      ∃ (p : Nat × Nat) (A B : List (Nat × Nat)) (w1 : World) (v : Nat), R = A ++ p :: B ∧ (Instr.next (.pointer (some ⟨r, 0, none⟩)) false ty).run Tryz.prog w = .ok (.tuple #[.bool true, ekey p, .int .i64 (v : Int)]) w1 ∧
        Turned w w1 r ∧ EIter w1 r m L (A ++ B) ∧ p ∈ L ∧ r ≠ m ∧
        (∀ w' : World, w'.heap[r]? = w1.heap[r]? → w'.heap[m]? = w1.heap[m]? → (Instr.entry (.pointer (some ⟨r, 0, none⟩))).run Tryz.prog w' = .ok (.tuple #[ekey p, .int .i64 (v : Int)]) w') := by
    intro i w0 hi' hh0 ho0 ht0 hout0 hrun
    have hiR : i < R.length := by omega
    have hi0 : w0.heap[r]? = some (.mapIter (some m) c seen c) := by rw [hh0]; exact hi
    have hge : left[i]? = some left[i] := Array.getElem?_eq_getElem hi'
    obtain ⟨e, he⟩ : ∃ e, e = left[i] := ⟨_, rfl⟩
    have hel : left.toList[i]? = some e := by rw [he]; simp [hi']
    have hkey : e.key = ekey R[i] := by
      have := congrArg (fun l => l[i]?) hR'
      simp only [List.getElem?_map, hel, List.getElem?_eq_getElem hiR, Option.map_some] at this
      simpa using this
    have hmem : e ∈ left.toList := List.mem_of_getElem? hel
    have hmem' : e ∈ es.toList ∧ seen.contains e.born = false := by
      rw [hleft, Array.toList_filter, List.mem_filter] at hmem
      simpa using hmem
    obtain ⟨vv, hval, -⟩ := hv e hmem'.1
    refine ⟨R[i], R.take i, R.drop (i + 1), { w0 with heap := w0.heap.setIfInBounds r (.mapIter (some m) c (seen.push e.born) c) }, vv, ?_, ?_, ?_, ?_, ?_, hrm, ?_⟩
    · rw [List.getElem_cons_drop hiR, List.take_append_drop]
    · rw [hrun]
      simp [Array.getElem?_map, hge, ← he, run_setObj_iter _ hi0, Result.andThen, hkey, hval]
    · refine ⟨ho0, ht0, hout0, by simp [hh0], fun k hk => ?_⟩
      simp [Array.getElem?_setIfInBounds_ne (Ne.symm hk), hh0]
    · refine ⟨es, c, seen.push e.born, ?_, hk, hv, hc, hn, hL, by simp [Array.getElem?_setIfInBounds, hh0, hlt], ?_⟩
      · simp [Array.getElem?_setIfInBounds_ne hrm, hh0, hb]
      · have e1 : es.toList.filter (fun x => !(seen.push e.born).contains x.born) = left.toList.eraseIdx i := by
          have e2 : es.toList.filter (fun x => !(seen.push e.born).contains x.born) = left.toList.filter (fun x => x.born != e.born) := by
            rw [hleft, Array.toList_filter, List.filter_filter]
            apply List.filter_congr
            intro x _
            simp [Array.contains_eq_mem, Bool.and_comm, bne]
            by_cases h1 : x.born = e.born <;> simp [h1]
          rw [e2]
          have hnd : (left.toList.map (·.born)).Nodup := by
            rw [hleft, Array.toList_filter]
            exact ((List.filter_sublist (l := es.toList)).map (·.born)).nodup hn
          have gen : ∀ (l : List MapEntry) (i : Nat) (e : MapEntry), (l.map (·.born)).Nodup → l[i]? = some e → l.filter (fun x => x.born != e.born) = l.eraseIdx i := by
            intro l
            induction l with
            | nil => intro i e _ h; simp at h
            | cons x l ih =>
              intro i e hnd h
              simp only [List.map_cons, List.nodup_cons] at hnd
              cases i with
              | zero =>
                simp at h
                subst h
                simp only [List.eraseIdx_cons_zero]
                rw [List.filter_cons]
                simp only [bne_self_eq_false, Bool.false_eq_true, if_false]
                apply List.filter_eq_self.2
                intro y hy
                simp
                intro e2
                exact hnd.1 (by rw [← e2]; exact List.mem_map.2 ⟨y, hy, rfl⟩)
              | succ i =>
                simp at h
                have hne : x.born ≠ e.born := fun e2 => hnd.1 (by rw [e2]; exact List.mem_map.2 ⟨e, List.mem_of_getElem? h, rfl⟩)
                simp [List.filter_cons, hne, ih i e hnd.2 h]
          exact gen _ i e hnd hel
        rw [e1]
        have e3 : ∀ (l : List MapEntry) (L : List (Nat × Nat)), l.map (·.key) = L.map ekey → (l.eraseIdx i).map (·.key) = (L.take i ++ L.drop (i + 1)).map ekey := by
          intro l L h
          simp only [List.eraseIdx_eq_take_drop_succ, List.map_append, List.map_take, List.map_drop, h]
        exact e3 _ _ hR'
    · have h1 : ekey R[i] ∈ L.map ekey := by
        rw [← hk, ← hkey]
        exact List.mem_map.2 ⟨e, hmem'.1, rfl⟩
      obtain ⟨q, hq, e2⟩ := List.mem_map.1 h1
      rw [← ekey_inj e2]
      exact hq
    · intro w' hr' hm'
      have hr1 : w'.heap[r]? = some (.mapIter (some m) c (seen.push e.born) c) := by rw [hr']; simp [Array.getElem?_setIfInBounds, hh0, hlt]
      have hm1 : w'.heap[m]? = some (.map es c) := by rw [hm']; simp [Array.getElem?_setIfInBounds_ne hrm, hh0, hb]
      have hfind : es.find? (fun x => x.born == e.born) = some e := by
        have gen : ∀ (l : List MapEntry), (l.map (·.born)).Nodup → e ∈ l → l.find? (fun x => x.born == e.born) = some e := by
          intro l
          induction l with
          | nil => intro _ h; simp at h
          | cons x l ih =>
            intro hnd h
            simp only [List.map_cons, List.nodup_cons] at hnd
            rcases List.mem_cons.1 h with rfl | h
            · simp
            · have hne : x.born ≠ e.born := fun e2 => hnd.1 (by rw [e2]; exact List.mem_map.2 ⟨e, h, rfl⟩)
              simp [hne, ih hnd.2 h]
        rw [← Array.find?_toList]
        exact gen _ hn hmem'.1
      simp [Instr.entry, run_getObj_iter hr1, MapKept.run_getObj_map hm1, Result.andThen, hfind, hkey, hval]
  have hcand : (if left.isEmpty then #[(none : Option MapEntry)] else #[]) ++ (left ++ #[]).map some = left.map some := by simp [hemp]
  by_cases h1 : left.size ≤ 1
  · refine key 0 w hpos rfl rfl rfl rfl ?_
    simp only [Instr.next, Sem.run_bind, run_getObj_iter hi, MapKept.run_getObj_map hb, Result.andThen, hall, ← hleft, hold, hnew, hcand]
    simp [choose, Question.forced, Result.andThen, Sem.run, h1]
    rw [Array.getElem?_eq_getElem hpos]
    rfl
  · refine key (w.tape w.drawn (.mapNext left.size) % left.size) { w with drawn := w.drawn + 1 } (Nat.mod_lt _ hpos) rfl rfl rfl rfl ?_
    simp only [Instr.next, Sem.run_bind, run_getObj_iter hi, MapKept.run_getObj_map hb, Result.andThen, hall, ← hleft, hold, hnew, hcand]
    simp [choose, Question.forced, Result.andThen, Sem.run, h1, Question.cut]
    rw [Array.getElem?_eq_getElem (Nat.mod_lt _ hpos)]
    rfl

theorem EIter.step {w : World} {r m : Nat} {L R : List (Nat × Nat)} (h : EIter w r m L R) (hne : R ≠ []) :
    ∃ (p : Nat × Nat) (A B : List (Nat × Nat)) (w1 : World) (v : Nat), R = A ++ p :: B ∧ (∀ ty, (Instr.next (.pointer (some ⟨r, 0, none⟩)) false ty).run Tryz.prog w = .ok (.tuple #[.bool true, .agg #[.int .i64 (p.1 : Int), .int .i64 (p.2 : Int)], .int .i64 (v : Int)]) w1) ∧
      Turned w w1 r ∧ EIter w1 r m L (A ++ B) ∧ p ∈ L ∧ r ≠ m ∧
      (Instr.entry (.pointer (some ⟨r, 0, none⟩))).run Tryz.prog w1 = .ok (.tuple #[.agg #[.int .i64 (p.1 : Int), .int .i64 (p.2 : Int)], .int .i64 (v : Int)]) w1 := by
  obtain ⟨p, A, B, w1, v, h1, h2, h3, h4, h5, h6, h7⟩ := h.step0 hne 0
  exact ⟨p, A, B, w1, v, h1, fun ty => h2, h3, h4, h5, h6, h7 w1 rfl rfl⟩

end Go.Proofs.YtbddcodljmglfaaGreatDoor

namespace Go.Proofs.YtbddcodljmglfaaGreatDoor
open Go.RowKit

theorem nums_app2 (a b : List Nat) : nums (a ++ b) = nums a ++ nums b := by simp [nums]
theorem nums_one (u : Value) (a : Nat) : u ∈ [Value.int .i64 (a : Int)] → u.oneCell' = true := by
  intro h; simp at h; subst h; rfl

theorem cell_new1 (w : World) (v : Value) (t : TypeId) : ∀ j u, [v][j]? = some u → (w.alloc (.cells #[v] t)).cell? ((⟨w.heap.size, 0, none⟩ : Addr).add j) = some u := by
  intro j u hj
  match j, hj with
  | 0, hj => simp at hj; subst hj; simp [Addr.add]
  | j + 1, hj => simp at hj

end Go.Proofs.YtbddcodljmglfaaGreatDoor

namespace Go.Proofs.YtbddcodljmglfaaGreatDoor
open Go.RowKit

/-- Block p is a graph of n nodes: its edges are the pairs of L, its ends the places of D that hold true. -/
structure GraphIn (w : World) (p m q n : Nat) (L : List (Nat × Nat)) (D : List Bool) : Prop where
  head : w.heap[p]? = some (.cells #[.int .i64 n, .map (some m), .slice (some ⟨q, 0, none⟩) n n] 101 (0, 0))
  edges : EMap w m L
  ends : w.heap[q]? = some (.cells (bits D).toArray 4 (0, 0))
  len : D.length = n
  pos : 1 ≤ n
  le : n ≤ 40
  lt : ∀ x ∈ L, x.1 < n ∧ x.2 < n

section
variable {w w' : World} {p m q n : Nat} {L : List (Nat × Nat)} {D : List Bool}
theorem GraphIn.of_block (h : GraphIn w p m q n L D) (hp : w'.heap[p]? = w.heap[p]?) (hm : w'.heap[m]? = w.heap[m]?) (hq : w'.heap[q]? = w.heap[q]?) : GraphIn w' p m q n L D :=
  ⟨hp.trans h.head, h.edges.of_block hm, hq.trans h.ends, h.len, h.pos, h.le, h.lt⟩
theorem GraphIn.pLt (h : GraphIn w p m q n L D) : p < w.heap.size := blk_lt h.head
theorem GraphIn.mLt (h : GraphIn w p m q n L D) : m < w.heap.size := h.edges.lt
theorem GraphIn.qLt (h : GraphIn w p m q n L D) : q < w.heap.size := blk_lt h.ends
theorem GraphIn.below (h : GraphIn w p m q n L D) (hb : Below w.heap.size w w') : GraphIn w' p m q n L D :=
  h.of_block (hb.block _ h.pLt) (hb.block _ h.mLt) (hb.block _ h.qLt)
theorem GraphIn.c0 (h : GraphIn w p m q n L D) : w.cell? ⟨p, 0, none⟩ = some (.int .i64 n) := by simp [World.cell?, h.head]
theorem GraphIn.c1 (h : GraphIn w p m q n L D) : w.cell? ⟨p, 1, none⟩ = some (.map (some m)) := by simp [World.cell?, h.head]
theorem GraphIn.c2 (h : GraphIn w p m q n L D) : w.cell? ⟨p, 2, none⟩ = some (.slice (some ⟨q, 0, none⟩) n n) := by simp [World.cell?, h.head]
end

theorem wcount_any (w : World) (p m : Nat) (L : List (Nat × Nat)) (a b : Nat) (h1 : w.cell? ⟨p, 1, none⟩ = some (.map (some m))) (hm : EMap w m L) :
    Calls Tryz.prog 143 #[.pointer (some ⟨p, 0, none⟩), .int .i64 a, .int .i64 b] w fun e w' => (∃ v : Nat, e = .returned (.int .i64 (v : Int)) ∧ (0 < v ↔ (a, b) ∈ L)) ∧ w' = w := by
  obtain ⟨v, hrun, hv⟩ := hm.lookup (a, b)
  have HV : Hid (0 < v ↔ (a, b) ∈ L) := hv
  unfold ekey at hrun
  clear hm hv
  go_enter Tryz.func143, Tryz.ntmps143
  go_wp2
  go_ret
  exact ⟨⟨v, rfl, HV.out⟩, rfl⟩

/-- A list of edges with one more, if it has it not yet. -/
def addE (L : List (Nat × Nat)) (p : Nat × Nat) : List (Nat × Nat) := if p ∈ L then L else L ++ [p]
theorem mem_addE {L : List (Nat × Nat)} {p q : Nat × Nat} : q ∈ addE L p ↔ q ∈ L ∨ q = p := by
  unfold addE
  split
  · rename_i h
    constructor
    · exact .inl
    · rintro (h' | rfl)
      · exact h'
      · exact h
  · simp

theorem Turned.below {w w' : World} {m B : Nat} (h : Turned w w' m) (hm : B ≤ m) : Below B w w' :=
  ⟨h.os, h.tape, h.output, Nat.le_of_eq h.size.symm, fun k hk => h.block k (by omega)⟩
theorem Turned.cell {w w' : World} {m : Nat} (h : Turned w w' m) {a : Addr} (ha : a.block ≠ m) : w'.cell? a = w.cell? a := World.cell?_of_block (h.block a.block ha)

theorem Turned.of_drew {w w' : World} {m : Nat} (h : Turned w.drew w' m) : Turned w w' m := ⟨h.os, h.tape, h.output, h.size, h.block⟩

set_option maxHeartbeats 1000000 in
theorem wadd_any (w : World) (p m K : Nat) (L : List (Nat × Nat)) (a b : Nat) (h1 : w.cell? ⟨p, 1, none⟩ = some (.map (some m))) (hm : EMap w m L) (hK : EBound w m K) (hK2 : K ≤ 1000000000) (hpm : p ≠ m) :
    Calls Tryz.prog 104 #[.pointer (some ⟨p, 0, none⟩), .int .i64 a, .int .i64 b] w fun e w' => e = .returned (.tuple #[]) ∧ Turned w w' m ∧ EMap w' m (addE L (a, b)) ∧ EBound w' m (K + 1) := by
  have hmd : EMap w.drew m L := hm.of_block rfl
  have hKd : EBound w.drew m K := hK.of_block rfl
  by_cases hn : (a, b) ∈ L
  · obtain ⟨v, b0, hvK, hE, hL1, w2, hS, ht2, hm2, hB2⟩ := hmd.again hKd (a, b) hn
    unfold ekey at hE hL1
    have hfin : Hid (Turned w w2 m ∧ EMap w2 m (addE L (a, b)) ∧ EBound w2 m (K + 1)) := ⟨ht2.of_drew, by unfold addE; rw [if_pos hn]; exact hm2, hB2⟩
    have hv63 : ((v : Int) + 1) ≤ 9223372036854775807 := by omega
    clear hm hmd hm2 ht2 hn hpm hB2 hK hKd
    go_enter Tryz.func104, Tryz.ntmps104
    go_region
    all_goals go_end0
    all_goals exact ⟨rfl, hfin.1, hfin.2.1, hfin.2.2⟩
  · obtain ⟨c, w1, hE, ht1, hL1, w2, hS, ht2, hm2, hB2⟩ := hmd.enter (a, b) hn
    obtain ⟨v, hL, hv⟩ := hmd.lookup (a, b)
    obtain rfl : v = 0 := by
      rcases Nat.eq_zero_or_pos v with h | h
      · exact h
      · exact absurd (hv.1 h) hn
    unfold ekey at hL hE hL1
    have hc1 : w1.cell? ⟨p, 1, none⟩ = some (.map (some m)) := by rw [ht1.cell hpm]; exact h1
    have hfin : Hid (Turned w w2 m ∧ EMap w2 m (addE L (a, b)) ∧ EBound w2 m (K + 1)) := ⟨(ht1.trans ht2).of_drew, by unfold addE; rw [if_neg hn]; exact hm2, hB2 K hKd⟩
    clear hm hmd hm2 ht1 ht2 hn hpm hB2 hK hKd hv
    go_enter Tryz.func104, Tryz.ntmps104
    go_region
    all_goals go_end0
    all_goals exact ⟨rfl, hfin.1, hfin.2.1, hfin.2.2⟩

theorem run_make1 (t e : TypeId) (i : TypeInfo) (z : Value) (ht : Tryz.prog.underlying t = some (.slice e)) (hi : Tryz.prog.info? e = some i) (hz : i.zero = some z) (hs : i.size = 1) (hc : z.cells = #[z]) (n : Nat) (hn : n ≤ 1000) (hb : i.bytes ≤ 1000) (w : World) :
    (Instr.makeSlice t (.int .i64 n) (.int .i64 n)).run Tryz.prog w = .ok (.slice (some ⟨w.heap.size, 0, none⟩) n n) (w.alloc (.cells (Array.replicate n z) e)) := by
  have hb' : (i.bytes : Int) * (n : Int) ≤ 281474976710656 := by
    have h1 : i.bytes * n ≤ 1000 * 1000 := Nat.mul_le_mul hb hn
    have h : ((i.bytes * n : Nat) : Int) ≤ 281474976710656 := by omega
    rwa [Int.natCast_mul] at h
  have hr := run_make (P := Tryz.prog) w t e i z ht hi hz .i64 .i64 n n (by omega) (Int.le_refl _) hb' (by omega)
  rw [hr]
  have e1 : madeCells z.cells ((n : Int).toNat * i.size) = Array.replicate n z := by
    apply Array.toList_inj.1
    rw [hs, hc, Int.toNat_natCast, Nat.mul_one, toList_madeCells_one]
    simp
  rw [e1, Int.toNat_natCast]

theorem makeBools (n : Nat) (hn : n ≤ 1000) (w : World) :
    (Instr.makeSlice 99 (.int .i64 n) (.int .i64 n)).run Tryz.prog w = .ok (.slice (some ⟨w.heap.size, 0, none⟩) n n) (w.alloc (.cells (Array.replicate n (.bool false)) 4)) := by
  obtain ⟨i0, hi, hz0, hz1, hz2⟩ := info_parts infoBool
  exact run_make1 _ _ i0 _ Tryz.underlying99 hi hz0 hz1 rfl n hn (by omega) w

set_option maxHeartbeats 1000000 in
theorem waysNew_any (w : World) (n : Nat) (h1 : 1 ≤ n) (h2 : n ≤ 40) :
    Calls Tryz.prog 103 #[.int .i64 n] w fun e w' => ∃ m q, e = .returned (.agg #[.int .i64 n, .map (some m), .slice (some ⟨q, 0, none⟩) n n]) ∧
      Below w.heap.size w w' ∧ w.heap.size ≤ m ∧ w.heap.size ≤ q ∧ w'.heap[m]? = some (.map #[] 0) ∧ w'.heap[q]? = some (.cells (bits (List.replicate n false)).toArray 4 (0, 0)) := by
  have hmk := makeBools n (by omega)
  have hmm := @run_makeMap Tryz.prog
  go_enter Tryz.func103, Tryz.ntmps103
  go_wp2
  refine bodyPost_ret (v := .agg #[.int .i64 n, .map (some (w.heap.size + 1)), .slice (some ⟨w.heap.size + 2, 0, none⟩) n n]) (by simp [results, Tryz.results103, go_sem]) rfl ⟨w.heap.size + 1, w.heap.size + 2, rfl, ?_, by omega, by omega, ?_, ?_⟩
  · exact (((Below.refl _ _).alloc (Nat.le_refl _) _).alloc (by simp) _).alloc (by simp; omega) _
  · rw [Below.heap_alloc _ _ _ (by simp), heap_new (by simp)]
  · rw [heap_new (by simp)]
    simp [bits]


end Go.Proofs.YtbddcodljmglfaaGreatDoor
