/- What the operations on a map from versions to numbers do, said of the list of its entries: look up, set. -/
import Derived.Test.YtbddcodljmglfaaGreatDoorMathA
import Derived.Test.YtbddcodljmglfaaGreatDoorMemA
import Derived.WalkKit
import Derived.WalkSpells
import Derived.WalkLawsBesides
import Derived.MapKept
set_option linter.unusedSimpArgs false
set_option linter.unusedVariables false
namespace Go.Proofs.YtbddcodljmglfaaGreatDoor
open Go.RowKit

def vkey (p : Ver) : Value := .agg #[.string p.1, .int .i64 (p.2 : Int)]

theorem vpart0 (a b : Value) (w : World) : (part 9 #[a, b] 0).run Tryz.prog w = .ok a w := by kernel_rfl
theorem vpart1 (a b : Value) (w : World) : (part 3 #[a, b] 1).run Tryz.prog w = .ok b w := by kernel_rfl
theorem blk_lt' {w : World} {m : Nat} {o : Obj} (h : w.heap[m]? = some o) : m < w.heap.size := by
  rcases Nat.lt_or_ge m w.heap.size with h' | h'
  · exact h'
  · simp [Array.getElem?_eq_none h'] at h
theorem vzero (w : World) : (zeroValue 2).run Tryz.prog w = .ok (.int .i64 0) w := by kernel_rfl
theorem vstood : Tryz.prog.stoodInHeld 111 = false := by kernel_rfl

theorem run_eq_vint (d : Nat) (a b : Int) (w : World) : (Op.equalIn (d + 1) 3 (.int .i64 a) (.int .i64 b)).run Tryz.prog w = .ok (a == b) w := by
  unfold Op.equalIn
  simp [run_underlying Tryz.underlying3, Result.andThen]
theorem run_eq_vstr (d : Nat) (a b : BA) (w : World) : (Op.equalIn (d + 1) 9 (.string a) (.string b)).run Tryz.prog w = .ok (a == b) w := by
  unfold Op.equalIn
  simp [run_underlying Tryz.underlying9, Result.andThen]

theorem ba_beq (a b : BA) : (a == b) = decide (a = b) := by
  obtain ⟨x⟩ := a
  obtain ⟨y⟩ := b
  have h : ((⟨x⟩ : ByteArray) == ⟨y⟩) = (x == y) := rfl
  rw [h]
  by_cases e : x = y
  · subst e
    simp
  · have e2 : (⟨x⟩ : ByteArray) ≠ ⟨y⟩ := fun h => e (by injection h)
    simp [e, e2]
theorem run_eq_vkey (p q : Ver) (w : World) : (Op.equal 111 (vkey p) (vkey q)).run Tryz.prog w = .ok (decide (p = q)) w := by
  unfold Op.equal Op.maxDepth vkey
  unfold Op.equalIn
  simp [run_underlying Tryz.underlying111, Result.andThen, vstood, vpart0, vpart1, run_eq_vstr, run_eq_vint, ba_beq]
  by_cases h1 : p.1 = q.1
  · by_cases h2 : p.2 = q.2
    · have e : p = q := Prod.ext h1 h2
      subst e
      simp [run_eq_vint, Result.andThen, vpart1]
    · have e : p ≠ q := fun e => h2 (by rw [e])
      have h3 : ((p.2 : Int) == (q.2 : Int)) = false := by simp; omega
      simp [h1, h3, e, run_eq_vint, Result.andThen, vpart1]
  · have e : p ≠ q := fun e => h1 (by rw [e])
    simp [h1, e, Result.andThen]

theorem run_check_vint (e : Bool) (d : Nat) (a : Int) (w : World) : (Instr.checkKey e (d + 1) 3 (.int .i64 a)).run Tryz.prog w = .ok () w := by
  unfold Instr.checkKey
  simp [run_underlying Tryz.underlying3, Result.andThen]
theorem run_check_vstr (e : Bool) (d : Nat) (a : BA) (w : World) : (Instr.checkKey e (d + 1) 9 (.string a)).run Tryz.prog w = .ok () w := by
  unfold Instr.checkKey
  simp [run_underlying Tryz.underlying9, Result.andThen]
theorem run_check_vkey (e : Bool) (p : Ver) (w : World) : (Instr.checkKey e 10000 111 (vkey p)).run Tryz.prog w = .ok () w := by
  unfold Instr.checkKey vkey
  simp [run_underlying Tryz.underlying111, Result.andThen, vpart0, vpart1, run_check_vstr, run_check_vint]

/-- What a list of entries has at a key: the first one's number. -/
def getV (V : List (Ver × Int)) (p : Ver) : Int := ((V.find? fun x => decide (p = x.1)).map (·.2)).getD 0
def hasV (V : List (Ver × Int)) (p : Ver) : Bool := V.any fun x => decide (x.1 = p)
theorem hasV_iff {V : List (Ver × Int)} {p : Ver} : hasV V p = true ↔ p ∈ V.map (·.1) := by
  simp only [hasV, List.any_eq_true, decide_eq_true_eq, List.mem_map]
/-- A key is set. -/
def putV (V : List (Ver × Int)) (p : Ver) (n : Int) : List (Ver × Int) := if hasV V p = true then V.map (fun x => if x.1 = p then (p, n) else x) else V ++ [(p, n)]

/-- The first entry at a key. -/
theorem run_vasking (p : Ver) (w : World) : ∀ (l : List MapEntry) (V : List (Ver × Int)) (i : Nat), l.map (fun e => (e.key, e.val)) = V.map (fun x => (vkey x.1, .int .i64 x.2)) →
    (p ∉ V.map (·.1) → (Instr.findAsking 111 (vkey p) l i).run Tryz.prog w = .ok none w) ∧
    (p ∈ V.map (·.1) → ∃ j, (V.map (·.1))[j]? = some p ∧ (∀ j', j' < j → (V.map (·.1))[j']? ≠ some p) ∧ (Instr.findAsking 111 (vkey p) l i).run Tryz.prog w = .ok (some (i + j, .int .i64 (getV V p))) w)
  | [], V, i, h => by
    have : V = [] := by cases V <;> simp_all
    subst this
    simp [Instr.findAsking]
  | e :: l, [], i, h => by simp at h
  | e :: l, q :: V, i, h => by
    simp only [List.map_cons, List.cons.injEq, Prod.mk.injEq] at h
    obtain ⟨⟨hk, hv⟩, ht⟩ := h
    have ih := run_vasking p w l V (i + 1) ht
    by_cases hq : p = q.1
    · refine ⟨fun hn => absurd (by simp [hq]) hn, fun _ => ⟨0, by simp [hq], fun _ h' => absurd h' (by omega), ?_⟩⟩
      have hg : getV (q :: V) p = q.2 := by simp [getV, hq]
      rw [hg]
      simp [Instr.findAsking, hk, run_eq_vkey, Result.andThen, hq, hv]
    · have hg : getV (q :: V) p = getV V p := by simp [getV, hq]
      refine ⟨fun hn => ?_, fun hm => ?_⟩
      · have := ih.1 (fun h' => hn (by rw [List.map_cons]; exact List.mem_cons_of_mem _ h'))
        simp [Instr.findAsking, hk, run_eq_vkey, Result.andThen, hq, this]
      · have hm' : p ∈ V.map (·.1) := by
          rw [List.map_cons] at hm
          rcases List.mem_cons.1 hm with h' | h'
          · exact absurd h' hq
          · exact h'
        obtain ⟨j, h2, h3, h4⟩ := ih.2 hm'
        refine ⟨j + 1, by simpa using h2, ?_, ?_⟩
        · intro j' hj'
          cases j' with
          | zero => simpa using fun e => hq e.symm
          | succ j' => simpa using h3 j' (by omega)
        · rw [hg]
          simp [Instr.findAsking, hk, run_eq_vkey, Result.andThen, hq, h4]
          omega

theorem run_vfind (p : Ver) (w : World) (l : List MapEntry) (V : List (Ver × Int)) (h : l.map (fun e => (e.key, e.val)) = V.map (fun x => (vkey x.1, .int .i64 x.2))) :
    (p ∉ V.map (·.1) → (Instr.findKey 111 (vkey p) l).run Tryz.prog w = .ok none w) ∧
    (p ∈ V.map (·.1) → ∃ j, (V.map (·.1))[j]? = some p ∧ (∀ j', j' < j → (V.map (·.1))[j']? ≠ some p) ∧ (Instr.findKey 111 (vkey p) l).run Tryz.prog w = .ok (some (j, .int .i64 (getV V p))) w) := by
  have hr := run_vasking p w l V 0 h
  have e : (Instr.findKey 111 (vkey p) l).run Tryz.prog w = (Instr.findAsking 111 (vkey p) l 0).run Tryz.prog w := by
    cases l with
    | nil => simp [Instr.findKey, Instr.findNow, Instr.findAsking, run_underlying Tryz.underlying111, Result.andThen]
    | cons a l => simp [Instr.findKey, Instr.findNow, Instr.sameNow, run_underlying Tryz.underlying111, Result.andThen]
  rw [e]
  refine ⟨hr.1, fun hm => ?_⟩
  obtain ⟨j, h2, h3, h4⟩ := hr.2 hm
  exact ⟨j, h2, h3, by simpa using h4⟩

/-- Block m is a map that holds V. -/
def VMap (w : World) (m : Nat) (V : List (Ver × Int)) : Prop :=
  ∃ es clock, w.heap[m]? = some (.map es clock) ∧ es.toList.map (fun e => (e.key, e.val)) = V.map (fun x => (vkey x.1, .int .i64 x.2)) ∧ (V.map (·.1)).Nodup

theorem VMap.lt {w : World} {m : Nat} {V : List (Ver × Int)} (h : VMap w m V) : m < w.heap.size := by
  obtain ⟨es, c, h, _⟩ := h
  rcases Nat.lt_or_ge m w.heap.size with h' | h'
  · exact h'
  · simp [Array.getElem?_eq_none h'] at h
theorem VMap.of_block {w w' : World} {m : Nat} {V : List (Ver × Int)} (h : VMap w m V) (hb : w'.heap[m]? = w.heap[m]?) : VMap w' m V := by
  obtain ⟨es, c, h, r⟩ := h
  exact ⟨es, c, hb.trans h, r⟩
theorem VMap.below {w w' : World} {m : Nat} {V : List (Ver × Int)} (h : VMap w m V) (hb : Below w.heap.size w w') : VMap w' m V := h.of_block (hb.block _ h.lt)

theorem getV_none {V : List (Ver × Int)} {p : Ver} (h : p ∉ V.map (·.1)) : getV V p = 0 := by
  unfold getV
  rw [List.find?_eq_none.2 (fun x hx => by
    simp only [decide_eq_true_eq]
    rintro rfl
    exact h (List.mem_map.2 ⟨x, hx, rfl⟩))]
  rfl

theorem VMap.lookup {w : World} {m : Nat} {V : List (Ver × Int)} (h : VMap w m V) (p : Ver) :
    (Instr.lookup 139 (.map (some m)) (vkey p) false).run Tryz.prog w = .ok (.int .i64 (getV V p)) w := by
  obtain ⟨es, c, hb, hk, _⟩ := h
  have hf := run_vfind p w es.toList V hk
  by_cases hp : p ∈ V.map (·.1)
  · obtain ⟨j, h1, h2, h4⟩ := hf.2 hp
    simp [Instr.lookup, run_underlying Tryz.underlying139, MapKept.run_getObj_map hb, run_check_vkey, h4, Result.andThen]
  · rw [getV_none hp]
    simp [Instr.lookup, run_underlying Tryz.underlying139, MapKept.run_getObj_map hb, run_check_vkey, hf.1 hp, Result.andThen, vzero]

theorem stays_vkey (p : Ver) (w : World) : (Instr.keyThatStays (vkey p) (vkey p)).run Tryz.prog w = .ok (vkey p) w := by
  have h : Instr.sameBits 10000 (vkey p) (vkey p) = true := by
    unfold vkey Instr.sameBits
    simp [Instr.sameBits, ba_beq]
  simp [Instr.keyThatStays, h]

theorem VMap.update {w : World} {m : Nat} {V : List (Ver × Int)} (h : VMap w m V) (p : Ver) (n : Int) :
    ∃ w1 : World, (Instr.mapUpdate 139 (.map (some m)) (vkey p) (.int .i64 n)).run Tryz.prog w = .ok () w1 ∧ VMap w1 m (putV V p n) ∧ (∀ k, k ≠ m → w1.heap[k]? = w.heap[k]?) ∧ w1.heap.size = w.heap.size ∧ w1.os = w.os ∧ w1.tape = w.tape ∧ w1.output = w.output := by
  obtain ⟨es, c, hb, hk, hn⟩ := h
  have hf := run_vfind p w es.toList V hk
  have hlt : m < w.heap.size := blk_lt' hb
  by_cases hp : p ∈ V.map (·.1)
  · obtain ⟨j, h1, h2, h4⟩ := hf.2 hp
    have hjV : j < V.length := by have := (List.getElem?_eq_some_iff.1 h1).1; simpa using this
    have hlen : es.toList.length = V.length := by have := congrArg List.length hk; simpa using this
    have hj : j < es.size := by rw [← Array.length_toList]; omega
    have hkey : (es[j]?.map (·.key)).getD (vkey p) = vkey p := by
      have h5 : (es.toList.map (fun e => (e.key, e.val)))[j]? = (V.map (fun x => (vkey x.1, (.int .i64 x.2 : Value))))[j]? := by rw [hk]
      have h6 : (V[j]).1 = p := by
        rw [List.getElem?_map, List.getElem?_eq_getElem hjV] at h1
        simpa using h1
      rw [List.getElem?_map, List.getElem?_map, List.getElem?_eq_getElem hjV, List.getElem?_eq_getElem (by rw [hlen]; exact hjV)] at h5
      simp at h5
      rw [Array.getElem?_eq_getElem hj]
      simp [h5.1, h6]
    refine ⟨{ w with heap := w.heap.setIfInBounds m (.map (es.modify j (fun e => { e with key := vkey p, val := .int .i64 n })) c) }, by simp [Instr.mapUpdate, run_underlying Tryz.underlying139, MapKept.run_getObj_map hb, run_check_vkey, h4, Result.andThen, hkey, stays_vkey, MapKept.run_setObj_map _ hb], ?_, fun k hk' => by simp [Array.getElem?_setIfInBounds_ne (Ne.symm hk')], by simp, rfl, rfl, rfl⟩
    refine ⟨es.modify j (fun e => { e with key := vkey p, val := .int .i64 n }), c, by simp [Array.getElem?_setIfInBounds, hlt], ?_, ?_⟩
    · apply List.ext_getElem?
      intro i
      have h5 : (es.toList.map (fun e => (e.key, e.val)))[i]? = (V.map (fun x => (vkey x.1, (.int .i64 x.2 : Value))))[i]? := by rw [hk]
      simp only [putV, if_pos (hasV_iff.2 hp), List.getElem?_map, Array.getElem?_toList, Array.getElem?_modify] at h5 ⊢
      by_cases hij : j = i
      · subst hij
        have h6 : (V[j]).1 = p := by
          rw [List.getElem?_map, List.getElem?_eq_getElem hjV] at h1
          simpa using h1
        simp [Array.getElem?_eq_getElem hj, List.getElem?_eq_getElem hjV, h6]
      · rw [if_neg hij]
        cases hV : V[i]? with
        | none => rw [hV] at h5; simpa using h5
        | some x =>
          have hx : x.1 ≠ p := by
            intro e
            have e1 : (V.map (·.1))[i]? = some p := by simp [hV, e]
            have a1 := (List.getElem?_eq_some_iff.1 h1)
            have a2 := (List.getElem?_eq_some_iff.1 e1)
            obtain ⟨b1, c1⟩ := a1
            obtain ⟨b2, c2⟩ := a2
            exact hij ((List.getElem_inj (h₀ := b1) (h₁ := b2) hn).1 (c1.trans c2.symm))
          rw [hV] at h5
          simp [hx]
          simpa using h5
    · have : (putV V p n).map (·.1) = V.map (·.1) := by
        simp only [putV, if_pos (hasV_iff.2 hp), List.map_map]
        apply List.map_congr_left
        intro x _
        by_cases hx : x.1 = p <;> simp [hx]
      rw [this]
      exact hn
  · refine ⟨{ w with heap := w.heap.setIfInBounds m (.map (es.push ⟨vkey p, .int .i64 n, c⟩) (c + 1)) }, by simp [Instr.mapUpdate, run_underlying Tryz.underlying139, MapKept.run_getObj_map hb, run_check_vkey, hf.1 hp, Result.andThen, MapKept.run_setObj_map _ hb], ?_, fun k hk' => by simp [Array.getElem?_setIfInBounds_ne (Ne.symm hk')], by simp, rfl, rfl, rfl⟩
    refine ⟨es.push ⟨vkey p, .int .i64 n, c⟩, c + 1, by simp [Array.getElem?_setIfInBounds, hlt], by simp [putV, if_neg (fun h => hp (hasV_iff.1 h)), hk], ?_⟩
    simp only [putV, if_neg (fun h => hp (hasV_iff.1 h)), List.map_append, List.map_cons, List.map_nil]
    rw [List.nodup_append]
    exact ⟨hn, by simp, fun a ha b hb' e => by simp at hb'; subst hb'; subst e; exact hp ha⟩

theorem VMap.new (w : World) : VMap (w.alloc (.map #[] 0)) w.heap.size [] := ⟨#[], 0, heap_alloc_new w _, by simp, by simp⟩

end Go.Proofs.YtbddcodljmglfaaGreatDoor
