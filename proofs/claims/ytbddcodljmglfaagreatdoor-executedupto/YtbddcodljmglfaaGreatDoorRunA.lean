/- What the operations on a map from versions to numbers do, said of the list of its entries: look up, set. And what follows on it. -/
import Derived.Test.YtbddcodljmglfaaGreatDoorMathA
import Derived.Test.YtbddcodljmglfaaGreatDoorMemA
import Derived.WalkKit
import Derived.WalkSpells
import Derived.WalkLawsBesides
import Derived.MapKept
set_option linter.unusedSimpArgs false
set_option linter.unusedVariables false
namespace Go.Proofs.YtbddcodljmglfaaGreatDoor
open Go.RowKit

def vkey (p : Ver) : Value := .agg #[.string p.1, .int .i64 (p.2 : Int)]

theorem vpart0 (a b : Value) (w : World) : (part 9 #[a, b] 0).run Tryz.prog w = .ok a w := by kernel_rfl
theorem vpart1 (a b : Value) (w : World) : (part 3 #[a, b] 1).run Tryz.prog w = .ok b w := by kernel_rfl
theorem blk_lt' {w : World} {m : Nat} {o : Obj} (h : w.heap[m]? = some o) : m < w.heap.size := by
  rcases Nat.lt_or_ge m w.heap.size with h' | h'
  · exact h'
  · simp [Array.getElem?_eq_none h'] at h
theorem vzero (w : World) : (zeroValue 2).run Tryz.prog w = .ok (.int .i64 0) w := by kernel_rfl
theorem vstood : Tryz.prog.stoodInHeld 111 = false := by kernel_rfl

theorem run_eq_vint (d : Nat) (a b : Int) (w : World) : (Op.equalIn (d + 1) 3 (.int .i64 a) (.int .i64 b)).run Tryz.prog w = .ok (a == b) w := by
  unfold Op.equalIn
  simp [run_underlying Tryz.underlying3, Result.andThen]
theorem run_eq_vstr (d : Nat) (a b : BA) (w : World) : (Op.equalIn (d + 1) 9 (.string a) (.string b)).run Tryz.prog w = .ok (a == b) w := by
  unfold Op.equalIn
  simp [run_underlying Tryz.underlying9, Result.andThen]

theorem ba_beq (a b : BA) : (a == b) = decide (a = b) := by
  obtain ⟨x⟩ := a
  obtain ⟨y⟩ := b
  have h : ((⟨x⟩ : ByteArray) == ⟨y⟩) = (x == y) := rfl
  rw [h]
  by_cases e : x = y
  · subst e
    simp
  · have e2 : (⟨x⟩ : ByteArray) ≠ ⟨y⟩ := fun h => e (by injection h)
    simp [e, e2]
theorem run_eq_vkey (p q : Ver) (w : World) : (Op.equal 111 (vkey p) (vkey q)).run Tryz.prog w = .ok (decide (p = q)) w := by
  unfold Op.equal Op.maxDepth vkey
  unfold Op.equalIn
  simp [run_underlying Tryz.underlying111, Result.andThen, vstood, vpart0, vpart1, run_eq_vstr, run_eq_vint, ba_beq]
  by_cases h1 : p.1 = q.1
  · by_cases h2 : p.2 = q.2
    · have e : p = q := Prod.ext h1 h2
      subst e
      simp [run_eq_vint, Result.andThen, vpart1]
    · have e : p ≠ q := fun e => h2 (by rw [e])
      have h3 : ((p.2 : Int) == (q.2 : Int)) = false := by simp; omega
      simp [h1, h3, e, run_eq_vint, Result.andThen, vpart1]
  · have e : p ≠ q := fun e => h1 (by rw [e])
    simp [h1, e, Result.andThen]

theorem run_check_vint (e : Bool) (d : Nat) (a : Int) (w : World) : (Instr.checkKey e (d + 1) 3 (.int .i64 a)).run Tryz.prog w = .ok () w := by
  unfold Instr.checkKey
  simp [run_underlying Tryz.underlying3, Result.andThen]
theorem run_check_vstr (e : Bool) (d : Nat) (a : BA) (w : World) : (Instr.checkKey e (d + 1) 9 (.string a)).run Tryz.prog w = .ok () w := by
  unfold Instr.checkKey
  simp [run_underlying Tryz.underlying9, Result.andThen]
theorem run_check_vkey (e : Bool) (p : Ver) (w : World) : (Instr.checkKey e 10000 111 (vkey p)).run Tryz.prog w = .ok () w := by
  unfold Instr.checkKey vkey
  simp [run_underlying Tryz.underlying111, Result.andThen, vpart0, vpart1, run_check_vstr, run_check_vint]

/-- What a list of entries has at a key: the first one's number. -/
def getV (V : List (Ver × Int)) (p : Ver) : Int := ((V.find? fun x => decide (p = x.1)).map (·.2)).getD 0
def hasV (V : List (Ver × Int)) (p : Ver) : Bool := V.any fun x => decide (x.1 = p)
theorem hasV_iff {V : List (Ver × Int)} {p : Ver} : hasV V p = true ↔ p ∈ V.map (·.1) := by
  simp only [hasV, List.any_eq_true, decide_eq_true_eq, List.mem_map]
/-- A key is set. -/
def putV (V : List (Ver × Int)) (p : Ver) (n : Int) : List (Ver × Int) := if hasV V p = true then V.map (fun x => if x.1 = p then (p, n) else x) else V ++ [(p, n)]

/-- The first entry at a key. -/
theorem run_vasking (p : Ver) (w : World) : ∀ (l : List MapEntry) (V : List (Ver × Int)) (i : Nat), l.map (fun e => (e.key, e.val)) = V.map (fun x => (vkey x.1, .int .i64 x.2)) →
    (p ∉ V.map (·.1) → (Instr.findAsking 111 (vkey p) l i).run Tryz.prog w = .ok none w) ∧
    (p ∈ V.map (·.1) → ∃ j, (V.map (·.1))[j]? = some p ∧ (∀ j', j' < j → (V.map (·.1))[j']? ≠ some p) ∧ (Instr.findAsking 111 (vkey p) l i).run Tryz.prog w = .ok (some (i + j, .int .i64 (getV V p))) w)
  | [], V, i, h => by
    have : V = [] := by cases V <;> simp_all
    subst this
    simp [Instr.findAsking]
  | e :: l, [], i, h => by simp at h
  | e :: l, q :: V, i, h => by
    simp only [List.map_cons, List.cons.injEq, Prod.mk.injEq] at h
    obtain ⟨⟨hk, hv⟩, ht⟩ := h
    have ih := run_vasking p w l V (i + 1) ht
    by_cases hq : p = q.1
    · refine ⟨fun hn => absurd (by simp [hq]) hn, fun _ => ⟨0, by simp [hq], fun _ h' => absurd h' (by omega), ?_⟩⟩
      have hg : getV (q :: V) p = q.2 := by simp [getV, hq]
      rw [hg]
      simp [Instr.findAsking, hk, run_eq_vkey, Result.andThen, hq, hv]
    · have hg : getV (q :: V) p = getV V p := by simp [getV, hq]
      refine ⟨fun hn => ?_, fun hm => ?_⟩
      · have := ih.1 (fun h' => hn (by rw [List.map_cons]; exact List.mem_cons_of_mem _ h'))
        simp [Instr.findAsking, hk, run_eq_vkey, Result.andThen, hq, this]
      · have hm' : p ∈ V.map (·.1) := by
          rw [List.map_cons] at hm
          rcases List.mem_cons.1 hm with h' | h'
          · exact absurd h' hq
          · exact h'
        obtain ⟨j, h2, h3, h4⟩ := ih.2 hm'
        refine ⟨j + 1, by simpa using h2, ?_, ?_⟩
        · intro j' hj'
          cases j' with
          | zero => simpa using fun e => hq e.symm
          | succ j' => simpa using h3 j' (by omega)
        · rw [hg]
          simp [Instr.findAsking, hk, run_eq_vkey, Result.andThen, hq, h4]
          omega

theorem run_vfind (p : Ver) (w : World) (l : List MapEntry) (V : List (Ver × Int)) (h : l.map (fun e => (e.key, e.val)) = V.map (fun x => (vkey x.1, .int .i64 x.2))) :
    (p ∉ V.map (·.1) → (Instr.findKey 111 (vkey p) l).run Tryz.prog w = .ok none w) ∧
    (p ∈ V.map (·.1) → ∃ j, (V.map (·.1))[j]? = some p ∧ (∀ j', j' < j → (V.map (·.1))[j']? ≠ some p) ∧ (Instr.findKey 111 (vkey p) l).run Tryz.prog w = .ok (some (j, .int .i64 (getV V p))) w) := by
  have hr := run_vasking p w l V 0 h
  have e : (Instr.findKey 111 (vkey p) l).run Tryz.prog w = (Instr.findAsking 111 (vkey p) l 0).run Tryz.prog w := by
    cases l with
    | nil => simp [Instr.findKey, Instr.findNow, Instr.findAsking, run_underlying Tryz.underlying111, Result.andThen]
    | cons a l => simp [Instr.findKey, Instr.findNow, Instr.sameNow, run_underlying Tryz.underlying111, Result.andThen]
  rw [e]
  refine ⟨hr.1, fun hm => ?_⟩
  obtain ⟨j, h2, h3, h4⟩ := hr.2 hm
  exact ⟨j, h2, h3, by simpa using h4⟩

/-- Block m is a map that holds V. -/
def VMap (w : World) (m : Nat) (V : List (Ver × Int)) : Prop :=
  ∃ es clock, w.heap[m]? = some (.map es clock) ∧ es.toList.map (fun e => (e.key, e.val)) = V.map (fun x => (vkey x.1, .int .i64 x.2)) ∧ (V.map (·.1)).Nodup

theorem VMap.lt {w : World} {m : Nat} {V : List (Ver × Int)} (h : VMap w m V) : m < w.heap.size := by
  obtain ⟨es, c, h, _⟩ := h
  rcases Nat.lt_or_ge m w.heap.size with h' | h'
  · exact h'
  · simp [Array.getElem?_eq_none h'] at h
theorem VMap.of_block {w w' : World} {m : Nat} {V : List (Ver × Int)} (h : VMap w m V) (hb : w'.heap[m]? = w.heap[m]?) : VMap w' m V := by
  obtain ⟨es, c, h, r⟩ := h
  exact ⟨es, c, hb.trans h, r⟩
theorem VMap.below {w w' : World} {m : Nat} {V : List (Ver × Int)} (h : VMap w m V) (hb : Below w.heap.size w w') : VMap w' m V := h.of_block (hb.block _ h.lt)

theorem getV_none {V : List (Ver × Int)} {p : Ver} (h : p ∉ V.map (·.1)) : getV V p = 0 := by
  unfold getV
  rw [List.find?_eq_none.2 (fun x hx => by
    simp only [decide_eq_true_eq]
    rintro rfl
    exact h (List.mem_map.2 ⟨x, hx, rfl⟩))]
  rfl

theorem VMap.lookup {w : World} {m : Nat} {V : List (Ver × Int)} (h : VMap w m V) (p : Ver) :
    (Instr.lookup 139 (.map (some m)) (vkey p) false).run Tryz.prog w = .ok (.int .i64 (getV V p)) w := by
  obtain ⟨es, c, hb, hk, _⟩ := h
  have hf := run_vfind p w es.toList V hk
  by_cases hp : p ∈ V.map (·.1)
  · obtain ⟨j, h1, h2, h4⟩ := hf.2 hp
    simp [Instr.lookup, run_underlying Tryz.underlying139, MapKept.run_getObj_map hb, run_check_vkey, h4, Result.andThen]
  · rw [getV_none hp]
    simp [Instr.lookup, run_underlying Tryz.underlying139, MapKept.run_getObj_map hb, run_check_vkey, hf.1 hp, Result.andThen, vzero]

theorem stays_vkey (p : Ver) (w : World) : (Instr.keyThatStays (vkey p) (vkey p)).run Tryz.prog w = .ok (vkey p) w := by
  have h : Instr.sameBits 10000 (vkey p) (vkey p) = true := by
    unfold vkey Instr.sameBits
    simp [Instr.sameBits, ba_beq]
  simp [Instr.keyThatStays, h]

theorem VMap.update {w : World} {m : Nat} {V : List (Ver × Int)} (h : VMap w m V) (p : Ver) (n : Int) :
    ∃ w1 : World, (Instr.mapUpdate 139 (.map (some m)) (vkey p) (.int .i64 n)).run Tryz.prog w = .ok () w1 ∧ VMap w1 m (putV V p n) ∧ (∀ k, k ≠ m → w1.heap[k]? = w.heap[k]?) ∧ w1.heap.size = w.heap.size ∧ w1.os = w.os ∧ w1.tape = w.tape ∧ w1.output = w.output := by
  obtain ⟨es, c, hb, hk, hn⟩ := h
  have hf := run_vfind p w es.toList V hk
  have hlt : m < w.heap.size := blk_lt' hb
  by_cases hp : p ∈ V.map (·.1)
  · obtain ⟨j, h1, h2, h4⟩ := hf.2 hp
    have hjV : j < V.length := by have := (List.getElem?_eq_some_iff.1 h1).1; simpa using this
    have hlen : es.toList.length = V.length := by have := congrArg List.length hk; simpa using this
    have hj : j < es.size := by rw [← Array.length_toList]; omega
    have hkey : (es[j]?.map (·.key)).getD (vkey p) = vkey p := by
      have h5 : (es.toList.map (fun e => (e.key, e.val)))[j]? = (V.map (fun x => (vkey x.1, (.int .i64 x.2 : Value))))[j]? := by rw [hk]
      have h6 : (V[j]).1 = p := by
        rw [List.getElem?_map, List.getElem?_eq_getElem hjV] at h1
        simpa using h1
      rw [List.getElem?_map, List.getElem?_map, List.getElem?_eq_getElem hjV, List.getElem?_eq_getElem (by rw [hlen]; exact hjV)] at h5
      simp at h5
      rw [Array.getElem?_eq_getElem hj]
      simp [h5.1, h6]
    refine ⟨{ w with heap := w.heap.setIfInBounds m (.map (es.modify j (fun e => { e with key := vkey p, val := .int .i64 n })) c) }, by simp [Instr.mapUpdate, run_underlying Tryz.underlying139, MapKept.run_getObj_map hb, run_check_vkey, h4, Result.andThen, hkey, stays_vkey, MapKept.run_setObj_map _ hb], ?_, fun k hk' => by simp [Array.getElem?_setIfInBounds_ne (Ne.symm hk')], by simp, rfl, rfl, rfl⟩
    refine ⟨es.modify j (fun e => { e with key := vkey p, val := .int .i64 n }), c, by simp [Array.getElem?_setIfInBounds, hlt], ?_, ?_⟩
    · apply List.ext_getElem?
      intro i
      have h5 : (es.toList.map (fun e => (e.key, e.val)))[i]? = (V.map (fun x => (vkey x.1, (.int .i64 x.2 : Value))))[i]? := by rw [hk]
      simp only [putV, if_pos (hasV_iff.2 hp), List.getElem?_map, Array.getElem?_toList, Array.getElem?_modify] at h5 ⊢
      by_cases hij : j = i
      · subst hij
        have h6 : (V[j]).1 = p := by
          rw [List.getElem?_map, List.getElem?_eq_getElem hjV] at h1
          simpa using h1
        simp [Array.getElem?_eq_getElem hj, List.getElem?_eq_getElem hjV, h6]
      · rw [if_neg hij]
        cases hV : V[i]? with
        | none => rw [hV] at h5; simpa using h5
        | some x =>
          have hx : x.1 ≠ p := by
            intro e
            have e1 : (V.map (·.1))[i]? = some p := by simp [hV, e]
            have a1 := (List.getElem?_eq_some_iff.1 h1)
            have a2 := (List.getElem?_eq_some_iff.1 e1)
            obtain ⟨b1, c1⟩ := a1
            obtain ⟨b2, c2⟩ := a2
            exact hij ((List.getElem_inj (h₀ := b1) (h₁ := b2) hn).1 (c1.trans c2.symm))
          rw [hV] at h5
          simp [hx]
          simpa using h5
    · have : (putV V p n).map (·.1) = V.map (·.1) := by
        simp only [putV, if_pos (hasV_iff.2 hp), List.map_map]
        apply List.map_congr_left
        intro x _
        by_cases hx : x.1 = p <;> simp [hx]
      rw [this]
      exact hn
  · refine ⟨{ w with heap := w.heap.setIfInBounds m (.map (es.push ⟨vkey p, .int .i64 n, c⟩) (c + 1)) }, by simp [Instr.mapUpdate, run_underlying Tryz.underlying139, MapKept.run_getObj_map hb, run_check_vkey, hf.1 hp, Result.andThen, MapKept.run_setObj_map _ hb], ?_, fun k hk' => by simp [Array.getElem?_setIfInBounds_ne (Ne.symm hk')], by simp, rfl, rfl, rfl⟩
    refine ⟨es.push ⟨vkey p, .int .i64 n, c⟩, c + 1, by simp [Array.getElem?_setIfInBounds, hlt], by simp [putV, if_neg (fun h => hp (hasV_iff.1 h)), hk], ?_⟩
    simp only [putV, if_neg (fun h => hp (hasV_iff.1 h)), List.map_append, List.map_cons, List.map_nil]
    rw [List.nodup_append]
    exact ⟨hn, by simp, fun a ha b hb' e => by simp at hb'; subst hb'; subst e; exact hp ha⟩

theorem VMap.new (w : World) : VMap (w.alloc (.map #[] 0)) w.heap.size [] := ⟨#[], 0, heap_alloc_new w _, by simp, by simp⟩

end Go.Proofs.YtbddcodljmglfaaGreatDoor

namespace Go.Proofs.YtbddcodljmglfaaGreatDoor
open Go.RowKit

def wr64 (n : Int) : Int := wrap64 n
/-- What a word makes of two numbers. -/
def reckonG (k : Nat) (y z : Int) : Int :=
  if k = 2 then wr64 (y + z) else if k = 3 then wr64 (y - z) else if k = 4 then wr64 (y * z) else if k = 5 then (if y < z then 1 else 0) else y
/-- The two numbers that a line takes. -/
def takenG (V : List (Ver × Int)) (l : LineG) : Int × Int := match l.takes with
  | [] => (l.number, 0)
  | [a] => (getV V a, 0)
  | a :: b :: _ => (getV V a, getV V b)
def nextG (l : LineG) (y : Int) : Nat := if l.word = 8 ∧ y = 0 then l.leads.getD 1 0 else l.leads.getD 0 0
structure RunR where
  ended : Bool
  value : Int
  trace : List Int
def linesAt (bs : List BlockG) (b : Nat) : List LineG := ((bs[b]?).map (·.lines)).getD []
def startG (A : List Ver) (xs : List Int) : List (Ver × Int) := (A.zip xs).foldl (fun V x => putV V x.1 x.2) []
/-! What more fuel does. -/
def fits64 (n : Int) : Prop := -9223372036854775808 ≤ n ∧ n ≤ 9223372036854775807
theorem numB_fits {s : BA} {v : Int} (h : numB s = some v) : fits64 v := by
  rw [numB_eq] at h
  unfold numR at h
  unfold fits64
  repeat' split at h
  all_goals first | (simp at h; omega) | cases h
def FitV (V : List (Ver × Int)) : Prop := ∀ x ∈ V, fits64 x.2
theorem fits0 : fits64 0 := ⟨by decide, by decide⟩
theorem FitV.get {V : List (Ver × Int)} (h : FitV V) (p : Ver) : fits64 (getV V p) := by
  unfold getV
  cases hq : V.find? (fun x => decide (p = x.1)) with
  | none => exact fits0
  | some x => exact h x (List.mem_of_find?_eq_some hq)
theorem FitV.put {V : List (Ver × Int)} (h : FitV V) (p : Ver) {n : Int} (hn : fits64 n) : FitV (putV V p n) := by
  unfold putV
  split
  · intro x hx
    obtain ⟨y, hy, rfl⟩ := List.mem_map.1 hx
    split
    · exact hn
    · exact h y hy
  · intro x hx
    rcases List.mem_append.1 hx with hx | hx
    · exact h x hx
    · rw [List.mem_singleton] at hx; subst hx; exact hn
theorem FitV.start (A : List Ver) (xs : List Int) (hx : ∀ x ∈ xs, fits64 x) : FitV (startG A xs) := by
  unfold startG
  have aux : ∀ (l : List (Ver × Int)) (V : List (Ver × Int)), FitV V → (∀ y ∈ l, fits64 y.2) → FitV (l.foldl (fun V x => putV V x.1 x.2) V) := by
    intro l
    induction l with
    | nil => intro V h _; exact h
    | cons y r ih => intro V h hl; exact ih _ (h.put y.1 (hl y (by simp))) (fun z hz => hl z (List.mem_cons_of_mem _ hz))
  exact aux _ _ (fun x hx => by cases hx) (fun y hy => hx _ (List.of_mem_zip hy).2)
theorem wr64_fits (n : Int) : fits64 (wr64 n) := by
  unfold fits64 wr64 wrap64
  omega
theorem reckon_fits (k : Nat) {y z : Int} (hy : fits64 y) : fits64 (reckonG k y z) := by
  unfold reckonG
  repeat' split
  all_goals first | exact wr64_fits _ | exact hy | exact ⟨by decide, by decide⟩

/-! What is known of lines that were read. -/
theorem fill_shape : ∀ (tg : Nat) (ps : List Nat) (bs : List BA) (l l' : LineG), (∀ p ∈ ps, p = 1 ∨ p = 2 ∨ p = 3 ∨ p = 4) → fillG tg ps bs l = some l' →
    l'.word = l.word ∧ l'.takes.length = l.takes.length + ps.count 2 ∧ l'.leads.length = l.leads.length + ps.count 4 ∧ (fits64 l.number → fits64 l'.number)
  | tg, [], [], l, l', _, h => by simp [fillG] at h; subst h; simp
  | tg, [], _ :: _, l, l', _, h => by simp [fillG] at h
  | tg, _ :: _, [], l, l', _, h => by simp [fillG] at h
  | tg, p :: ps, b :: bs, l, l', hp, h => by
    simp only [fillG] at h
    split at h
    · rename_i l2 h2
      obtain ⟨i1, i2, i3, i4⟩ := fill_shape tg ps bs l2 l' (fun q hq => hp q (List.mem_cons_of_mem _ hq)) h
      have := hp p (by simp)
      have key : l2.word = l.word ∧ l2.takes.length = l.takes.length + (if p = 2 then 1 else 0) ∧ l2.leads.length = l.leads.length + (if p = 4 then 1 else 0) ∧ (fits64 l.number → fits64 l2.number) := by
        unfold addPart at h2
        rcases this with rfl | rfl | rfl | rfl
        all_goals simp at h2
        all_goals (split at h2)
        all_goals (first | (injection h2 with h2; subst h2; exact ⟨rfl, by simp, by simp, fun h => h⟩) | (rename_i v hv; injection h2 with h2; subst h2; exact ⟨rfl, by simp, by simp, fun _ => numB_fits hv⟩) | cases h2)
      rw [i1, i2, i3, key.1, key.2.1, key.2.2.1, List.count_cons, List.count_cons]
      refine ⟨rfl, ?_, ?_, fun h => i4 (key.2.2.2 h)⟩
      · by_cases h2 : p = 2 <;> simp [h2] <;> omega
      · by_cases h4 : p = 4 <;> simp [h4] <;> omega
    · cases h
theorem parts_four : ∀ k : Fin 10, ∀ p ∈ partsOf k.val, p = 1 ∨ p = 2 ∨ p = 3 ∨ p = 4 := by decide
theorem parts_count : ∀ k : Fin 10, (partsOf k.val).count 2 ≤ 2 ∧ (k.val = 7 → (partsOf k.val).count 4 = 1) ∧ (k.val = 8 → (partsOf k.val).count 4 = 2) := by decide
theorem kind_lt {s : BA} {k : Nat} (h : kindOf s = some k) : k < 10 := by
  unfold kindOf at h
  repeat' split at h
  all_goals first | (injection h with h; omega) | cases h
/-- How a line is made. -/
structure LineOK (l : LineG) : Prop where
  num : fits64 l.number
  word : l.word < 10
  takes : l.takes.length ≤ 2
  one : l.word = 7 → l.leads.length = 1
  two : l.word = 8 → l.leads.length = 2
theorem lineOf_ok {tg : Nat} {ws : List BA} {l : LineG} (h : lineOf tg ws = some l) : LineOK l := by
  cases ws with
  | nil => simp [lineOf] at h
  | cons x r =>
    simp only [lineOf] at h
    split at h
    · rename_i k hk
      have hlt := kind_lt hk
      obtain ⟨h1, h2, h3, h4⟩ := fill_shape tg _ _ _ _ (parts_four ⟨k, hlt⟩) h
      have hc := parts_count ⟨k, hlt⟩
      simp only [List.length_nil, Nat.zero_add] at h1 h2 h3
      exact ⟨h4 fits0, by rw [h1]; exact hlt, by rw [h2]; exact hc.1, fun e => by rw [h1] at e; rw [h3]; exact hc.2.1 e, fun e => by rw [h1] at e; rw [h3]; exact hc.2.2 e⟩
    · cases h

theorem taken_fits {V : List (Ver × Int)} {l : LineG} (h : FitV V) (ho : LineOK l) : fits64 (takenG V l).1 := by
  unfold takenG
  split
  · exact ho.num
  · exact h.get _
  · exact h.get _
theorem lostB_none {n : Nat} {b : BlockG} : ∀ (ls : List LineG) (j : Nat), lostB n b j ls = none → ∀ l ∈ ls, ∀ k ∈ l.leads, k < n
  | [], j, _, l, hl => by simp at hl
  | x :: r, j, h, l, hl => by
    unfold lostB at h
    split at h
    · cases h
    · rename_i hh
      rcases List.mem_cons.1 hl with rfl | hl
      · intro k hk
        rcases Nat.lt_or_ge k n with h' | h'
        · exact h'
        · exact absurd (List.any_eq_true.2 ⟨k, hk, by simpa using h'⟩) hh
      · exact lostB_none r (j + 1) h l hl
theorem lostG_none {n : Nat} : ∀ (bs : List BlockG), lostG n bs = none → ∀ b ∈ bs, ∀ l ∈ b.lines, ∀ k ∈ l.leads, k < n
  | [], _, b, hb => by simp at hb
  | x :: r, h, b, hb => by
    unfold lostG at h
    split at h
    · cases h
    · rename_i hx
      rcases List.mem_cons.1 hb with rfl | hb
      · exact lostB_none _ 0 hx
      · exact lostG_none r h b hb
end Go.Proofs.YtbddcodljmglfaaGreatDoor
