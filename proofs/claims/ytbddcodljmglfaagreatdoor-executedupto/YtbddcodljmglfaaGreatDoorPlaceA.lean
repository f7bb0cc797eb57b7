/- What the operations on a map from versions to places do, said of the list of its entries: look up, set. And what follows on it. -/
import Derived.Test.YtbddcodljmglfaaGreatDoorRunA
import Derived.Test.YtbddcodljmglfaaGreatDoorLeafA
import Derived.Test.YtbddcodljmglfaaGreatDoorGraphC
import Derived.Deep.RegionHeld3
set_option linter.unusedSimpArgs false
set_option linter.unusedVariables false
namespace Go.Proofs.YtbddcodljmglfaaGreatDoor
open Go.RowKit

def placeV (p : Nat × Nat) : Value := .agg #[.int .i64 (p.1 : Int), .int .i64 (p.2 : Int)]
/-- What a list of entries has at a key: the first one's place. -/
def findP (V : List (Ver × (Nat × Nat))) (p : Ver) : Option (Nat × Nat) := (V.find? fun x => decide (p = x.1)).map (·.2)
theorem findP_some {V : List (Ver × (Nat × Nat))} {p : Ver} : (findP V p).isSome = true ↔ p ∈ V.map (·.1) := by
  unfold findP
  rw [Option.isSome_map, List.find?_isSome]
  simp only [decide_eq_true_eq, List.mem_map]
  constructor
  · rintro ⟨x, hx, rfl⟩; exact ⟨x, hx, rfl⟩
  · rintro ⟨x, hx, rfl⟩; exact ⟨x, hx, rfl⟩
theorem findP_none {V : List (Ver × (Nat × Nat))} {p : Ver} (h : p ∉ V.map (·.1)) : findP V p = none := by
  cases hq : findP V p with
  | none => rfl
  | some x => exact absurd (findP_some.1 (by rw [hq]; rfl)) h
theorem findP_snoc {V : List (Ver × (Nat × Nat))} {p q : Ver} {x : Nat × Nat} (h : p ∉ V.map (·.1)) : findP (V ++ [(p, x)]) q = if q = p then some x else findP V q := by
  unfold findP
  rw [List.find?_append]
  by_cases hq : q = p
  · subst hq
    have : V.find? (fun x => decide (q = x.1)) = none := by
      have := findP_none h
      unfold findP at this
      simpa using this
    rw [this]
    simp
  · simp [hq]
theorem pzero (w : World) : (zeroValue 217).run Tryz.prog w = .ok (.agg #[.int .i64 0, .int .i64 0]) w := by kernel_rfl

/-- The first entry at a key. -/
theorem run_pasking (p : Ver) (w : World) : ∀ (l : List MapEntry) (V : List (Ver × (Nat × Nat))) (i : Nat), l.map (fun e => (e.key, e.val)) = V.map (fun x => (vkey x.1, placeV x.2)) →
    (p ∉ V.map (·.1) → (Instr.findAsking 111 (vkey p) l i).run Tryz.prog w = .ok none w) ∧
    (p ∈ V.map (·.1) → ∃ j, (V.map (·.1))[j]? = some p ∧ (∀ j', j' < j → (V.map (·.1))[j']? ≠ some p) ∧ (Instr.findAsking 111 (vkey p) l i).run Tryz.prog w = .ok (some (i + j, placeV ((findP V p).getD (0, 0)))) w)
  | [], V, i, h => by
    have : V = [] := by cases V <;> simp_all
    subst this
    simp [Instr.findAsking]
  | e :: l, [], i, h => by simp at h
  | e :: l, q :: V, i, h => by
    simp only [List.map_cons, List.cons.injEq, Prod.mk.injEq] at h
    obtain ⟨⟨hk, hv⟩, ht⟩ := h
    have ih := run_pasking p w l V (i + 1) ht
    by_cases hq : p = q.1
    · refine ⟨fun hn => absurd (by simp [hq]) hn, fun _ => ⟨0, by simp [hq], fun _ h' => absurd h' (by omega), ?_⟩⟩
      have hg : (findP (q :: V) p).getD (0, 0) = q.2 := by simp [findP, hq]
      rw [hg]
      simp [Instr.findAsking, hk, run_eq_vkey, Result.andThen, hq, hv]
    · have hg : (findP (q :: V) p).getD (0, 0) = (findP V p).getD (0, 0) := by simp [findP, hq]
      refine ⟨fun hn => ?_, fun hm => ?_⟩
      · have := ih.1 (fun h' => hn (by rw [List.map_cons]; exact List.mem_cons_of_mem _ h'))
        simp [Instr.findAsking, hk, run_eq_vkey, Result.andThen, hq, this]
      · have hm' : p ∈ V.map (·.1) := by
          rw [List.map_cons] at hm
          rcases List.mem_cons.1 hm with h' | h'
          · exact absurd h' hq
          · exact h'
        obtain ⟨j, h2, h3, h4⟩ := ih.2 hm'
        refine ⟨j + 1, by simpa using h2, ?_, ?_⟩
        · intro j' hj'
          cases j' with
          | zero => simpa using fun e => hq e.symm
          | succ j' => simpa using h3 j' (by omega)
        · rw [hg]
          simp [Instr.findAsking, hk, run_eq_vkey, Result.andThen, hq, h4]
          omega

theorem run_pfind (p : Ver) (w : World) (l : List MapEntry) (V : List (Ver × (Nat × Nat))) (h : l.map (fun e => (e.key, e.val)) = V.map (fun x => (vkey x.1, placeV x.2))) :
    (p ∉ V.map (·.1) → (Instr.findKey 111 (vkey p) l).run Tryz.prog w = .ok none w) ∧
    (p ∈ V.map (·.1) → ∃ j, (V.map (·.1))[j]? = some p ∧ (∀ j', j' < j → (V.map (·.1))[j']? ≠ some p) ∧ (Instr.findKey 111 (vkey p) l).run Tryz.prog w = .ok (some (j, placeV ((findP V p).getD (0, 0)))) w) := by
  have hr := run_pasking p w l V 0 h
  have e : (Instr.findKey 111 (vkey p) l).run Tryz.prog w = (Instr.findAsking 111 (vkey p) l 0).run Tryz.prog w := by
    cases l with
    | nil => simp [Instr.findKey, Instr.findNow, Instr.findAsking, run_underlying Tryz.underlying111, Result.andThen]
    | cons a l => simp [Instr.findKey, Instr.findNow, Instr.sameNow, run_underlying Tryz.underlying111, Result.andThen]
  rw [e]
  refine ⟨hr.1, fun hm => ?_⟩
  obtain ⟨j, h2, h3, h4⟩ := hr.2 hm
  exact ⟨j, h2, h3, by simpa using h4⟩

/-- Block m is a map that holds V. -/
def PMap (w : World) (m : Nat) (V : List (Ver × (Nat × Nat))) : Prop :=
  ∃ es clock, w.heap[m]? = some (.map es clock) ∧ es.toList.map (fun e => (e.key, e.val)) = V.map (fun x => (vkey x.1, placeV x.2)) ∧ (V.map (·.1)).Nodup
theorem PMap.lt {w : World} {m : Nat} {V : List (Ver × (Nat × Nat))} (h : PMap w m V) : m < w.heap.size := by
  obtain ⟨es, c, h, _⟩ := h
  exact blk_lt' h
theorem PMap.of_block {w w' : World} {m : Nat} {V : List (Ver × (Nat × Nat))} (h : PMap w m V) (hb : w'.heap[m]? = w.heap[m]?) : PMap w' m V := by
  obtain ⟨es, c, h, r⟩ := h
  exact ⟨es, c, hb.trans h, r⟩
theorem PMap.below {w w' : World} {m : Nat} {V : List (Ver × (Nat × Nat))} (h : PMap w m V) (hb : Below w.heap.size w w') : PMap w' m V := h.of_block (hb.block _ h.lt)
theorem PMap.notcells {w : World} {m : Nat} {V : List (Ver × (Nat × Nat))} (h : PMap w m V) {k : Nat} {c : Array Value} {t : TypeId} {f : Nat × Nat} (hk : w.heap[k]? = some (.cells c t f)) : k ≠ m := by
  rintro rfl
  obtain ⟨es, cl, hb, -⟩ := h
  rw [hb] at hk
  cases hk
theorem PMap.lookup {w : World} {m : Nat} {V : List (Ver × (Nat × Nat))} (h : PMap w m V) (p : Ver) :
    (Instr.lookup 183 (.map (some m)) (vkey p) true).run Tryz.prog w = .ok (.tuple #[placeV ((findP V p).getD (0, 0)), .bool (findP V p).isSome]) w := by
  obtain ⟨es, c, hb, hk, _⟩ := h
  have hf := run_pfind p w es.toList V hk
  by_cases hp : p ∈ V.map (·.1)
  · obtain ⟨j, h1, h2, h4⟩ := hf.2 hp
    have := findP_some.2 hp
    simp [Instr.lookup, run_underlying Tryz.underlying183, MapKept.run_getObj_map hb, run_check_vkey, h4, Result.andThen, this]
  · rw [findP_none hp]
    simp [Instr.lookup, run_underlying Tryz.underlying183, MapKept.run_getObj_map hb, run_check_vkey, hf.1 hp, Result.andThen, pzero, placeV]
theorem PMap.update {w : World} {m : Nat} {V : List (Ver × (Nat × Nat))} (h : PMap w m V) (p : Ver) (hp : p ∉ V.map (·.1)) (x : Nat × Nat) :
    ∃ w1 : World, (Instr.mapUpdate 183 (.map (some m)) (vkey p) (placeV x)).run Tryz.prog w = .ok () w1 ∧ PMap w1 m (V ++ [(p, x)]) ∧ (∀ k, k ≠ m → w1.heap[k]? = w.heap[k]?) ∧ w1.heap.size = w.heap.size ∧ w1.os = w.os ∧ w1.tape = w.tape ∧ w1.output = w.output := by
  obtain ⟨es, c, hb, hk, hn⟩ := h
  have hf := run_pfind p w es.toList V hk
  have hlt : m < w.heap.size := blk_lt' hb
  refine ⟨{ w with heap := w.heap.setIfInBounds m (.map (es.push ⟨vkey p, placeV x, c⟩) (c + 1)) }, by simp [Instr.mapUpdate, run_underlying Tryz.underlying183, MapKept.run_getObj_map hb, run_check_vkey, hf.1 hp, Result.andThen, MapKept.run_setObj_map _ hb], ?_, fun k hk' => by simp [Array.getElem?_setIfInBounds_ne (Ne.symm hk')], by simp, rfl, rfl, rfl⟩
  refine ⟨es.push ⟨vkey p, placeV x, c⟩, c + 1, by simp [Array.getElem?_setIfInBounds, hlt], by simp [hk], ?_⟩
  simp only [List.map_append, List.map_cons, List.map_nil]
  rw [List.nodup_append]
  exact ⟨hn, by simp, fun a ha b hb' e => by simp at hb'; subst hb'; subst e; exact hp ha⟩
theorem PMap.new (w : World) : PMap (w.alloc (.map #[] 0)) w.heap.size [] := ⟨#[], 0, heap_alloc_new w _, by simp, by simp⟩

end Go.Proofs.YtbddcodljmglfaaGreatDoor

namespace Go.Proofs.YtbddcodljmglfaaGreatDoor
open Go.RowKit

/-- May a version be set? -/
def mayAdd (V : List (Ver × (Nat × Nat))) (v : Ver) : Bool := !(findP V v).isSome && decide (v.2 ≠ 0)

set_option maxRecDepth 100000 in
set_option maxHeartbeats 4000000 in
theorem padd_no (w : World) (m : Nat) (V : List (Ver × (Nat × Nat))) (v : Ver) (x : Nat × Nat) (h : PMap w m V) (hno : mayAdd V v = false) :
    Calls Tryz.prog 150 #[.map (some m), .agg #[.string v.1, .int .i64 (v.2 : Int)], .agg #[.int .i64 (x.1 : Int), .int .i64 (x.2 : Int)]] w fun e w' => e = .returned (.bool false) ∧ Below w.heap.size w w' := by
  obtain ⟨px, hpx⟩ : ∃ px, px = (findP V v).getD (0, 0) := ⟨_, rfl⟩
  have hL : (Instr.lookup 183 (.map (some m)) (.agg #[.string v.1, .int .i64 (v.2 : Int)]) true).run Tryz.prog ((w.alloc (.cells #[.string v.1, .int .i64 (v.2 : Int)] 111)).alloc (.cells #[.int .i64 (x.1 : Int), .int .i64 (x.2 : Int)] 217)) = .ok (.tuple #[.agg #[.int .i64 (px.1 : Int), .int .i64 (px.2 : Int)], .bool (findP V v).isSome]) ((w.alloc (.cells #[.string v.1, .int .i64 (v.2 : Int)] 111)).alloc (.cells #[.int .i64 (x.1 : Int), .int .i64 (x.2 : Int)] 217)) := by rw [hpx]; exact (h.below (((Below.refl _ _).alloc (Nat.le_refl _) _).alloc (by simp) _)).lookup v
  have hbel : ∀ o, Below w.heap.size w (((w.alloc (.cells #[.string v.1, .int .i64 (v.2 : Int)] 111)).alloc (.cells #[.int .i64 (x.1 : Int), .int .i64 (x.2 : Int)] 217)).alloc o) := fun o => (((Below.refl _ _).alloc (Nat.le_refl _) _).alloc (by simp) _).alloc (by simp; omega) _
  unfold mayAdd at hno
  generalize (findP V v).isSome = tw at *
  clear hpx h
  cases tw with
  | true =>
    clear hno
    go_enter Tryz.func150, Tryz.ntmps150
    go_wp2_with fail
    go_ret
    exact ⟨rfl, hbel _⟩
  | false =>
    have hz : v.2 = 0 := by simpa using hno
    have hz' : ((v.2 : Int) == 0) = true := by rw [beq_iff_eq]; omega
    clear hno hz
    go_enter Tryz.func150, Tryz.ntmps150
    go_wp2_with fail
    go_ret
    exact ⟨rfl, hbel _⟩

set_option maxRecDepth 100000 in
set_option maxHeartbeats 4000000 in
theorem padd_yes (w : World) (m : Nat) (V : List (Ver × (Nat × Nat))) (v : Ver) (x : Nat × Nat) (h : PMap w m V) (hyes : mayAdd V v = true) :
    Calls Tryz.prog 150 #[.map (some m), .agg #[.string v.1, .int .i64 (v.2 : Int)], .agg #[.int .i64 (x.1 : Int), .int .i64 (x.2 : Int)]] w fun e w' => e = .returned (.bool true) ∧ PMap w' m (V ++ [(v, x)]) ∧ Grew w w' (fun k => k = m) := by
  obtain ⟨px, hpx⟩ : ∃ px, px = (findP V v).getD (0, 0) := ⟨_, rfl⟩
  have hno : (findP V v).isSome = false ∧ v.2 ≠ 0 := by unfold mayAdd at hyes; simpa using hyes
  have hnot : v ∉ V.map (·.1) := fun hm => by rw [findP_some.2 hm] at hno; cases hno.1
  have hL : (Instr.lookup 183 (.map (some m)) (.agg #[.string v.1, .int .i64 (v.2 : Int)]) true).run Tryz.prog ((w.alloc (.cells #[.string v.1, .int .i64 (v.2 : Int)] 111)).alloc (.cells #[.int .i64 (x.1 : Int), .int .i64 (x.2 : Int)] 217)) = .ok (.tuple #[.agg #[.int .i64 (px.1 : Int), .int .i64 (px.2 : Int)], .bool false]) ((w.alloc (.cells #[.string v.1, .int .i64 (v.2 : Int)] 111)).alloc (.cells #[.int .i64 (x.1 : Int), .int .i64 (x.2 : Int)] 217)) := by rw [hpx, ← hno.1]; exact (h.below (((Below.refl _ _).alloc (Nat.le_refl _) _).alloc (by simp) _)).lookup v
  have hbel : Below w.heap.size w (((w.alloc (.cells #[.string v.1, .int .i64 (v.2 : Int)] 111)).alloc (.cells #[.int .i64 (x.1 : Int), .int .i64 (x.2 : Int)] 217)).alloc (.cells #[.int .i64 (px.1 : Int), .int .i64 (px.2 : Int)] 217)) := (((Below.refl _ _).alloc (Nat.le_refl _) _).alloc (by simp) _).alloc (by simp; omega) _
  obtain ⟨w4, hU, hPM, hblk, hsz, ho, ht, hout⟩ := (h.below hbel).update v hnot x
  unfold vkey placeV at hU
  have HFIN : Hid (PMap w4 m (V ++ [(v, x)]) ∧ Grew w w4 (fun k => k = m)) := ⟨hPM, ⟨ho.trans hbel.os, ht.trans hbel.tape, hout.trans hbel.output, by rw [hsz]; exact hbel.size, fun k hk hlt => (hblk k hk).trans (hbel.block k hlt)⟩⟩
  have hz' : ((v.2 : Int) == 0) = false := by rw [beq_eq_false_iff_ne]; have := hno.2; omega
  clear hpx h hyes hno hnot hPM hblk hsz ho ht hout hbel
  go_enter Tryz.func150, Tryz.ntmps150
  go_wp2_with fail
  go_ret
  exact ⟨rfl, HFIN.out.1, HFIN.out.2⟩

/-- May a version be taken behind all lines of block b? -/
def behindB (V : List (Ver × (Nat × Nat))) (H : Nat → Nat → Bool) (v : Ver) (b : Nat) : Bool := decide (v.2 = 0) || match findP V v with | some p => H p.1 b | none => false

theorem tab_cells {W : World} {hh n : Nat} {gs : List Nat} {H : Nat → Nat → Bool} {Hd : Nat → Nat → Prop} (h : TabIn W hh n n gs H Hd) {W' : World} (hb : Below W.heap.size W W') {a b : Nat} (ha : a < n) (hb' : b < n) : ∃ g, W'.cell? ⟨hh, a, none⟩ = some (.slice (some ⟨g, 0, none⟩) n n) ∧ W'.cell? ⟨g, b, none⟩ = some (.bool (H a b)) := ⟨_, (h.of_blocks hb).cells ha hb'⟩

set_option maxRecDepth 100000 in
set_option maxHeartbeats 4000000 in
theorem cbehind_any (w : World) (m : Nat) (V : List (Ver × (Nat × Nat))) (v : Ver) (b hh n : Nat) (gs : List Nat) (H : Nat → Nat → Bool) (Hd : Nat → Nat → Prop) (h : PMap w m V) (hT : TabIn w hh n n gs H Hd) (hb : b < n) (hn : n ≤ 40) (hV : ∀ p, findP V v = some p → p.1 < n) :
    Calls Tryz.prog 154 #[.map (some m), .agg #[.string v.1, .int .i64 (v.2 : Int)], .int .i64 (b : Int), .slice (some ⟨hh, 0, none⟩) n n] w fun e w' => e = .returned (.bool (behindB V H v b)) ∧ Below w.heap.size w w' := by
  obtain ⟨px, hpx⟩ : ∃ px, px = (findP V v).getD (0, 0) := ⟨_, rfl⟩
  have hL : (Instr.lookup 183 (.map (some m)) (.agg #[.string v.1, .int .i64 (v.2 : Int)]) true).run Tryz.prog (w.alloc (.cells #[.string v.1, .int .i64 (v.2 : Int)] 111)) = .ok (.tuple #[.agg #[.int .i64 (px.1 : Int), .int .i64 (px.2 : Int)], .bool (findP V v).isSome]) (w.alloc (.cells #[.string v.1, .int .i64 (v.2 : Int)] 111)) := by rw [hpx]; exact (h.below ((Below.refl _ _).alloc (Nat.le_refl _) _)).lookup v
  have HBE : Hid (Below w.heap.size w ((w.alloc (.cells #[.string v.1, .int .i64 (v.2 : Int)] 111)).alloc (.cells #[.int .i64 (px.1 : Int), .int .i64 (px.2 : Int)] 217))) := ((Below.refl _ _).alloc (Nat.le_refl _) _).alloc (by simp) _
  by_cases hz : v.2 = 0
  · have HR : Hid (behindB V H v b = true) := by show _ = _; unfold behindB; rw [decide_eq_true hz]; rfl
    have hz' : ((v.2 : Int) == 0) = true := by rw [beq_iff_eq]; omega
    generalize (findP V v).isSome = tw at *
    clear hz hV hpx h hT
    go_enter Tryz.func154, Tryz.ntmps154
    go_wp2_with fail
    go_ret
    rw [HR.out]
    exact ⟨rfl, HBE.out⟩
  · have hz' : ((v.2 : Int) == 0) = false := by rw [beq_eq_false_iff_ne]; omega
    cases hf : findP V v with
    | none =>
      have HR : Hid (behindB V H v b = false) := by show _ = _; unfold behindB; rw [decide_eq_false hz, hf]; rfl
      rw [hf] at hL
      simp only [Option.isSome_none] at hL
      clear hz hV hpx h hT hf
      go_enter Tryz.func154, Tryz.ntmps154
      go_wp2_with fail
      go_ret
      rw [HR.out]
      exact ⟨rfl, HBE.out⟩
    | some q =>
      have HR : Hid (behindB V H v b = H q.1 b) := by show _ = _; unfold behindB; rw [decide_eq_false hz, hf]; rfl
      have hq := hV q hf
      rw [hf] at hL hpx
      simp only [Option.isSome_some, Option.getD_some] at hL hpx
      subst hpx
      obtain ⟨g, t1, t2⟩ := tab_cells hT HBE.out hq hb
      generalize H px.1 b = r at *
      clear hz hV h hT hf
      go_enter Tryz.func154, Tryz.ntmps154
      go_wp2_with fail
      go_ret
      rw [HR.out]
      exact ⟨rfl, HBE.out⟩

/-- May a version be taken in the line 'at' of block b? -/
def atB (V : List (Ver × (Nat × Nat))) (H : Nat → Nat → Bool) (v : Ver) (b a : Nat) : Bool := match findP V v with
  | some p => if p.1 = b then decide (p.2 < a) else decide (v.2 = 0) || H p.1 b
  | none => decide (v.2 = 0)

set_option maxRecDepth 100000 in
set_option maxHeartbeats 4000000 in
theorem cat_any (w : World) (m : Nat) (V : List (Ver × (Nat × Nat))) (v : Ver) (b a hh n : Nat) (gs : List Nat) (H : Nat → Nat → Bool) (Hd : Nat → Nat → Prop) (h : PMap w m V) (hT : TabIn w hh n n gs H Hd) (hb : b < n) (hn : n ≤ 40) (hV : ∀ p, findP V v = some p → p.1 < n) :
    Calls Tryz.prog 155 #[.map (some m), .agg #[.string v.1, .int .i64 (v.2 : Int)], .agg #[.int .i64 (b : Int), .int .i64 (a : Int)], .slice (some ⟨hh, 0, none⟩) n n] w fun e w' => e = .returned (.bool (atB V H v b a)) ∧ Below w.heap.size w w' := by
  obtain ⟨px, hpx⟩ : ∃ px, px = (findP V v).getD (0, 0) := ⟨_, rfl⟩
  have hL : (Instr.lookup 183 (.map (some m)) (.agg #[.string v.1, .int .i64 (v.2 : Int)]) true).run Tryz.prog ((w.alloc (.cells #[.string v.1, .int .i64 (v.2 : Int)] 111)).alloc (.cells #[.int .i64 (b : Int), .int .i64 (a : Int)] 217)) = .ok (.tuple #[.agg #[.int .i64 (px.1 : Int), .int .i64 (px.2 : Int)], .bool (findP V v).isSome]) ((w.alloc (.cells #[.string v.1, .int .i64 (v.2 : Int)] 111)).alloc (.cells #[.int .i64 (b : Int), .int .i64 (a : Int)] 217)) := by rw [hpx]; exact (h.below (((Below.refl _ _).alloc (Nat.le_refl _) _).alloc (by simp) _)).lookup v
  have HBE : Hid (Below w.heap.size w (((w.alloc (.cells #[.string v.1, .int .i64 (v.2 : Int)] 111)).alloc (.cells #[.int .i64 (b : Int), .int .i64 (a : Int)] 217)).alloc (.cells #[.int .i64 (px.1 : Int), .int .i64 (px.2 : Int)] 217))) := (((Below.refl _ _).alloc (Nat.le_refl _) _).alloc (by simp) _).alloc (by simp; omega) _
  cases hf : findP V v with
  | none =>
    have HR : Hid (atB V H v b a = ((v.2 : Int) == 0)) := by
      show _ = _
      unfold atB
      rw [hf]
      by_cases hz : v.2 = 0 <;> simp [hz]
    rw [hf] at hL
    simp only [Option.isSome_none] at hL
    clear hV hpx h hT hf
    by_cases hz : v.2 = 0
    · have hz' : ((v.2 : Int) == 0) = true := by rw [beq_iff_eq]; omega
      rw [hz'] at HR
      clear hz
      go_enter Tryz.func155, Tryz.ntmps155
      go_wp2_with fail
      go_quiet (fail)
      go_wp2_with fail
      go_ret
      rw [HR.out]
      exact ⟨rfl, below_drewN HBE.out _⟩
    · have hz' : ((v.2 : Int) == 0) = false := by rw [beq_eq_false_iff_ne]; omega
      rw [hz'] at HR
      clear hz
      go_enter Tryz.func155, Tryz.ntmps155
      go_wp2_with fail
      go_quiet (fail)
      go_wp2_with fail
      go_ret
      rw [HR.out]
      exact ⟨rfl, below_drewN HBE.out _⟩
  | some q =>
    have hq := hV q hf
    rw [hf] at hL hpx
    simp only [Option.isSome_some, Option.getD_some] at hL hpx
    subst hpx
    by_cases hpb : px.1 = b
    · have hpb' : ((px.1 : Int) == (b : Int)) = true := by rw [beq_iff_eq]; omega
      have HR : Hid (atB V H v b a = decide ((px.2 : Int) < (a : Int))) := by
        show _ = _
        unfold atB
        rw [hf]
        simp [hpb]
      clear hV h hT hf hpb
      go_enter Tryz.func155, Tryz.ntmps155
      go_wp2_with fail
      go_ret
      rw [HR.out]
      exact ⟨by simp, HBE.out⟩
    · have hpb' : ((px.1 : Int) == (b : Int)) = false := by rw [beq_eq_false_iff_ne]; omega
      obtain ⟨g, t1, t2⟩ := tab_cells hT HBE.out hq hb
      have T1 : ∀ k, ((((w.alloc (.cells #[.string v.1, .int .i64 (v.2 : Int)] 111)).alloc (.cells #[.int .i64 (b : Int), .int .i64 (a : Int)] 217)).alloc (.cells #[.int .i64 (px.1 : Int), .int .i64 (px.2 : Int)] 217)).drewN k).cell? ⟨hh, px.1, none⟩ = some (.slice (some ⟨g, 0, none⟩) n n) := fun k => t1
      have T2 : ∀ k, ((((w.alloc (.cells #[.string v.1, .int .i64 (v.2 : Int)] 111)).alloc (.cells #[.int .i64 (b : Int), .int .i64 (a : Int)] 217)).alloc (.cells #[.int .i64 (px.1 : Int), .int .i64 (px.2 : Int)] 217)).drewN k).cell? ⟨g, b, none⟩ = some (.bool (H px.1 b)) := fun k => t2
      by_cases hz : v.2 = 0
      · have HR : Hid (atB V H v b a = true) := by
          show _ = _
          unfold atB
          rw [hf]
          simp [hpb, hz]
        have hz' : ((v.2 : Int) == 0) = true := by rw [beq_iff_eq]; omega
        clear hz hV h hT hf hpb
        go_enter Tryz.func155, Tryz.ntmps155
        go_wp2_with fail
        go_quiet (fail)
        go_wp2_with fail
        go_ret
        rw [HR.out]
        exact ⟨rfl, below_drewN HBE.out _⟩
      · have HR : Hid (atB V H v b a = H px.1 b) := by
          show _ = _
          unfold atB
          rw [hf]
          simp [hpb, hz]
        have hz' : ((v.2 : Int) == 0) = false := by rw [beq_eq_false_iff_ne]; omega
        generalize H px.1 b = r at *
        clear hz hV h hT hf hpb
        go_enter Tryz.func155, Tryz.ntmps155
        go_wp2_with fail
        go_quiet (fail)
        go_wp2_with fail
        go_ret
        rw [HR.out]
        exact ⟨rfl, below_drewN HBE.out _⟩

end Go.Proofs.YtbddcodljmglfaaGreatDoor
