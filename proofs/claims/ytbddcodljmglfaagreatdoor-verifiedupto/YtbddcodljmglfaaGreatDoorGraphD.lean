/- (walk).allHeld: of each node, in its row, what held tells of it. And what follows on it. -/
import Derived.Test.YtbddcodljmglfaaGreatDoorGraphC
import Derived.Test.YtbddcodljmglfaaGreatDoorMemA
import Derived.WalkMore
import Derived.Deep.LoopGhost
set_option linter.unusedSimpArgs false
set_option linter.unusedVariables false
namespace Go.Proofs.YtbddcodljmglfaaGreatDoor
open Go.RowKit

/-- Is a one to answer? -/
def cand (h : Nat → Nat → Bool) (n b a : Nat) : Bool := decide (a ≠ b) && h a b && (List.range n).all (fun c => decide (c = b) || !h c b || h c a)
def nearestOf (h : Nat → Nat → Bool) (n b : Nat) : Int := match (List.range n).find? (cand h n b) with | some a => (a : Int) | none => -1

theorem find_range_none (p : Nat → Bool) (n : Nat) (h : ∀ j, j < n → p j = false) : (List.range n).find? p = none := by
  rw [List.find?_eq_none]
  intro x hx
  simp at hx
  simp [h x hx]
theorem find_range_some (p : Nat → Bool) (n a : Nat) (ha : a < n) (hp : p a = true) (h : ∀ j, j < a → p j = false) : (List.range n).find? p = some a := by
  rw [List.find?_range_eq_some]
  exact ⟨hp, by simpa using ha, fun j hj => by simp [h j hj]⟩

def rowVal (n : Nat) (g : Nat) : Value := .slice (some ⟨g, 0, none⟩) n n

/-- The first k rows of the table are laid. -/
structure TabIn (w : World) (hh n k : Nat) (gs : List Nat) (H : Nat → Nat → Bool) (Hd : Nat → Nat → Prop) : Prop where
  head : w.heap[hh]? = some (.cells (gs.map (rowVal n) ++ List.replicate (n - k) (Value.slice none 0 0)).toArray 99 (0, 0))
  len : gs.length = k
  row : ∀ i g, gs[i]? = some g → ∃ bs : List Bool, w.heap[g]? = some (.cells (bits bs).toArray 4 (0, 0)) ∧ bs.length = n ∧ ∀ b, b < n → bs.getD b false = H i b
  tells : ∀ i b, i < k → b < n → (H i b = true ↔ Hd i b)

theorem TabIn.of_blocks {w w' : World} {hh n k : Nat} {gs : List Nat} {H : Nat → Nat → Bool} {Hd : Nat → Nat → Prop} (h : TabIn w hh n k gs H Hd) (hb : Below w.heap.size w w') : TabIn w' hh n k gs H Hd :=
  ⟨(hb.block _ (blk_lt h.head)).trans h.head, h.len, fun i g hi => by
    obtain ⟨bs, h1, h2⟩ := h.row i g hi
    exact ⟨bs, (hb.block _ (blk_lt h1)).trans h1, h2⟩, h.tells⟩

theorem TabIn.push {w : World} {hh n k : Nat} {gs : List Nat} {H : Nat → Nat → Bool} {Hd : Nat → Nat → Prop} (h : TabIn w hh n k gs H Hd) (hk : k < n) {g : Nat} {bs : List Bool} (hg : w.heap[g]? = some (.cells (bits bs).toArray 4 (0, 0))) (hl : bs.length = n) (ht : ∀ b, b < n → (bs.getD b false = true ↔ Hd k b)) :
    TabIn (w.setCell ⟨hh, k, none⟩ (rowVal n g)) hh n (k + 1) (gs ++ [g]) (fun i b => if i = k then bs.getD b false else H i b) Hd := by
  have hne : ∀ x c, w.heap[x]? = some (.cells c 4 (0, 0)) → x ≠ hh := by
    rintro x c hx rfl
    rw [h.head] at hx
    simp at hx
  refine ⟨?_, by simp [h.len], fun i g' hi => ?_, fun i b hi hb => ?_⟩
  · have e : n - k = (n - (k + 1)) + 1 := by omega
    have hlk := h.len
    simp only [World.setCell, Array.getElem?_modify, h.head, Option.map_some]
    simp only [if_true]
    rw [e, List.replicate_succ]
    simp [hlk, List.set_append]
  · rw [List.getElem?_append] at hi
    split at hi
    · rename_i hlt
      obtain ⟨bs', h1, h2, h3⟩ := h.row i g' hi
      refine ⟨bs', by rw [Below.heap_setCell _ _ _ _ (hne _ _ h1)]; exact h1, h2, fun b hb => ?_⟩
      rw [if_neg (by have := h.len; omega)]
      exact h3 b hb
    · rename_i hlt
      have hi0 : i - gs.length = 0 := by
        rcases Nat.eq_zero_or_pos (i - gs.length) with h0 | h0
        · exact h0
        · rw [List.getElem?_eq_none (by simp; omega)] at hi; simp at hi
      rw [hi0] at hi
      simp at hi
      subst hi
      have hik : i = k := by have := h.len; omega
      refine ⟨bs, by rw [Below.heap_setCell _ _ _ _ (hne _ _ hg)]; exact hg, hl, fun b hb => ?_⟩
      rw [if_pos hik]
  · by_cases hik : i = k
    · subst hik
      simp only [if_true]
      exact ht b hb
    · simp only [hik, if_false]
      exact h.tells i b (by omega) hb

theorem TabIn.cells {w : World} {hh n : Nat} {gs : List Nat} {H : Nat → Nat → Bool} {Hd : Nat → Nat → Prop} (h : TabIn w hh n n gs H Hd) {a b : Nat} (ha : a < n) (hb : b < n) :
    w.cell? ⟨hh, a, none⟩ = some (.slice (some ⟨gs.getD a 0, 0, none⟩) n n) ∧ w.cell? ⟨gs.getD a 0, b, none⟩ = some (.bool (H a b)) := by
  have hga : gs[a]? = some (gs.getD a 0) := by
    have := h.len
    simp [List.getD, this, ha]
  obtain ⟨bs, h1, h2, h3⟩ := h.row a _ hga
  constructor
  · have hlt : a < gs.length := by rw [h.len]; exact ha
    have e : gs[a] = gs.getD a 0 := by rw [List.getElem?_eq_getElem hlt] at hga; simpa using hga
    simp [-List.getD_eq_getElem?_getD, World.cell?, h.head, hga, rowVal, List.getElem?_append, hlt, e]
  · rw [← h3 b hb]
    exact (cell_bits h1 (by rw [h2]; exact hb)).1

theorem infoBools : (Tryz.prog.info? 99).map (fun i => (i.zero, i.size, i.bytes)) = some (some (.slice none 0 0), 1, 24) := by kernel_rfl
theorem makeTab (n : Nat) (hn : n ≤ 1000) (w : World) :
    (Instr.makeSlice 220 (.int .i64 n) (.int .i64 n)).run Tryz.prog w = .ok (.slice (some ⟨w.heap.size, 0, none⟩) n n) (w.alloc (.cells (Array.replicate n (.slice none 0 0)) 99)) := by
  obtain ⟨i0, hi, hz0, hz1, hz2⟩ := info_parts infoBools
  exact run_make1 _ _ i0 _ Tryz.underlying220 hi hz0 hz1 rfl n hn (by omega) w

set_option maxRecDepth 100000 in
set_option maxHeartbeats 4000000 in
theorem allHeld_any (w : World) (vs vt : Value) (ts : List Value) (n : Nat) (S : List Nat) (T : List (List Nat)) (h : WalkIn w vs vt ts n S T) :
    Calls Tryz.prog 173 #[.agg #[vs, vt]] w fun e w' => ∃ (hh : Nat) (gs : List Nat) (H : Nat → Nat → Bool), e = .returned (.slice (some ⟨hh, 0, none⟩) n n) ∧ TabIn w' hh n n gs H (fun i c => Held (· ∈ S) (fun a c => c ∈ T.getD a []) (i : Int) c) ∧ Below w.heap.size w w' := by
  have hmk := makeTab n (by have := h.le; omega)
  have hle := h.le
  have HH : Hid (WalkIn w vs vt ts n S T) := h
  obtain ⟨hl0, ao, cap, rfl, _⟩ := h.steps
  obtain ⟨hl9, ao9, cap9, rfl, _⟩ := h.starts
  clear h hl0 hl9
  go_enter Tryz.func173, Tryz.ntmps173
  go_wp2_with fail
  have hbox0 : Hid (((w.alloc (.cells #[.slice ao9 S.length cap9, .slice ao n cap] 205)).alloc (.cells (Array.replicate n (.slice none 0 0)) 99)).heap[w.heap.size]? = some (.cells #[.slice ao9 S.length cap9, .slice ao n cap] 205 (0, 0))) := (Below.heap_alloc _ _ _ (by simp)).trans (heap_new rfl)
  have htab0 : Hid (TabIn ((w.alloc (.cells #[.slice ao9 S.length cap9, .slice ao n cap] 205)).alloc (.cells (Array.replicate n (.slice none 0 0)) 99)) (w.heap.size + 1) n 0 [] (fun _ _ => false) (fun i c => Held (· ∈ S) (fun a c => c ∈ T.getD a []) (i : Int) c)) :=
    ⟨by rw [heap_new (by simp)]; simp, rfl, by simp, by simp⟩
  have hbel0 : Hid (Below w.heap.size w ((w.alloc (.cells #[.slice ao9 S.length cap9, .slice ao n cap] 205)).alloc (.cells (Array.replicate n (.slice none 0 0)) 99))) := ((Below.refl _ _).alloc (Nat.le_refl _) _).alloc (by simp) _
  go_loopg [11] n (fun g i wr => ∃ (k : Nat) (gs : List Nat) (H : Nat → Nat → Bool), k + g = n ∧ i = .int .i64 k ∧ Hid (TabIn wr (w.heap.size + 1) n k gs H (fun i c => Held (· ∈ S) (fun a c => c ∈ T.getD a []) (i : Int) c)) ∧ Hid (wr.heap[w.heap.size]? = some (.cells #[.slice ao9 S.length cap9, .slice ao n cap] 205 (0, 0))) ∧ Hid (Below w.heap.size w wr))
  case atStart => exact ⟨0, [], _, by omega, rfl, htab0, hbox0, hbel0⟩
  case round =>
    obtain ⟨k, gs, H, hkn, rfl, htab, hbox, hbel⟩ := hrel
    clear hbox0 htab0 hbel0 hmk
    by_cases hlt : k < n
    · have hc0 : wr.cell? ⟨w.heap.size, 0, none⟩ = some (.slice ao9 S.length cap9) := by simp [World.cell?, hbox.out]
      have hc1 : wr.cell? ⟨w.heap.size, 1, none⟩ = some (.slice ao n cap) := by simp [World.cell?, hbox.out]
      have hhl := blk_lt htab.out.head
      have hcx : ∃ v, wr.cell? ⟨w.heap.size + 1, k, none⟩ = some v := by
        have hlk := htab.out.len
        refine ⟨.slice none 0 0, ?_⟩
        simp [World.cell?, htab.out.head, List.getElem?_append, hlk, List.getElem?_replicate]
        omega
      obtain ⟨v0, hcx⟩ := hcx
      have hfx : wr.frozen? ⟨w.heap.size + 1, k, none⟩ = false := by simp [World.frozen?, htab.out.head]
      have hcall := held_any wr _ _ ts n S T (k : Int) (HH.out.below hbel.out)
      have HC : Hid (Calls Tryz.prog 172 _ wr _) := hcall
      clear hcall
      go_wp2_with (first | (go_at_call 172; refine HC.out.mono ?_; rintro e w1 ⟨g1, b1, rfl, hg1, hh1, hl1, ht1, hbel1⟩; obtain ⟨hcc, hff⟩ := bcell hbel1; have hcy := (hcc _ k hhl).trans hcx; have hfy := (hff _ k hhl).trans hfx; clear hcc hff))
      go_roundg (n - (k + 1))
      case measure => omega
      case rel =>
        have hp := (htab.out.of_blocks hbel1).push hlt hh1 hl1 ht1
        refine ⟨k + 1, _, _, by omega, by go_num, hp, ?_, ?_⟩
        · show _ = _
          rw [Below.heap_setCell _ _ _ _ (by simp), hbel1.block _ (by omega)]; exact hbox.out
        · exact (hbel.out.trans (hbel1.mono hbel.out.size)).setCell (by simp) _
    · obtain rfl : n = k := by omega
      clear hbox hlt
      go_wp2_with fail
      go_ret
      exact ⟨_, gs, H, rfl, htab.out, hbel.out⟩

end Go.Proofs.YtbddcodljmglfaaGreatDoor

namespace Go.Proofs.YtbddcodljmglfaaGreatDoor
open Go.RowKit

/-- b is reached from node 0 along the edges of L on a way that does not go over x. -/
def Fwd (L : List (Nat × Nat)) (x : Int) (b : Nat) : Prop := RAr (fun a => a = 0) (fun a c => (a, c) ∈ L) x b
def HeldF (L : List (Nat × Nat)) (a : Int) (b : Nat) : Prop := Fwd L (-1) b ∧ ¬ Fwd L a b

theorem getD_out {T : List (List Nat)} {n i : Nat} (h : T.length = n) (hi : ¬ i < n) : T.getD i [] = [] := by
  simp only [List.getD]
  rw [List.getElem?_eq_none (by omega)]
  rfl

theorem fwd_iff {w w' : World} {p m q n : Nat} {L : List (Nat × Nat)} {D : List Bool} {vs vt : Value} {ts : List Value} {T : List (List Nat)} (hg : GraphIn w p m q n L D) (hw : WalkIn w' vs vt ts n [0] T) (hT : ∀ i b, i < n → (b ∈ T.getD i [] ↔ (i, b) ∈ L)) (x : Int) (b : Nat) :
    RAr (· ∈ [0]) (fun a c => c ∈ T.getD a []) x b ↔ Fwd L x b := by
  refine RAr.congr (fun a => by simp) (fun a c => ?_)
  by_cases h : a < n
  · exact hT a c h
  · rw [getD_out hw.lenT h]
    constructor
    · intro h'; simp at h'
    · intro h'; exact absurd (hg.lt _ h').1 h

set_option maxHeartbeats 1000000 in
theorem allOver_any (w : World) (p m q n : Nat) (L : List (Nat × Nat)) (D : List Bool) (hg : GraphIn w p m q n L D) : Calls Tryz.prog 153 #[.pointer (some ⟨p, 0, none⟩)] w fun e w' => ∃ (hh : Nat) (gs : List Nat) (H : Nat → Nat → Bool), e = .returned (.slice (some ⟨hh, 0, none⟩) n n) ∧ TabIn w' hh n n gs H (fun i c => HeldF L (i : Int) c) ∧ Below w.heap.size w w' := by
  have HG : Hid (GraphIn w p m q n L D) := hg
  clear hg
  go_enter Tryz.func153, Tryz.ntmps153
  go_wp2_with fail
  refine (onward_any w p m q n L D HG.out).mono ?_
  rintro e w1 ⟨vs, vt, ts, T, rfl, hb1, hw1, hT⟩
  have HW : Hid (WalkIn w1 vs vt ts n [0] T) := hw1
  have HT : Hid (∀ i b, i < n → (b ∈ T.getD i [] ↔ (i, b) ∈ L)) := hT
  clear hw1 hT
  go_wp2_with fail
  refine (allHeld_any w1 vs vt ts n [0] T HW.out).mono ?_
  rintro e w2 ⟨hh, gs, H, rfl, htab, hb2⟩
  have hfin : Hid (TabIn w2 hh n n gs H (fun i c => HeldF L (i : Int) c) ∧ Below w.heap.size w w2) := by
    refine ⟨⟨htab.head, htab.len, htab.row, fun i b hi hb => ?_⟩, hb1.trans (hb2.mono hb1.size)⟩
    rw [htab.tells i b hi hb, Held, HeldF, fwd_iff HG.out HW.out HT.out, fwd_iff HG.out HW.out HT.out]
  clear htab
  go_wp2_with fail
  go_ret
  exact ⟨hh, gs, H, rfl, hfin.out.1, hfin.out.2⟩

/-- The nodes ahead of b, below k. -/
def aheadTo (L : List (Nat × Nat)) (b k : Nat) : List Nat := (List.range k).filter fun a => decide ((a, b) ∈ L)
theorem aheadTo_succ (L : List (Nat × Nat)) (b k : Nat) : aheadTo L b (k + 1) = aheadTo L b k ++ if (k, b) ∈ L then [k] else [] := by
  unfold aheadTo
  rw [List.range_succ, List.filter_append]
  simp only [List.filter_cons, List.filter_nil]
  by_cases h : (k, b) ∈ L <;> simp [h]
theorem aheadTo_le (L : List (Nat × Nat)) (b k : Nat) : (aheadTo L b k).length ≤ k := by
  have := List.length_filter_le (fun a => decide ((a, b) ∈ L)) (List.range k)
  simpa [aheadTo] using this

set_option maxRecDepth 100000 in
set_option maxHeartbeats 2000000 in
theorem ahead_any (w : World) (p m q n : Nat) (L : List (Nat × Nat)) (D : List Bool) (hg : GraphIn w p m q n L D) (b : Nat) : Calls Tryz.prog 108 #[.pointer (some ⟨p, 0, none⟩), .int .i64 (b : Int)] w fun e w' => (∃ v, e = .returned v ∧ OwnS w' w.heap.size 3 1 v (aheadTo L b n).length (nums (aheadTo L b n))) ∧ Below w.heap.size w w' := by
  have HG : Hid (∀ W, Below w.heap.size w W → GraphIn W p m q n L D) := fun W hb => hg.below hb
  have HC : Hid (∀ W a, Below w.heap.size w W → Calls Tryz.prog 143 #[.pointer (some ⟨p, 0, none⟩), .int .i64 (a : Nat), .int .i64 (b : Int)] W fun e w' => (∃ v : Nat, e = .returned (.int .i64 (v : Int)) ∧ (0 < v ↔ (a, b) ∈ L)) ∧ w' = W) := fun W a hb => wcount_any W p m L a b (hg.below hb).c1 (hg.below hb).edges
  have c0 := hg.c0
  have hle := hg.le
  obtain ⟨i0, hi, hz0, hz1, hz2⟩ := info_parts infoInt
  clear hg
  go_enter Tryz.func108, Tryz.ntmps108
  go_wp2_with fail
  go_loopg [5, 11] n (fun g v5 v11 wr => ∃ k : Nat, k + g = n ∧ v11 = .int .i64 k ∧ Hid (OwnS wr w.heap.size 3 1 v5 (aheadTo L b k).length (nums (aheadTo L b k))) ∧ Hid (Below w.heap.size w wr))
  case atStart => exact ⟨0, by omega, rfl, OwnS.nil _ _ _ _, Below.refl _ _⟩
  case round =>
    obtain ⟨k, hkg, rfl, hown, hbel⟩ := hrel
    have hal := aheadTo_le L b k
    obtain ⟨ao, cp, hv⟩ := hown.out.len
    subst hv
    by_cases hlt : k < n
    · have HC1 : Hid _ := HC.out wr k hbel.out
      by_cases hkb : (k, b) ∈ L
      · have HS : Hid (aheadTo L b (k + 1) = aheadTo L b k ++ [k]) := by show _ = _; rw [aheadTo_succ, if_pos hkb]
        have HKB : Hid ((k, b) ∈ L) := hkb
        generalize aheadTo L b k = A at *
        go_wp2_with (first
          | (go_at_call 143; refine Calls.mono HC1.out ?_; rintro e w1 ⟨⟨v, rfl, hv⟩, hw1⟩; rw [hw1]; have hvp : (0 : Int) < (v : Int) := (by have := hv.2 HKB.out; omega); clear hw1 hv)
          | (at_builtin; refine wpList_append_ownS _ rfl _ _ 64 rfl w.heap.size 3 i0 (.int .i64 0) 1 8 Tryz.underlying64 hi hz0 hz1 hz2 rfl (by decide) _ _ _ rfl (hown.out.alloc _) ⟨wr.heap.size, 0, none⟩ 1 1 [.int .i64 (k : Int)] rfl rfl (cell_new1 _ _ _) (fun u hu => nums_one u k hu) (by decide) (by unfold maxLen; omega) (by omega) (by have := hbel.out.size; simp; omega) ?_; intro g' off' cap' w1 hown1 hgrow hloc hlt1; have HO1 : Hid _ := hown1; have HB1 : Hid (Below w.heap.size w w1) := (hbel.out.alloc hbel.out.size _).grown hgrow (by have := hbel.out.size; simp; omega) (fun j hj => ((hown.out.alloc (.cells #[.int .i64 (k : Int)] 3)).lt j hj).1); clear hown1 hgrow hloc))
        go_roundg (n - (k + 1))
        case measure => omega
        case rel => exact ⟨k + 1, by omega, by go_num, by rw [HS.out, nums_app2, List.length_append]; exact HO1, HB1⟩
      · have HS : Hid (aheadTo L b (k + 1) = aheadTo L b k) := by show _ = _; rw [aheadTo_succ, if_neg hkb, List.append_nil]
        have HKB : Hid ((k, b) ∉ L) := hkb
        generalize aheadTo L b k = A at *
        go_wp2_with (first
          | (go_at_call 143; refine Calls.mono HC1.out ?_; rintro e w1 ⟨⟨v, rfl, hv⟩, hw1⟩; rw [hw1]; have hvp : ¬ (0 : Int) < (v : Int) := (by intro h; exact HKB.out (hv.1 (by omega))); clear hw1 hv))
        go_roundg (n - (k + 1))
        case measure => omega
        case rel => exact ⟨k + 1, by omega, by go_num, by rw [HS.out]; exact hown, hbel⟩
    · obtain rfl : n = k := by omega
      go_wp2_with fail
      go_ret
      exact ⟨⟨_, rfl, hown.out⟩, hbel.out⟩

end Go.Proofs.YtbddcodljmglfaaGreatDoor
