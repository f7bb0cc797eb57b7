/- (walk).allHeld: of each node, in its row, what held tells of it. -/
import Derived.Test.YtbddcodljmglfaaBackward
import Derived.WalkMore
import Derived.Deep.LoopGhost
set_option linter.unusedSimpArgs false
set_option linter.unusedVariables false
namespace Go.Proofs.Ytbddcodljmglfaa
open Go.RowKit

/-- Is a one to answer? -/
def cand (h : Nat → Nat → Bool) (n b a : Nat) : Bool := decide (a ≠ b) && h a b && (List.range n).all (fun c => decide (c = b) || !h c b || h c a)
def nearestOf (h : Nat → Nat → Bool) (n b : Nat) : Int := match (List.range n).find? (cand h n b) with | some a => (a : Int) | none => -1

theorem find_range_none (p : Nat → Bool) (n : Nat) (h : ∀ j, j < n → p j = false) : (List.range n).find? p = none := by
  rw [List.find?_eq_none]
  intro x hx
  simp at hx
  simp [h x hx]
theorem find_range_some (p : Nat → Bool) (n a : Nat) (ha : a < n) (hp : p a = true) (h : ∀ j, j < a → p j = false) : (List.range n).find? p = some a := by
  rw [List.find?_range_eq_some]
  exact ⟨hp, by simpa using ha, fun j hj => by simp [h j hj]⟩

def rowVal (n : Nat) (g : Nat) : Value := .slice (some ⟨g, 0, none⟩) n n

/-- The first k rows of the table are laid. -/
structure TabIn (w : World) (hh n k : Nat) (gs : List Nat) (H : Nat → Nat → Bool) (Hd : Nat → Nat → Prop) : Prop where
  head : w.heap[hh]? = some (.cells (gs.map (rowVal n) ++ List.replicate (n - k) (Value.slice none 0 0)).toArray 71 (0, 0))
  len : gs.length = k
  row : ∀ i g, gs[i]? = some g → ∃ bs : List Bool, w.heap[g]? = some (.cells (bits bs).toArray 4 (0, 0)) ∧ bs.length = n ∧ ∀ b, b < n → bs.getD b false = H i b
  tells : ∀ i b, i < k → b < n → (H i b = true ↔ Hd i b)

theorem TabIn.of_blocks {w w' : World} {hh n k : Nat} {gs : List Nat} {H : Nat → Nat → Bool} {Hd : Nat → Nat → Prop} (h : TabIn w hh n k gs H Hd) (hb : Below w.heap.size w w') : TabIn w' hh n k gs H Hd :=
  ⟨(hb.block _ (blk_lt h.head)).trans h.head, h.len, fun i g hi => by
    obtain ⟨bs, h1, h2⟩ := h.row i g hi
    exact ⟨bs, (hb.block _ (blk_lt h1)).trans h1, h2⟩, h.tells⟩

theorem TabIn.push {w : World} {hh n k : Nat} {gs : List Nat} {H : Nat → Nat → Bool} {Hd : Nat → Nat → Prop} (h : TabIn w hh n k gs H Hd) (hk : k < n) {g : Nat} {bs : List Bool} (hg : w.heap[g]? = some (.cells (bits bs).toArray 4 (0, 0))) (hl : bs.length = n) (ht : ∀ b, b < n → (bs.getD b false = true ↔ Hd k b)) :
    TabIn (w.setCell ⟨hh, k, none⟩ (rowVal n g)) hh n (k + 1) (gs ++ [g]) (fun i b => if i = k then bs.getD b false else H i b) Hd := by
  have hne : ∀ x c, w.heap[x]? = some (.cells c 4 (0, 0)) → x ≠ hh := by
    rintro x c hx rfl
    rw [h.head] at hx
    simp at hx
  refine ⟨?_, by simp [h.len], fun i g' hi => ?_, fun i b hi hb => ?_⟩
  · have e : n - k = (n - (k + 1)) + 1 := by omega
    have hlk := h.len
    simp only [World.setCell, Array.getElem?_modify, h.head, Option.map_some]
    simp only [if_true]
    rw [e, List.replicate_succ]
    simp [hlk, List.set_append]
  · rw [List.getElem?_append] at hi
    split at hi
    · rename_i hlt
      obtain ⟨bs', h1, h2, h3⟩ := h.row i g' hi
      refine ⟨bs', by rw [Below.heap_setCell _ _ _ _ (hne _ _ h1)]; exact h1, h2, fun b hb => ?_⟩
      rw [if_neg (by have := h.len; omega)]
      exact h3 b hb
    · rename_i hlt
      have hi0 : i - gs.length = 0 := by
        rcases Nat.eq_zero_or_pos (i - gs.length) with h0 | h0
        · exact h0
        · rw [List.getElem?_eq_none (by simp; omega)] at hi; simp at hi
      rw [hi0] at hi
      simp at hi
      subst hi
      have hik : i = k := by have := h.len; omega
      refine ⟨bs, by rw [Below.heap_setCell _ _ _ _ (hne _ _ hg)]; exact hg, hl, fun b hb => ?_⟩
      rw [if_pos hik]
  · by_cases hik : i = k
    · subst hik
      simp only [if_true]
      exact ht b hb
    · simp only [hik, if_false]
      exact h.tells i b (by omega) hb

theorem TabIn.cells {w : World} {hh n : Nat} {gs : List Nat} {H : Nat → Nat → Bool} {Hd : Nat → Nat → Prop} (h : TabIn w hh n n gs H Hd) {a b : Nat} (ha : a < n) (hb : b < n) :
    w.cell? ⟨hh, a, none⟩ = some (.slice (some ⟨gs.getD a 0, 0, none⟩) n n) ∧ w.cell? ⟨gs.getD a 0, b, none⟩ = some (.bool (H a b)) := by
  have hga : gs[a]? = some (gs.getD a 0) := by
    have := h.len
    simp [List.getD, this, ha]
  obtain ⟨bs, h1, h2, h3⟩ := h.row a _ hga
  constructor
  · have hlt : a < gs.length := by rw [h.len]; exact ha
    have e : gs[a] = gs.getD a 0 := by rw [List.getElem?_eq_getElem hlt] at hga; simpa using hga
    simp [-List.getD_eq_getElem?_getD, World.cell?, h.head, hga, rowVal, List.getElem?_append, hlt, e]
  · rw [← h3 b hb]
    exact (cell_bits h1 (by rw [h2]; exact hb)).1

theorem infoBools : (Try.prog.info? 71).map (fun i => (i.zero, i.size, i.bytes)) = some (some (.slice none 0 0), 1, 24) := by kernel_rfl
theorem makeTab (n : Nat) (hn : n ≤ 1000) (w : World) :
    (Instr.makeSlice 113 (.int .i64 n) (.int .i64 n)).run Try.prog w = .ok (.slice (some ⟨w.heap.size, 0, none⟩) n n) (w.alloc (.cells (Array.replicate n (.slice none 0 0)) 71)) := by
  obtain ⟨i0, hi, hz0, hz1, hz2⟩ := info_parts infoBools
  exact run_make1 _ _ i0 _ Try.underlying113 hi hz0 hz1 rfl n hn (by omega) w

set_option maxRecDepth 100000 in
set_option maxHeartbeats 4000000 in
theorem allHeld_any (w : World) (vs vt : Value) (ts : List Value) (n : Nat) (S : List Nat) (T : List (List Nat)) (h : WalkIn w vs vt ts n S T) :
    Calls Try.prog 76 #[.agg #[vs, vt]] w fun e w' => ∃ (hh : Nat) (gs : List Nat) (H : Nat → Nat → Bool), e = .returned (.slice (some ⟨hh, 0, none⟩) n n) ∧ TabIn w' hh n n gs H (fun i c => Held (· ∈ S) (fun a c => c ∈ T.getD a []) (i : Int) c) ∧ Below w.heap.size w w' := by
  have hmk := makeTab n (by have := h.le; omega)
  have hle := h.le
  have HH : Hid (WalkIn w vs vt ts n S T) := h
  obtain ⟨hl0, ao, cap, rfl, _⟩ := h.steps
  obtain ⟨hl9, ao9, cap9, rfl, _⟩ := h.starts
  clear h hl0 hl9
  go_enter Try.func76, Try.ntmps76
  go_wp2_with fail
  have hbox0 : Hid (((w.alloc (.cells #[.slice ao9 S.length cap9, .slice ao n cap] 103)).alloc (.cells (Array.replicate n (.slice none 0 0)) 71)).heap[w.heap.size]? = some (.cells #[.slice ao9 S.length cap9, .slice ao n cap] 103 (0, 0))) := (Below.heap_alloc _ _ _ (by simp)).trans (heap_new rfl)
  have htab0 : Hid (TabIn ((w.alloc (.cells #[.slice ao9 S.length cap9, .slice ao n cap] 103)).alloc (.cells (Array.replicate n (.slice none 0 0)) 71)) (w.heap.size + 1) n 0 [] (fun _ _ => false) (fun i c => Held (· ∈ S) (fun a c => c ∈ T.getD a []) (i : Int) c)) :=
    ⟨by rw [heap_new (by simp)]; simp, rfl, by simp, by simp⟩
  have hbel0 : Hid (Below w.heap.size w ((w.alloc (.cells #[.slice ao9 S.length cap9, .slice ao n cap] 103)).alloc (.cells (Array.replicate n (.slice none 0 0)) 71))) := ((Below.refl _ _).alloc (Nat.le_refl _) _).alloc (by simp) _
  go_loopg [11] n (fun g i wr => ∃ (k : Nat) (gs : List Nat) (H : Nat → Nat → Bool), k + g = n ∧ i = .int .i64 k ∧ Hid (TabIn wr (w.heap.size + 1) n k gs H (fun i c => Held (· ∈ S) (fun a c => c ∈ T.getD a []) (i : Int) c)) ∧ Hid (wr.heap[w.heap.size]? = some (.cells #[.slice ao9 S.length cap9, .slice ao n cap] 103 (0, 0))) ∧ Hid (Below w.heap.size w wr))
  case atStart => exact ⟨0, [], _, by omega, rfl, htab0, hbox0, hbel0⟩
  case round =>
    obtain ⟨k, gs, H, hkn, rfl, htab, hbox, hbel⟩ := hrel
    clear hbox0 htab0 hbel0 hmk
    by_cases hlt : k < n
    · have hc0 : wr.cell? ⟨w.heap.size, 0, none⟩ = some (.slice ao9 S.length cap9) := by simp [World.cell?, hbox.out]
      have hc1 : wr.cell? ⟨w.heap.size, 1, none⟩ = some (.slice ao n cap) := by simp [World.cell?, hbox.out]
      have hhl := blk_lt htab.out.head
      have hcx : ∃ v, wr.cell? ⟨w.heap.size + 1, k, none⟩ = some v := by
        have hlk := htab.out.len
        refine ⟨.slice none 0 0, ?_⟩
        simp [World.cell?, htab.out.head, List.getElem?_append, hlk, List.getElem?_replicate]
        omega
      obtain ⟨v0, hcx⟩ := hcx
      have hfx : wr.frozen? ⟨w.heap.size + 1, k, none⟩ = false := by simp [World.frozen?, htab.out.head]
      have hcall := held_any wr _ _ ts n S T (k : Int) (HH.out.below hbel.out)
      have HC : Hid (Calls Try.prog 74 _ wr _) := hcall
      clear hcall
      go_wp2_with (first | (go_at_call 74; refine HC.out.mono ?_; rintro e w1 ⟨g1, b1, rfl, hg1, hh1, hl1, ht1, hbel1⟩; obtain ⟨hcc, hff⟩ := bcell hbel1; have hcy := (hcc _ k hhl).trans hcx; have hfy := (hff _ k hhl).trans hfx; clear hcc hff))
      go_roundg (n - (k + 1))
      case measure => omega
      case rel =>
        have hp := (htab.out.of_blocks hbel1).push hlt hh1 hl1 ht1
        refine ⟨k + 1, _, _, by omega, by go_num, hp, ?_, ?_⟩
        · show _ = _
          rw [Below.heap_setCell _ _ _ _ (by simp), hbel1.block _ (by omega)]; exact hbox.out
        · exact (hbel.out.trans (hbel1.mono hbel.out.size)).setCell (by simp) _
    · obtain rfl : n = k := by omega
      clear hbox hlt
      go_wp2_with fail
      go_ret
      exact ⟨_, gs, H, rfl, htab.out, hbel.out⟩

end Go.Proofs.Ytbddcodljmglfaa
