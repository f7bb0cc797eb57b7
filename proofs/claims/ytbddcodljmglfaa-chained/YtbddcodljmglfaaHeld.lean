/- (walk).held: to which nodes ways lead, but none that does not go over a. -/
import Derived.Test.YtbddcodljmglfaaReached
set_option linter.unusedSimpArgs false
set_option linter.unusedVariables false
namespace Go.Proofs.Ytbddcodljmglfaa
open Go.RowKit

def Held (S : Nat → Prop) (E : Nat → Nat → Prop) (a : Int) (b : Nat) : Prop := RA S E (-1) b ∧ ¬ RA S E a b

def maskTo (n : Nat) (b1 b2 : List Bool) (k : Nat) : List Bool := (List.range n).map fun i => b1.getD i false && !(decide (i < k) && b2.getD i false)

theorem maskTo_length (n : Nat) (b1 b2 : List Bool) (k : Nat) : (maskTo n b1 b2 k).length = n := by simp [maskTo]
theorem maskTo_getD (n : Nat) (b1 b2 : List Bool) (k i : Nat) (h : i < n) : (maskTo n b1 b2 k).getD i false = (b1.getD i false && !(decide (i < k) && b2.getD i false)) := by
  simp [maskTo, List.getD, h]
theorem list_ext_getD {n : Nat} {l1 l2 : List Bool} (h1 : l1.length = n) (h2 : l2.length = n) (h : ∀ i, i < n → l1.getD i false = l2.getD i false) : l1 = l2 := by
  apply List.ext_getElem (h1.trans h2.symm)
  intro i hi1 hi2
  have := h i (by omega)
  simpa [List.getD, hi1, hi2] using this
theorem getD_setB {s : List Bool} {a b : Nat} {y : Bool} (ha : a < s.length) : (s.set a y).getD b false = if b = a then y else s.getD b false := by
  simp only [List.getD, List.getElem?_set]
  by_cases h : a = b
  · subst h; simp [ha]
  · have h' : ¬ b = a := fun e => h e.symm
    simp [h, h']
theorem maskTo_zero {n : Nat} {b1 b2 : List Bool} (h : b1.length = n) : maskTo n b1 b2 0 = b1 := by
  refine list_ext_getD (maskTo_length _ _ _ _) h fun i hi => ?_
  rw [maskTo_getD _ _ _ _ _ hi]
  simp
theorem maskTo_yes {n : Nat} {b1 b2 : List Bool} {k : Nat} (hk : k < n) (h : b2.getD k false = true) : maskTo n b1 b2 (k + 1) = (maskTo n b1 b2 k).set k false := by
  refine list_ext_getD (maskTo_length _ _ _ _) (by simp [maskTo_length]) fun i hi => ?_
  rw [getD_setB (by rw [maskTo_length]; exact hk), maskTo_getD _ _ _ _ _ hi, maskTo_getD _ _ _ _ _ hi]
  by_cases e : i = k
  · subst e; rw [if_pos rfl, h]; simp
  · have : decide (i < k + 1) = decide (i < k) := by simp; omega
    rw [if_neg e, this]
theorem maskTo_no {n : Nat} {b1 b2 : List Bool} {k : Nat} (hk : k < n) (h : b2.getD k false = false) : maskTo n b1 b2 (k + 1) = maskTo n b1 b2 k := by
  refine list_ext_getD (maskTo_length _ _ _ _) (maskTo_length _ _ _ _) fun i hi => ?_
  rw [maskTo_getD _ _ _ _ _ hi, maskTo_getD _ _ _ _ _ hi]
  by_cases e : i = k
  · subst e; rw [h]; simp
  · have : decide (i < k + 1) = decide (i < k) := by simp; omega
    rw [this]

theorem box_cells {w w1 : World} {vs vt : Value} {t : TypeId} (h : Below (w.alloc (.cells #[vs, vt] t)).heap.size (w.alloc (.cells #[vs, vt] t)) w1) : w1.cell? ⟨w.heap.size, 0, none⟩ = some vs ∧ w1.cell? ⟨w.heap.size, 1, none⟩ = some vt := by
  have hb : (w.alloc (.cells #[vs, vt] t)).heap[w.heap.size]? = some (.cells #[vs, vt] t (0, 0)) := heap_new rfl
  have := (h.block w.heap.size (by simp)).trans hb
  simp [World.cell?, this]

theorem box_below {w w1 : World} {o : Obj} (h : Below (w.alloc o).heap.size (w.alloc o) w1) : Below w.heap.size w w1 :=
  ((Below.refl w.heap.size w).alloc (Nat.le_refl _) o).trans (h.mono (by simp))

theorem cell_bits {w : World} {g : Nat} {l : List Bool} {t : TypeId} (h : w.heap[g]? = some (.cells (bits l).toArray t (0, 0))) {k : Nat} (hk : k < l.length) : w.cell? ⟨g, k, none⟩ = some (.bool (l.getD k false)) ∧ w.frozen? ⟨g, k, none⟩ = false := by
  constructor
  · simp [World.cell?, h, bits, List.getD, hk]
  · simp [World.frozen?, h]

set_option maxRecDepth 100000 in
set_option maxHeartbeats 4000000 in
theorem held_any (w : World) (vs vt : Value) (ts : List Value) (n : Nat) (S : List Nat) (T : List (List Nat)) (x : Int) (h : WalkIn w vs vt ts n S T) :
    Calls Try.prog 74 #[.agg #[vs, vt], .int .i64 x] w fun e w' => ∃ (gs : Nat) (bs : List Bool), e = .returned (.slice (some ⟨gs, 0, none⟩) n n) ∧ w.heap.size ≤ gs ∧ w'.heap[gs]? = some (.cells (bits bs).toArray 4 (0, 0)) ∧ bs.length = n ∧
      (∀ b, b < n → (bs.getD b false = true ↔ Held (· ∈ S) (fun a c => c ∈ T.getD a []) x b)) ∧ Below w.heap.size w w' := by
  have hle := h.le
  have hb0 : Below w.heap.size w (w.alloc (.cells #[vs, vt] 103)) := (Below.refl _ _).alloc (Nat.le_refl _) _
  have hcall1 := reached_any _ vs vt ts n S T (-1) (h.below hb0)
  have HH : Hid (WalkIn w vs vt ts n S T) := h
  have HC1 : Hid (Calls Try.prog 61 _ (w.alloc (.cells #[vs, vt] 103)) _) := hcall1
  obtain ⟨hl0, ao, cap, rfl, _⟩ := h.steps
  obtain ⟨hl9, ao9, cap9, rfl, _⟩ := h.starts
  clear h hb0 hcall1 hl0 hl9
  go_enter Try.func74, Try.ntmps74
  go_wp2_with (first | (go_at_call 61; refine (reached_any w1 _ _ ts n S T x (HH.out.below HW1.out)).mono ?_; rintro e w2 ⟨gs2, b2, rfl, hgs2, hg2, hl2, hr2, hbel2⟩) | (go_at_call 61; refine HC1.out.mono ?_; rintro e w1 ⟨gs1, b1, rfl, hgs1, hg1, hl1, hr1, hbel1⟩; obtain ⟨hc0, hc1⟩ := box_cells hbel1; have HW1 : Hid (Below w.heap.size w w1) := box_below hbel1))
  have hgs : gs1 < gs2 := Nat.lt_of_lt_of_le (blk_lt hg1) hgs2
  have hgs1' : w.heap.size < gs1 := by simpa [Nat.succ_le_iff] using hgs1
  have hg1' : w2.heap[gs1]? = some (.cells (bits b1).toArray 4 (0, 0)) := (hbel2.block _ (blk_lt hg1)).trans hg1
  have HW2 : Hid (Below w.heap.size w w2) := HW1.out.trans (hbel2.mono HW1.out.size)
  have HR1 : Hid (∀ b, b1.getD b false = true ↔ RA (· ∈ S) (fun a c => c ∈ T.getD a []) (-1) b) := hr1
  have HR2 : Hid (∀ b, b2.getD b false = true ↔ RA (· ∈ S) (fun a c => c ∈ T.getD a []) x b) := hr2
  have HG1 : Hid (w2.heap[gs1]? = some (.cells (bits (maskTo n b1 b2 0)).toArray 4 (0, 0))) := by rw [maskTo_zero hl1]; exact hg1'
  have HG2 : Hid (w2.heap[gs2]? = some (.cells (bits b2).toArray 4 (0, 0))) := hg2
  have HL2 : Hid (b2.length = n) := hl2
  clear hr1 hr2 hg1' hg2 hl1 hl2 hbel1 hbel2 hc0 hc1 HC1 hg1 hgs1 hgs2 HH HW1
  go_loopw [14] (fun i wr => ∃ k : Nat, k ≤ n ∧ i = .int .i64 k ∧ wr.heap[gs1]? = some (.cells (bits (maskTo n b1 b2 k)).toArray 4 (0, 0)) ∧ wr.heap[gs2]? = some (.cells (bits b2).toArray 4 (0, 0)) ∧ Below w.heap.size w wr) (fun i _ => n - (intOf i).toNat)
  case atStart => exact ⟨0, Nat.zero_le _, rfl, HG1.out, HG2.out, HW2.out⟩
  case round =>
    obtain ⟨k, hk, rfl, hg1, hg2, hbel⟩ := hrel
    clear HG1 HG2 HW2
    by_cases hlt : k < n
    · have hc1 := cell_bits hg1 (k := k) (by rw [maskTo_length]; exact hlt)
      have hc2 := (cell_bits hg2 (k := k) (by rw [HL2.out]; exact hlt)).1
      obtain ⟨hc1, hf1⟩ := hc1
      have G1 : Hid (wr.heap[gs1]? = some (.cells (bits (maskTo n b1 b2 k)).toArray 4 (0, 0))) := hg1
      have G2 : Hid (wr.heap[gs2]? = some (.cells (bits b2).toArray 4 (0, 0))) := hg2
      clear hg1 hg2
      cases hb : b2.getD k false
      · have HB : Hid (b2.getD k false = false) := hb
        rw [hb] at hc2
        clear hb
        go_wp2
        go_roundw
        case rel => exact ⟨k + 1, by omega, by go_num, by rw [maskTo_no hlt HB.out]; exact G1.out, G2.out, hbel⟩
        case measure => simp [intOf]; omega
      · have HB : Hid (b2.getD k false = true) := hb
        rw [hb] at hc2
        clear hb
        generalize (maskTo n b1 b2 k).getD k false = c at hc1
        go_wp2
        go_roundw
        case rel =>
          refine ⟨k + 1, by omega, by go_num, ?_, ?_, hbel.setCell (by simp; omega) _⟩
          · rw [maskTo_yes hlt HB.out]
            simp [World.setCell, Array.getElem?_modify, G1.out, bits, List.map_set]
          · rw [Below.heap_setCell _ _ _ _ (by simp; omega)]; exact G2.out
        case measure => simp [intOf]; omega
    · have : k = n := by omega
      subst this
      have hfin : Hid (∃ (gs : Nat) (bs : List Bool), Ending.returned (.slice (some ⟨gs1, 0, none⟩) k k) = Ending.returned (.slice (some ⟨gs, 0, none⟩) k k) ∧ w.heap.size ≤ gs ∧ wr.heap[gs]? = some (.cells (bits bs).toArray 4 (0, 0)) ∧ bs.length = k ∧
          (∀ b, b < k → (bs.getD b false = true ↔ Held (· ∈ S) (fun a c => c ∈ T.getD a []) x b)) ∧ Below w.heap.size w wr) := by
        refine ⟨gs1, maskTo k b1 b2 k, rfl, by omega, hg1, maskTo_length _ _ _ _, fun b hb => ?_, hbel⟩
        rw [maskTo_getD _ _ _ _ _ hb, Held, ← HR1.out b, ← HR2.out b]
        simp [-List.getD_eq_getElem?_getD, hb]
      clear hg1 hg2
      go_wp2
      go_ret
      exact hfin.out

end Go.Proofs.Ytbddcodljmglfaa
