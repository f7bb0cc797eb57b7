/- meets: what is handed in is as it was; then it is written over, and held. -/
import Derived.Test.YtbddcodljmglfaaPlayEdge
import Derived.Laws.CopyOwn
set_option linter.unusedSimpArgs false
set_option linter.unusedVariables false
namespace Go.Proofs.Ytbddcodljmglfaa
open Go.RowKit

theorem makeInts (n : Nat) (hn : n ≤ 10000000) (w : World) :
    (Instr.makeSlice 26 (.int .i64 ((n : Int) + 2)) (.int .i64 ((n : Int) + 2))).run Try.prog w = .ok (.slice (some ⟨w.heap.size, 0, none⟩) (n + 2) (n + 2)) (w.alloc (.cells (Array.replicate (n + 2) (.int .i64 0)) 3)) := by
  obtain ⟨i, hi, hz0, hz1, hz2⟩ := info_parts infoInt
  have hr := run_make (P := Try.prog) w 26 3 i _ Try.underlying26 hi hz0 .i64 .i64 ((n : Int) + 2) ((n : Int) + 2) (by omega) (Int.le_refl _) (by rw [hz2]; omega) (by omega)
  rw [hr]
  have e0 : ((n : Int) + 2).toNat = n + 2 := by omega
  have e1 : madeCells (Value.cells (.int .i64 0)) (((n : Int) + 2).toNat * i.size) = Array.replicate (n + 2) (.int .i64 0) := by
    apply Array.toList_inj.1
    rw [hz1, e0, Nat.mul_one, show Value.cells (.int .i64 0) = #[.int .i64 0] from rfl, toList_madeCells_one]
    simp
  rw [e1, e0]

theorem slice_front (g off len cap N : Nat) (h : N ≤ cap) (hc : 0 < cap) (hl : N < cap) (w : World) : (Instr.slice 26 (.slice (some ⟨g, off, none⟩) len cap) none (some (.int .i64 (N : Int))) none).run Try.prog w = .ok (.slice (some ⟨g, off, none⟩) N cap) w := by
  have h1 : (0 : Int) ≤ (N : Int) ∧ (N : Int) ≤ (cap : Int) := by omega
  have h2 : ¬ cap = 0 := by omega
  have h3 : ((N : Nat) : Int).toNat = N := by omega
  simp [Instr.slice, run_underlying Try.underlying26, Instr.sliceBounds, Instr.sliceBound, asIntOf, Result.andThen, sizeInt, h1, h2, h3]
  have h5 : N ≤ cap := by omega
  simp [Addr.add, h5]

theorem eqlNil (ao : Option Addr) (l c : Nat) (w : World) : (binOp .eql 26 (.slice ao l c) (.slice none 0 0)).run Try.prog w = .ok (.bool ao.isNone) w := by
  simp only [binOp]
  simp [run_equal_slice_nil w 26 3 ao l c Try.underlying26]

def ints (zs : List Int) : List Value := zs.map (Value.int .i64)
def lentOut (zs : List Int) : List Value := ints zs ++ [.int .i64 (-99), .int .i64 (-99)]

theorem intsOne (zs : List Int) : ∀ u ∈ ints zs, u.oneCell' = true := by
  intro u hu
  simp only [ints, List.mem_map] at hu
  obtain ⟨_, _, rfl⟩ := hu
  rfl

/-- The row of x behind the copy and the two marks. -/
theorem lent_row {zs : List Int} : ((splice (List.replicate (zs.length + 2) (Value.int .i64 0)) 0 (ints zs)).set zs.length (.int .i64 (-99))).set (zs.length + 1) (.int .i64 (-99)) = lentOut zs := by
  have hl : (ints zs).length = zs.length := by simp [ints]
  have e1 : splice (List.replicate (zs.length + 2) (Value.int .i64 0)) 0 (ints zs) = ints zs ++ [.int .i64 0, .int .i64 0] := by
    unfold splice
    rw [List.take_zero, List.nil_append, Nat.zero_add, hl, List.drop_replicate]
    congr 1
    rw [show zs.length + 2 - zs.length = 2 by omega]
    rfl
  rw [e1]
  unfold lentOut
  rw [List.set_append_right _ _ (by omega), hl, Nat.sub_self]
  rw [List.set_append_right _ _ (by omega), hl, show zs.length + 1 - zs.length = 1 by omega]
  rfl

theorem copy_ints (w : World) (ao : Option Addr) (cp : Nat) (zs : List Int) (M : Nat) (hM : M = zs.length) (hr : M = 0 ∨ ∃ g off, ao = some ⟨g, off, none⟩ ∧ ∀ j u, (zs.map (Value.int .i64))[j]? = some u → w.cell? ⟨g, off + j, none⟩ = some u) :
    ∃ w2, (Builtin.copy_ #[26, 26] 3 #[.slice (some ⟨w.heap.size, 0, none⟩) (M + 2) (M + 2), .slice ao M cp]).run Try.prog (w.alloc (.cells (Array.replicate (M + 2) (.int .i64 0)) 3)) = .ok (.int .i64 (M : Int)) w2 ∧
      w2.heap[w.heap.size]? = some (.cells (splice (List.replicate (M + 2) (.int .i64 0)) 0 (ints zs)).toArray 3 (0, 0)) ∧ Below w.heap.size w w2 ∧ w2.heap.size = w.heap.size + 1 := by
  have hl : (ints zs).length = M := by simp [ints, hM]
  by_cases h0 : M = 0
  · have hz : ints zs = [] := List.eq_nil_of_length_eq_zero (by omega)
    subst h0
    refine ⟨_, run_copy_none (P := Try.prog) _ 26 26 3 3 _ _ _ _ _ _ Try.underlying26 sizeI (by simp), ?_, (Below.refl _ _).alloc (Nat.le_refl _) _, by simp⟩
    rw [heap_new rfl, hz]
    rfl
  · rcases hr with hr | ⟨g, off, rfl, hr⟩
    · omega
    refine ⟨(w.alloc (.cells (Array.replicate (M + 2) (.int .i64 0)) 3)).setRow w.heap.size (splice (List.replicate (M + 2) (.int .i64 0)) 0 (ints zs)).toArray, ?_, setRow_heap _ _ _ _ 3 _ (heap_new rfl), below_setRow ((Below.refl _ _).alloc (Nat.le_refl _) _) (Nat.le_refl _) _, by simp [World.setRow]⟩
    · have hrun := run_copy_row (P := Try.prog) (w.alloc (.cells (Array.replicate (M + 2) (.int .i64 0)) 3)) 26 26 3 3 w.heap.size 0 (M + 2) (M + 2) ⟨g, off, none⟩ M cp (Array.replicate (M + 2) (.int .i64 0)) 3 (ints zs) Try.underlying26 sizeI (heap_new rfl) (by rw [hl]; exact (Nat.min_eq_left (by omega)).symm) (fun j v hj => by
          rw [Addr.add_lit]
          have := hr j v hj
          rw [World.cell?_alloc_lt _ _ _ (World.block_lt_of_cell? w _ this)]
          exact this) (by simp [hl]) (intsOne zs)
      rw [hrun, hl]
      simp [splice, goInt]
      rw [show M + 2 - (ints zs).length = 2 by omega]
      rfl

theorem nodes_cast {n : Nat} {zs : List Int} (h : zs.all (isNode n) = true) : zs = (nodesOf zs).map (fun a : Nat => (a : Int)) ∧ ∀ a ∈ nodesOf zs, a < n := by
  rw [List.all_eq_true] at h
  constructor
  · unfold nodesOf
    rw [List.map_map]
    conv => lhs; rw [← List.map_id zs]
    apply List.map_congr_left
    intro z hz
    have := isNode_iff.1 (h z hz)
    simp
    omega
  · intro a ha
    simp only [nodesOf, List.mem_map] at ha
    obtain ⟨z, hz, rfl⟩ := ha
    have := isNode_iff.1 (h z hz)
    omega

theorem nums_nodes {n : Nat} {zs : List Int} (h : zs.all (isNode n) = true) : nums (nodesOf zs) = zs.map (Value.int .i64) := by
  have := (nodes_cast h).1
  conv => rhs; rw [this]
  simp [nums, List.map_map, Function.comp_def]

def MeetSpec (n : Nat) (L : List (Nat × Nat)) (zs : List Int) (x : Int) (l : List Nat) : Prop :=
  (zs.all (isNode n) = false ∧ x = 2 ∧ l = []) ∨ (zs.all (isNode n) = true ∧ x = 0 ∧ ∃ qq : Nat → Bool, l = upTo qq n ∧ ∀ y, y < n → (qq y = true ↔ Met L (nodesOf zs) y))

theorem meetSpec_one {n : Nat} {L : List (Nat × Nat)} {zs : List Int} {x x' : Int} {l l' : List Nat} (h : MeetSpec n L zs x l) (h' : MeetSpec n L zs x' l') : x = x' ∧ l = l' := by
  rcases h with ⟨h1, rfl, rfl⟩ | ⟨h1, rfl, qq, rfl, hq⟩
  · rcases h' with ⟨_, rfl, rfl⟩ | ⟨h2, _⟩
    · exact ⟨rfl, rfl⟩
    · rw [h1] at h2; simp at h2
  · rcases h' with ⟨h2, _⟩ | ⟨_, rfl, qq', rfl, hq'⟩
    · rw [h1] at h2; simp at h2
    · refine ⟨rfl, ?_⟩
      unfold upTo
      apply List.filter_congr
      intro y hy
      have hy' : y < n := by simpa using hy
      rw [Bool.eq_iff_iff, hq y hy', hq' y hy']

theorem met_lt {L : List (Nat × Nat)} {F : List Nat} {n y : Nat} (hL : ∀ z ∈ L, z.1 < n ∧ z.2 < n) (h : Met L F y) : y < n := by
  cases h with
  | base _ he => exact onEdge_lt hL he
  | step _ he => exact onEdge_lt hL he

theorem meetSpec_len {n : Nat} {L : List (Nat × Nat)} {zs : List Int} {x : Int} {l : List Nat} (hn : n ≤ 40) (h : MeetSpec n L zs x l) : l.length ≤ 40 := by
  rcases h with ⟨_, _, rfl⟩ | ⟨_, _, qq, rfl, _⟩
  · simp
  · exact Nat.le_trans (upTo_le qq n) hn

theorem gMeets_both (w : World) (p m q n : Nat) (L : List (Nat × Nat)) (D : List Bool) (hg : GraphIn w p m q n L D) (v : Value) (zs : List Int) (hv : RdS w 1 v zs.length (zs.map (Value.int .i64))) (hzl : zs.length ≤ 1500000) :
    Calls Try.prog 33 #[.pointer (some ⟨p, 0, none⟩), v] w fun e w' => ∃ (va : Value) (x : Int) (l : List Nat), e = .returned (.tuple #[va, .int .i64 x]) ∧ OwnS w' w.heap.size 3 1 va l.length (nums l) ∧ MeetSpec n L zs x l ∧ Below w.heap.size w w' := by
  cases hall : zs.all (isNode n)
  · refine (gMeets_no w p m q n L D hg v zs hv (by omega) hall).mono ?_
    rintro e w' ⟨rfl, rfl⟩
    exact ⟨_, 2, [], rfl, OwnS.nil _ _ _ _, .inl ⟨hall, rfl, rfl⟩, Below.refl _ _⟩
  · refine (gMeets_any w p m q n L D hg v (nodesOf zs) (by rw [nums_nodes hall]; simpa [nodesOf] using hv) (nodes_cast hall).2 (by simp [nodesOf]; omega)).mono ?_
    rintro e w' ⟨va, rfl, ⟨sn, ho, hs⟩, hb⟩
    exact ⟨va, 0, idxTo sn n, rfl, ho, .inr ⟨hall, rfl, fun y => sn.getD y false, rfl, fun y _ => hs y⟩, hb⟩

theorem refMeets_both (w : World) (g n : Nat) (L : List (Nat × Nat)) (D : List Bool) (h : RefIn w g n L D) (v : Value) (zs : List Int) (hv : RdS w 1 v zs.length (zs.map (Value.int .i64))) (hzl : zs.length ≤ 1500000) :
    Calls Try.prog 73 #[.pointer (some ⟨g, 0, none⟩), v] w fun e w' => ∃ (va : Value) (x : Int) (l : List Nat), e = .returned (.tuple #[va, .int .i64 x]) ∧ RdS w' 1 va l.length (nums l) ∧ MeetSpec n L zs x l ∧ Below w.heap.size w w' := by
  refine (refMeets_any w g n L D h v zs hv (by omega)).mono ?_
  rintro e w' ⟨hans, hb⟩
  rcases hans with ⟨hall, rfl⟩ | ⟨hall, v', S, rfl, ho, hS⟩
  · exact ⟨_, 2, [], rfl, (OwnS.nil w' 0 3 1).rd, .inl ⟨hall, rfl, rfl⟩, hb⟩
  · have hsame : idxTo S 40 = upTo (fun y => S.getD y false) n := list_same h.le (fun y _ => Iff.rfl) (fun y hy => met_lt h.lt ((hS y).1 hy))
    rw [hsame] at ho
    exact ⟨v', 0, _, rfl, ho.rd, .inr ⟨hall, rfl, _, rfl, fun y _ => hS y⟩, hb⟩

theorem RdS.len_eq {w : World} {s : Nat} {v : Value} {n n' : Nat} {xs : List Value} (h : RdS w s v n xs) (e : n = n') : RdS w s v n' xs := e ▸ h

section
variable (w0 w : World) (κ : Nat → Role) (bw : Nat) (vg vr vh : Value) (G : List GSt) (N : Nat) (H : List HSt)

set_option maxRecDepth 100000 in
set_option maxHeartbeats 8000000 in
theorem meets_play (h : PlIn w0 w κ bw vg vr vh G N H) (hNb : N ≤ 3900000000) (hHb : H.length ≤ 3900000000) (i p m q g n : Nat) (L : List (Nat × Nat)) (D : List Bool) (hi : G[i]? = some ⟨p, m, q, g, n, L, D⟩) (vL : Value) (zs : List Int) (hv : RdS w 1 vL zs.length (zs.map (Value.int .i64))) (hzl : zs.length ≤ 1500000) :
    Calls Try.prog 54 #[.pointer (some ⟨bw, 0, none⟩), .pointer (some ⟨p, 0, none⟩), .pointer (some ⟨g, 0, none⟩), vL] w (GraphPost w0 bw vg vr G N H) := by
  have HP : Hid (PlIn w0 w κ bw vg vr vh G N H) := h
  have HGR : Hid (GraphIn w p m q n L D ∧ RefIn w g n L D) := h.gr i _ hi
  have HV : Hid (RdS w 1 vL zs.length (zs.map (Value.int .i64))) := hv
  obtain ⟨-, ao, cp, rfl, hr⟩ := hv
  obtain ⟨M, hM⟩ : ∃ M, M = zs.length := ⟨_, rfl⟩
  have HM : Hid (M = zs.length) := hM
  rw [← hM] at hr hzl HV ⊢
  have hmk := makeInts M (by omega)
  obtain ⟨w2, hcopy, hX2, hB2, hS2⟩ := copy_ints w ao cp zs M hM hr
  have HX2 : Hid (w2.heap[w.heap.size]? = some (.cells (splice (List.replicate (M + 2) (.int .i64 0)) 0 (ints zs)).toArray 3 (0, 0))) := hX2
  have hspl : (splice (List.replicate (M + 2) (Value.int .i64 0)) 0 (ints zs)).length = M + 2 := by rw [length_splice _ _ _ (by simp [ints, hM])]; simp
  obtain ⟨u1, cu1⟩ : ∃ u, w2.cell? ⟨w.heap.size, M, none⟩ = some u := ⟨_, by simp [World.cell?, hX2]; exact List.getElem?_eq_getElem (by omega)⟩
  obtain ⟨u2, cu2⟩ : ∃ u, w2.cell? ⟨w.heap.size, M + 1, none⟩ = some u := ⟨_, by simp [World.cell?, hX2]; exact List.getElem?_eq_getElem (by omega)⟩
  have fu1 : w2.frozen? ⟨w.heap.size, M, none⟩ = false := by simp [World.frozen?, hX2]
  have fu2 : w2.frozen? ⟨w.heap.size, M + 1, none⟩ = false := by simp [World.frozen?, hX2]
  have HB2 : Hid (Below w.heap.size w w2) := hB2
  have hsl := slice_front w.heap.size 0 (M + 2) (M + 2) M (by omega) (by omega) (by omega)
  clear hX2 hB2 hspl
  clear h hi hM
  go_enter Try.func54, Try.ntmps54
  have heqn := eqlNil ao M cp
  have HIN : Hid (∀ W, W.heap[w.heap.size]? = some (.cells (lentOut zs).toArray 3 (0, 0)) → RdS W 1 (.slice (some ⟨w.heap.size, 0, none⟩) M (M + 2)) M (zs.map (Value.int .i64)) ∧ RdS W 1 (.slice none 0 0) (if ao.isNone then M else 0) (if ao.isNone then zs.map (Value.int .i64) else [])) := by
    intro W hW
    have hMz := HM.out
    refine ⟨⟨by simp [hMz], _, _, rfl, .inr ⟨_, _, rfl, fun j u hj => ?_⟩⟩, ?_⟩
    · have hjl : j < zs.length := by have := (List.getElem?_eq_some_iff.1 hj).1; simpa using this
      simp only [World.cell?, hW, List.getElem?_toArray, Nat.zero_add, lentOut, ints]
      rw [List.getElem?_append_left (by simpa using hjl)]
      exact hj
    · rcases hr with hr | ⟨g5, off5, rfl, hr⟩
      · have hz : zs = [] := List.eq_nil_of_length_eq_zero (by omega)
        subst hz
        split <;> exact ⟨by simp [hr], none, 0, by simp [hr], .inl (by simp [hr])⟩
      · exact ⟨rfl, none, 0, rfl, .inl rfl⟩
  have HW3 : Hid (((w2.setCell ⟨w.heap.size, M, none⟩ (.int .i64 (-99))).setCell ⟨w.heap.size, M + 1, none⟩ (.int .i64 (-99))).heap[w.heap.size]? = some (.cells (lentOut zs).toArray 3 (0, 0)) ∧ Below w.heap.size w ((w2.setCell ⟨w.heap.size, M, none⟩ (.int .i64 (-99))).setCell ⟨w.heap.size, M + 1, none⟩ (.int .i64 (-99))) ∧ ((w2.setCell ⟨w.heap.size, M, none⟩ (.int .i64 (-99))).setCell ⟨w.heap.size, M + 1, none⟩ (.int .i64 (-99))).heap.size = w.heap.size + 1) := by
    refine ⟨?_, (HB2.out.setCell (by simp) _).setCell (by simp) _, by simp [World.setCell, hS2]⟩
    have := HM.out
    subst this
    rw [← lent_row]
    simp [World.setCell, Array.getElem?_modify, HX2.out]
  have HVb : Hid (∀ W, Below w.heap.size w W → RdS W 1 (.slice ao M cp) M (zs.map (Value.int .i64))) := fun W hW => HV.out.below hW
  clear hr hS2 HV
  have HAO : Hid (∀ W, W.heap[w.heap.size]? = some (.cells (lentOut zs).toArray 3 (0, 0)) → RdS W 1 (if ao.isNone = true then .slice none 0 0 else .slice (some ⟨w.heap.size, 0, none⟩) M (M + 2)) M (zs.map (Value.int .i64))) := by
    intro W hW
    have := HIN.out W hW
    cases hn : ao.isNone
    · simpa [hn] using this.1
    · simpa [hn] using this.2
  clear HIN
  generalize hisn : ao.isNone = rn at HAO heqn
  clear hisn
  have HIV : Hid (∀ W, Below w.heap.size w W → RdS W 1 (.slice ao M cp) zs.length (zs.map (Value.int .i64))) := fun W hW => (HVb.out W hW).len_eq HM.out
  have HAO2 : Hid (∀ W, W.heap[w.heap.size]? = some (.cells (lentOut zs).toArray 3 (0, 0)) → RdS W 1 (if rn = true then .slice none 0 0 else .slice (some ⟨w.heap.size, 0, none⟩) M (M + 2)) zs.length (zs.map (Value.int .i64))) := fun W hW => (HAO.out W hW).len_eq HM.out
  have hkw := HP.out.fresh w.heap.size (Nat.le_refl _)
  have HKW : Hid (κ w.heap.size = .other ∧ w0.heap.size ≤ w.heap.size) := ⟨hkw, HP.out.bel.size⟩
  have hz15 : zs.length ≤ 1500000 := by have := HM.out; omega
  clear hkw HAO HVb
  cases rn
  all_goals
    go_wp2_with fail
    clear hcopy hmk hsl heqn cu1 cu2 fu1 fu2
    have HA3 := HAO2.out _ HW3.out.1
    simp only [Bool.false_eq_true, if_false, if_true] at HA3
    have HP3 : Hid _ := HP.out.below HW3.out.2.1
    have HG3 := HGR.out.1.below HW3.out.2.1
    have HR3 := HGR.out.2.below HW3.out.2.1
    have HX3 : Hid _ := HW3.out.1
    have HB3 : Hid _ := HW3.out.2.1
    have HS3 : Hid _ := HW3.out.2.2
    clear HW3 HX2 HB2
    generalize (w2.setCell ⟨w.heap.size, M, none⟩ (.int .i64 (-99))).setCell ⟨w.heap.size, M + 1, none⟩ (.int .i64 (-99)) = W3 at HA3 HP3 HG3 HR3 HX3 HB3 HS3 ⊢
    have HR3' : Hid (RefIn W3 g n L D) := HR3
    refine (gMeets_both W3 p m q n L D HG3 _ zs HA3 hz15).mono ?_
    rintro e w4 ⟨va, x1, l, rfl, hown4, hsp4, hB4⟩
    have HO4 : Hid (OwnS w4 W3.heap.size 3 1 va l.length (nums l)) := hown4
    have HS4 : Hid (MeetSpec n L zs x1 l) := hsp4
    have HB4 : Hid (Below W3.heap.size W3 w4) := hB4
    have HV4 : Hid (RdS w4 1 (.slice ao M cp) zs.length (zs.map (Value.int .i64))) := HIV.out w4 (HB3.out.trans (hB4.mono HB3.out.size))
    clear hown4 hsp4 hB4 HA3 HG3 HR3
    go_wp2_with fail
    refine (refMeets_both w4 g n L D (HR3'.out.below HB4.out) _ zs HV4.out hz15).mono ?_
    rintro e w5 ⟨vb, x2, l2, rfl, hrd5, hsp5, hB5⟩
    obtain ⟨rfl, rfl⟩ := meetSpec_one HS4.out hsp5
    have hl40 : l.length ≤ 40 := meetSpec_len HR3'.out.le HS4.out
    have HU5 : Hid (RdS w5 1 vb l.length (nums l)) := hrd5
    have HO5 : Hid (OwnS w5 W3.heap.size 3 1 va l.length (nums l)) := HO4.out.of_block fun k hk => hB5.block _ (HO4.out.lt k hk).2
    have HB5 : Hid (Below W3.heap.size W3 w5) := HB4.out.trans (hB5.mono HB4.out.size)
    clear hrd5 hsp5 hB5 HS4 HV4 HO4 HB4
    go_wp2_with fail
    refine (sameInts_eq w5 l va vb HO5.out.rd HU5.out (by omega)).mono ?_
    rintro e w6 ⟨rfl, hB6⟩
    have HO6 : Hid (OwnS w6 W3.heap.size 3 1 va l.length (nums l)) := HO5.out.of_block fun k hk => hB6.block _ (HO5.out.lt k hk).2
    have HB6 : Hid (Below W3.heap.size W3 w6) := HB5.out.trans (hB6.mono HB5.out.size)
    clear hB6 HO5 HU5 HB5
    go_wp2_with fail
    go_loopg [16, 17] M (fun gk s16 s17 wy => ∃ k : Nat, k + gk = M ∧ s17 = .int .i64 k ∧ s16 = .bool true ∧ Hid (Below W3.heap.size W3 wy) ∧ Hid (OwnS wy W3.heap.size 3 1 va l.length (nums l)))
    case atStart => exact ⟨0, by omega, rfl, rfl, HB6, HO6⟩
    case round =>
      clear HB6 HO6
      obtain ⟨k, hkg, rfl, rfl, hbel, hO⟩ := hrel
      have HX : Hid (wr.heap[w.heap.size]? = some (.cells (lentOut zs).toArray 3 (0, 0))) := (hbel.out.block _ (blk_lt HX3.out)).trans HX3.out
      by_cases hlt : k < M
      · obtain ⟨-, ao5, cp5, he5, hr5⟩ := HIV.out wr (HB3.out.trans (hbel.out.mono HB3.out.size))
        have hlt' : k < zs.length := by have := HM.out; omega
        rcases hr5 with hr5 | ⟨g5, off5, rfl, hr5⟩
        · omega
        simp only [Value.slice.injEq] at he5
        obtain ⟨rfl, -, -⟩ := he5
        have c1 := hr5 k (.int .i64 zs[k]) (by simp [hlt'])
        have c2 : wr.cell? ⟨w.heap.size, k, none⟩ = some (.int .i64 zs[k]) := by
          simp only [World.cell?, HX.out, List.getElem?_toArray, lentOut, ints]
          rw [List.getElem?_append_left (by simpa using hlt')]
          simp [hlt']
        generalize zs[k] = z at c1 c2
        clear hr5 hlt'
        go_wp2_with fail
        go_quiet (fail)
        go_wp2_with fail
        go_roundg (M - (k + 1))
        case measure => omega
        case rel => exact ⟨k + 1, by omega, by go_num, rfl, below_quiet hbel.out _, hO.out.of_block (fun _ _ => rfl)⟩
      · have hz := HM.out
        have hll : (lentOut zs).length = M + 2 := by simp [lentOut, ints, hz]
        have c1 : wr.cell? ⟨w.heap.size, M, none⟩ = some (.int .i64 (-99)) := by
          simp only [World.cell?, HX.out, List.getElem?_toArray, lentOut]
          rw [List.getElem?_append_right (by simp [ints, hz]), show M - (ints zs).length = 0 by simp [ints, hz]]
          rfl
        have c2 : wr.cell? ⟨w.heap.size, M + 1, none⟩ = some (.int .i64 (-99)) := by
          simp only [World.cell?, HX.out, List.getElem?_toArray, lentOut]
          rw [List.getElem?_append_right (by simp [ints, hz]), show M + 1 - (ints zs).length = 1 by simp [ints, hz]]
          rfl
        have HPR : Hid (PlIn w0 wr κ bw vg vr vh G N H) := HP3.out.below hbel.out
        have HOX : Hid (OwnS wr w0.heap.size 3 1 (.slice (some ⟨w.heap.size, 0, none⟩) (M + 2) (M + 2)) (M + 2) (lentOut zs)) := by
          refine ⟨by simpa using hll, .inr ⟨w.heap.size, 0, M + 2, (lentOut zs).toArray, rfl, HKW.out.2, HX.out, Nat.le_refl _, by unfold maxLen; omega, by simp [hll], fun j u hj => by simpa using hj⟩⟩
        have HKX : Hid (∀ k, (Value.slice (some ⟨w.heap.size, 0, none⟩) (M + 2) (M + 2)).ownBlock = some k → κ k = .other) := by
          intro k hk
          have : w.heap.size = k := by simpa [Value.ownBlock] using hk
          rw [← this]
          exact HKW.out.1
        clear hz hll
        go_wp2_with fail
        refine (ints_any w0 wr κ bw vg vr vh G N H HPR.out _ (M + 2) (lentOut zs) HOX.out HKX.out (by omega) (by omega) (by omega)).mono ?_
        rintro e w7 ⟨rfl, κ1, vh1, H1, hP7, hH7, hG7, hK7⟩
        have hbw := HPR.out.bwLt
        have HO7 : Hid (OwnS w7 w0.heap.size 3 1 va l.length (nums l) ∧ ∀ k, va.ownBlock = some k → κ1 k = .other) := by
          have hs3 := HS3.out
          have hbw0 := HP.out.bwLt
          have key : ∀ k, va.ownBlock = some k → k < wr.heap.size ∧ W3.heap.size ≤ k ∧ ¬ (k = bw ∨ vh.ownBlock = some k ∨ (Value.slice (some ⟨w.heap.size, 0, none⟩) (M + 2) (M + 2)).ownBlock = some k) := by
            intro k hk
            obtain ⟨a1, a2⟩ := hO.out.lt k hk
            refine ⟨a2, a1, ?_⟩
            rintro (e | e | e)
            · omega
            · have := (HP.out.hs.lt k e).2; omega
            · have : w.heap.size = k := by simpa [Value.ownBlock] using e
              omega
          refine ⟨(hO.out.of_block fun k hk => hG7.block k (key k hk).2.2 (key k hk).1).mono (by have := HKW.out.2; omega), fun k hk => ?_⟩
          rw [hK7 k (key k hk).1 (fun e => (key k hk).2.2 (.inr (.inr e)))]
          exact HP3.out.fresh k (key k hk).2.1
        have HP7 : Hid (PlIn w0 w7 κ1 bw vg vr vh1 G (N + 1) H1) := hP7
        have HH7 : Hid (H1.length = H.length + 4) := hH7
        have hH7b : H1.length ≤ 3900000010 := by omega
        clear hP7 hH7 hG7 hK7 hbw HOX HKX HPR c1 c2 HX hO hbel
        go_wp2_with fail
        refine (ints_any w0 w7 κ1 bw vg vr vh1 G (N + 1) H1 HP7.out va l.length (nums l) HO7.out.1 HO7.out.2 (by omega) (by omega) (by omega)).mono ?_
        rintro e w8 ⟨rfl, κ2, vh2, H2, hP8, hH8, -, -⟩
        have HP8 : Hid (PlIn w0 w8 κ2 bw vg vr vh2 G (N + 1 + 1) H2) := hP8
        have HH8 : Hid (H2.length = H1.length + 4) := hH8
        clear hP8 hH8 HP7 HO7
        go_wp2_with fail
        refine (num_any w8 x1).mono ?_
        rintro e w9 ⟨rfl, h9⟩
        replace h9 := h9.symm
        subst h9
        go_wp2_with fail
        go_ret
        exact ⟨rfl, κ2, vh2, G, N + 1 + 1, H2, HP8.out, SameN.refl G, by have := HH8.out; have := HH7.out; omega, by omega⟩
end

end Go.Proofs.Ytbddcodljmglfaa
