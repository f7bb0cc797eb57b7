/- The document's own listed, and Edge. -/
import Derived.Test.YtbddcodljmglfaaRefEdge
set_option linter.unusedSimpArgs false
set_option linter.unusedVariables false
namespace Go.Proofs.Ytbddcodljmglfaa
open Go.RowKit

theorem idxTo_succ' (bs : List Bool) (k : Nat) : idxTo bs (k + 1) = idxTo bs k ++ if bs.getD k false then [k] else [] := by
  unfold idxTo
  rw [List.range_succ, List.filter_append]
  cases h : bs.getD k false <;> simp [-List.getD_eq_getElem?_getD, h]

set_option maxRecDepth 100000 in
set_option maxHeartbeats 2000000 in
theorem refListed_any (w : World) (S : List Bool) (hl : S.length = 40) :
    Calls Try.prog 72 #[.agg (bits S).toArray] w fun e w' => ∃ v : Value, e = .returned v ∧ OwnS w' w.heap.size 3 1 v (idxTo S 40).length (nums (idxTo S 40)) ∧ Below w.heap.size w w' := by
  go_enter Try.func72, Try.ntmps72
  go_wp2_with (first | (refine wpList_box_arr rfl _ rfl S hl rfl ?_; intro w1 hA1 hB1 hS1))
  have HA1 : Hid (ArrIn w1 w.heap.size S) := hA1
  have HB1 : Hid (Below w.heap.size w w1) := hB1
  have HS1 : Hid (w1.heap.size = w.heap.size + 1) := hS1
  clear hA1 hB1 hS1
  go_loopg [3, 4] 40 (fun gk s3 s4 wr => ∃ k : Nat, k + gk = 40 ∧ s4 = .int .i64 k ∧ Hid (OwnS wr (w.heap.size + 1) 3 1 s3 (idxTo S k).length (nums (idxTo S k))) ∧ Hid (ArrIn wr w.heap.size S) ∧ Hid (Below w.heap.size w wr) ∧ Hid (w.heap.size + 1 ≤ wr.heap.size))
  case atStart => exact ⟨0, by omega, rfl, OwnS.nil _ _ _ _, HA1, HB1, by show _ ≤ _; rw [HS1.out]; exact Nat.le_refl _⟩
  case round =>
    clear HA1 HB1 HS1
    obtain ⟨k, hkg, rfl, hown, hA, hbel, hsz⟩ := hrel
    obtain ⟨ao, cp, rfl⟩ := hown.out.len
    by_cases hlt : k < 40
    · have c1 := (hA.out.cell hlt).1
      have HT : Hid (idxTo S (k + 1) = idxTo S k ++ if S.getD k false then [k] else []) := idxTo_succ' S k
      have hle40 : Hid ((idxTo S k).length ≤ 40) := Nat.le_trans (idxTo_le S k) (by omega)
      generalize idxTo S k = l at hown HT hle40
      generalize S.getD k false = r at c1 HT
      cases r
      · have HT2 : Hid (idxTo S (k + 1) = l) := by show _ = _; rw [HT.out]; simp
        clear HT
        go_wp2_with fail
        go_roundg (40 - (k + 1))
        case measure => omega
        case rel => exact ⟨k + 1, by omega, by go_num, by rw [HT2.out]; exact hown, hA, hbel, hsz⟩
      · have HT2 : Hid (idxTo S (k + 1) = l ++ [k]) := by show _ = _; rw [HT.out]; simp
        clear HT
        obtain ⟨i0, hi0, hz0, hz1, hz2⟩ := info_parts infoInt
        go_wp2_with (first | (at_builtin; refine wpList_append_ownS _ rfl _ _ 26 rfl (w.heap.size + 1) 3 i0 (.int .i64 0) 1 8 Try.underlying26 hi0 hz0 hz1 hz2 rfl (by decide) _ _ _ rfl (hown.out.alloc _) ⟨wr.heap.size, 0, none⟩ 1 1 [.int .i64 (k : Int)] rfl rfl (cell_new1 _ _ _) (fun u hu => nums_one u k hu) (by decide) (by have := hle40.out; unfold maxLen; omega) (by have := hle40.out; omega) (by have := hsz.out; simp; omega) ?_; intro g' off' cap' w6 hown6 hgrow6 hloc6 hlt6))
        have hs0 := hsz.out
        have HB6 : Hid (Below w.heap.size w w6) := (hbel.out.alloc (by omega) _).grown hgrow6 (by simp; omega) (fun j hj => by have := (hown.out.lt j hj).1; omega)
        have HA6 : Hid (ArrIn w6 w.heap.size S) := hA.out.of_block ((hgrow6.block _ (by simp; omega) (fun e => by have := (hown.out.lt _ e.symm).1; omega)).trans (Below.heap_alloc _ _ _ (by omega)))
        have HO6 : Hid (OwnS w6 (w.heap.size + 1) 3 1 (.slice (some ⟨g', off', none⟩) (l.length + 1) cap') (l ++ [k]).length (nums (l ++ [k]))) := by
          show OwnS _ _ _ _ _ _ _
          rw [nums_append]
          simpa [nums] using hown6
        have HS6 : Hid (w.heap.size + 1 ≤ w6.heap.size) := by show _ ≤ _; have := hgrow6.size; simp at this; omega
        clear hown6 hgrow6 hloc6 hlt6 hs0 hown hA hbel hsz
        go_wp2_with fail
        go_roundg (40 - (k + 1))
        case measure => omega
        case rel => exact ⟨k + 1, by omega, by go_num, by rw [HT2.out]; exact HO6, HA6, HB6, HS6⟩
    · obtain rfl : k = 40 := by omega
      have hfin : Hid (∃ v : Value, Ending.returned (.slice ao (idxTo S 40).length cp) = .returned v ∧ OwnS wr w.heap.size 3 1 v (idxTo S 40).length (nums (idxTo S 40)) ∧ Below w.heap.size w wr) := ⟨_, rfl, hown.out.mono (by omega), hbel.out⟩
      clear hown
      rw [show ((40 : Nat) : Int) = (40 : Int) from rfl]
      go_wp2_with fail
      go_ret
      exact hfin.out

theorem list_same {n : Nat} {S : List Bool} {qq : Nat → Bool} (hn : n ≤ 40) (h : ∀ y, y < n → (qq y = true ↔ S.getD y false = true)) (ho : ∀ y, S.getD y false = true → y < n) : idxTo S 40 = upTo qq n := by
  have gen : ∀ k, n ≤ k → idxTo S k = idxTo S n := by
    intro k hk
    induction k with
    | zero => have : n = 0 := by omega
              subst this; rfl
    | succ k ih =>
      by_cases e : n = k + 1
      · rw [e]
      · rw [idxTo_succ', ih (by omega)]
        have : S.getD k false = false := by
          cases hb : S.getD k false
          · rfl
          · have := ho k hb; omega
        rw [this]
        simp
  rw [gen 40 hn]
  unfold idxTo upTo
  apply List.filter_congr
  intro y hy
  have hy' : y < n := by simpa using hy
  rw [Bool.eq_iff_iff, h y hy']

section
variable (w : World) (g n : Nat) (L : List (Nat × Nat)) (D : List Bool)
theorem refEdge_no (h : RefIn w g n L D) (b : Int) (hn : isNode n b = false) :
    Calls Try.prog 51 #[.pointer (some ⟨g, 0, none⟩), .int .i64 b] w fun e w' => e = .returned (.tuple #[.slice none 0 0, .int .i64 2]) ∧ w' = w := by
  have c0 := h.c0
  clear h
  go_enter Try.func51, Try.ntmps51
  go_wp2_with fail
  refine (refIs_any w g n c0 b).mono ?_
  rintro e w' ⟨rfl, h9⟩
  replace h9 := h9.symm
  subst h9
  rw [hn]
  go_wp2_with fail
  go_ret2
  exact ⟨rfl, rfl⟩

set_option maxRecDepth 100000 in
set_option maxHeartbeats 2000000 in
theorem refEdge_ok (h : RefIn w g n L D) (b : Nat) (hb : b < n) :
    Calls Try.prog 51 #[.pointer (some ⟨g, 0, none⟩), .int .i64 b] w fun e w' => ∃ (v : Value) (x : Int), e = .returned (.tuple #[v, .int .i64 x]) ∧ ((¬ Fwd L (-1) b ∧ v = .slice none 0 0 ∧ x = 5) ∨ (Fwd L (-1) b ∧ x = 0 ∧ ∃ S : List Bool, OwnS w' w.heap.size 3 1 v (idxTo S 40).length (nums (idxTo S 40)) ∧ ∀ y, S.getD y false = true ↔ OnEdge L b y)) ∧ Below w.heap.size w w' := by
  have c0 := h.c0
  have HR : Hid (RefIn w g n L D) := h
  have hle := h.le
  clear h
  go_enter Try.func51, Try.ntmps51
  go_wp2_with fail
  refine (refIs_any w g n c0 b).mono ?_
  rintro e w' ⟨rfl, h9⟩
  replace h9 := h9.symm
  subst h9
  rw [isNode_nat hb]
  clear c0
  go_wp2_with fail
  refine (refFrom_any w g n L D HR.out 0 HR.out.pos (-1)).mono ?_
  rintro e w1 ⟨S1, rfl, hl1, hs1, hB1⟩
  obtain ⟨r1, hr1⟩ : ∃ r1, S1.getD b false = r1 := ⟨_, rfl⟩
  have H1 : Hid (S1.getD b false = r1) := hr1
  have HF : Hid (r1 = true ↔ Fwd L (-1) b) := by rw [← hr1]; exact hs1 b
  have HB1 : Hid (Below w.heap.size w w1) := hB1
  clear hr1 hs1 hB1
  cases r1
  · go_wp2_with (first | (refine wpList_keep_arr rfl rfl rfl _ _ rfl S1 hl1 rfl rfl ?_; intro w4 hA4 hB4 hS4; have c1 := (hA4.cell (k := b) (by omega)).1; rw [H1.out] at c1; have HB4 : Hid (Below w.heap.size w w4) := HB1.out.trans (hB4.mono HB1.out.size)))
    go_ret2
    exact ⟨_, 5, rfl, .inl ⟨fun h => by have := HF.out.2 h; simp at this, rfl, rfl⟩, HB4.out⟩
  · have hreach : Hid (Fwd L (-1) b) := HF.out.1 rfl
    clear HF
    go_wp2_with (first | (refine wpList_keep_arr rfl rfl rfl _ _ rfl S1 hl1 rfl rfl ?_; intro w4 hA4 hB4 hS4; have c1 := (hA4.cell (k := b) (by omega)).1; rw [H1.out] at c1; have HB4 : Hid (Below w.heap.size w w4) := HB1.out.trans (hB4.mono HB1.out.size)))
    refine (refEdge_in w4 g n L D (HR.out.below HB4.out) b hb).mono ?_
    rintro e w5 ⟨S, rfl, hl, hs, hB5⟩
    have HS : Hid (∀ y, S.getD y false = true ↔ OnEdge L b y) := hs
    have HB5 : Hid (Below w.heap.size w w5) := HB4.out.trans (hB5.mono HB4.out.size)
    clear hA4 hB4 hS4 c1 hs hB5
    generalize w1.heap.size = k1
    go_wp2_with (first
      | (have hq := hA6; refine wpList_load_arr rfl _ rfl _ rfl _ hA6 ?_)
      | (refine wpList_keep_arr rfl rfl rfl _ _ rfl S hl rfl rfl ?_; intro w6 hA6 hB6 hS6; have HB6 : Hid (Below w.heap.size w w6) := HB5.out.trans (hB6.mono HB5.out.size)))
    refine (refListed_any w6 S hl).mono ?_
    rintro e w7 ⟨v, rfl, hown, hB7⟩
    have hs6 := HB6.out.size
    have HFIN : Hid (∃ (v' : Value) (x : Int), Ending.returned (.tuple #[v, .int .i64 0]) = .returned (.tuple #[v', .int .i64 x]) ∧ ((¬ Fwd L (-1) b ∧ v' = .slice none 0 0 ∧ x = 5) ∨ (Fwd L (-1) b ∧ x = 0 ∧ ∃ S : List Bool, OwnS w7 w.heap.size 3 1 v' (idxTo S 40).length (nums (idxTo S 40)) ∧ ∀ y, S.getD y false = true ↔ OnEdge L b y)) ∧ Below w.heap.size w w7) :=
      ⟨v, 0, rfl, .inr ⟨hreach.out, rfl, S, hown.mono hs6, HS.out⟩, HB6.out.trans (hB7.mono hs6)⟩
    clear hown hB7
    go_wp2_with fail
    go_ret2
    exact HFIN.out
end

end Go.Proofs.Ytbddcodljmglfaa
