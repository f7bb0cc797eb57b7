/- ways.listed: the numbers of the places of a row of bools that hold true, by rising numbers, in new memory. -/
import Derived.Test.YtbddcodljmglfaaMem
set_option linter.unusedSimpArgs false
set_option linter.unusedVariables false
namespace Go.Proofs.Ytbddcodljmglfaa
open Go.RowKit

def idxTo (bs : List Bool) (k : Nat) : List Nat := (List.range k).filter (fun i => bs.getD i false)

theorem idxTo_succ (bs : List Bool) (k : Nat) : idxTo bs (k + 1) = idxTo bs k ++ if bs.getD k false then [k] else [] := by
  unfold idxTo
  rw [List.range_succ, List.filter_append]
  simp only [List.filter_cons, List.filter_nil]

theorem idxTo_le (bs : List Bool) (k : Nat) : (idxTo bs k).length ≤ k := by
  have := List.length_filter_le (fun i => bs.getD i false) (List.range k)
  simpa [idxTo] using this

theorem nums_append (a b : List Nat) : nums (a ++ b) = nums a ++ nums b := by simp [nums]
theorem nums_one (u : Value) (a : Nat) : u ∈ [Value.int .i64 (a : Int)] → u.oneCell' = true := by
  intro h; simp at h; subst h; rfl

theorem cell_new1 (w : World) (v : Value) (t : TypeId) : ∀ j u, [v][j]? = some u → (w.alloc (.cells #[v] t)).cell? ((⟨w.heap.size, 0, none⟩ : Addr).add j) = some u := by
  intro j u hj
  match j, hj with
  | 0, hj => simp at hj; subst hj; simp [Addr.add]
  | j + 1, hj => simp at hj

theorem bits_get {bs : List Bool} {k : Nat} (h : k < bs.length) : (bits bs)[k]? = some (.bool (bs.getD k false)) := by
  simp [bits, h, List.getD]

set_option maxHeartbeats 1000000 in
theorem listed_any (w : World) (v : Value) (bs : List Bool) (hrd : RdS w 1 v bs.length (bits bs)) (hlen : bs.length ≤ 1000000) :
    Calls Try.prog 77 #[v] w fun e w' => ∃ v', e = .returned v' ∧ OwnS w' w.heap.size 3 1 v' (idxTo bs bs.length).length (nums (idxTo bs bs.length)) ∧ Below w.heap.size w w' := by
  obtain ⟨hl, ao, cap, rfl, hr⟩ := hrd
  obtain ⟨i0, hi, hz0, hz1, hz2⟩ := info_parts infoInt
  obtain ⟨n, hn⟩ : ∃ n, n = bs.length := ⟨_, rfl⟩
  rw [← hn] at hr hlen ⊢
  have HN : Hid (n = bs.length) := hn
  clear hn hl
  go_enter Try.func77, Try.ntmps77
  go_wp2
  go_loopw [3, 8] (fun l i wr => ∃ k : Nat, k ≤ n ∧ i = .int .i64 k ∧ OwnS wr w.heap.size 3 1 l (idxTo bs k).length (nums (idxTo bs k)) ∧ Below w.heap.size w wr) (fun _ i _ => n - (intOf i).toNat)
  case atStart => exact ⟨0, Nat.zero_le _, rfl, OwnS.nil _ _ _ _, Below.refl _ _⟩
  case round =>
    obtain ⟨k, hk, rfl, hown, hbel⟩ := hrel
    have hle := idxTo_le bs k
    by_cases hlt : k < n
    · rcases hr with hr | ⟨g, off, rfl, hr⟩
      · omega
      have hcell : wr.cell? ⟨g, off + k, none⟩ = some (.bool (bs.getD k false)) := by
        have h1 := hr k _ (bits_get (HN.out ▸ hlt))
        rw [hbel.cell (World.block_lt_of_cell? w _ h1)]
        exact h1
      clear hr
      cases hb : bs.getD k false
      · rw [hb] at hcell
        have HB : Hid (bs.getD k false = false) := hb
        clear hb
        go_wp2
        go_roundw
        case rel => exact ⟨k + 1, by omega, by go_num, by rw [idxTo_succ, HB.out]; simpa using hown, hbel⟩
        case measure => simp [intOf]; omega
      · rw [hb] at hcell
        have HB : Hid (bs.getD k false = true) := hb
        clear hb
        go_wp2_with (first | (at_builtin; refine wpList_append_ownS _ rfl _ _ 26 rfl w.heap.size 3 i0 (.int .i64 0) 1 8 Try.underlying26 hi hz0 hz1 hz2 rfl (by decide) _ _ _ rfl (hown.alloc _) ⟨wr.heap.size, 0, none⟩ 1 1 [.int .i64 (k : Int)] rfl rfl (cell_new1 _ _ _) (fun u hu => nums_one u k hu) (by decide) (by unfold maxLen; omega) (by omega) (by have := hbel.size; simp; omega) ?_; intro g' off' cap' w1 hown1 hgrow hloc hlt1))
        have hs : idxTo bs (k + 1) = idxTo bs k ++ [k] := by rw [idxTo_succ, HB.out]; simp
        have hbel1 : Below w.heap.size w w1 := (hbel.alloc hbel.size _).grown hgrow (by have := hbel.size; simp; omega) (fun j hj => ((hown.alloc (.cells #[.int .i64 (k : Int)] 3)).lt j hj).1)
        go_wp2
        go_roundw
        case rel => exact ⟨k + 1, by omega, by go_num, by rw [hs, nums_append]; simpa [nums] using hown1, hbel1⟩
        case measure => simp [intOf]; omega
    · have : k = n := by omega
      subst this
      go_wp2
      go_ret
      exact ⟨_, rfl, hown, hbel⟩

end Go.Proofs.Ytbddcodljmglfaa
