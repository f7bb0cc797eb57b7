/- The document's own Split. -/
import Derived.Test.YtbddcodljmglfaaGreatDoorRT3
import Derived.Test.YtbddcodljmglfaaGreatDoorMem2
set_option linter.unusedSimpArgs false
set_option linter.unusedVariables false
namespace Go.Proofs.YtbddcodljmglfaaGreatDoor
open Go.RowKit

theorem ofL_toList (x : BA) : ofL x.data.toList = x := by simp [ofL]
theorem strs_snoc (L : List BA) (x : BA) : strs (L ++ [x]) = strs L ++ [.string x] := by simp [strs]
theorem len_snoc (L : List BA) (x : BA) : (L ++ [x]).length = L.length + 1 := by simp

set_option maxRecDepth 100000 in
set_option maxHeartbeats 4000000 in
theorem rSplit_any (w : World) (s : BA) (c : UInt8) (hs : s.size ≤ 4294967280) : Calls Tryz.prog 69 #[.string s, .int .u8 (c.toNat : Nat)] w fun e w' => (∃ v, e = .returned v ∧ OwnS w' w.heap.size 9 1 v (cuts c s).length (strs (cuts c s))) ∧ Below w.heap.size w w' := by
  go_enter Tryz.func69, Tryz.ntmps69
  go_wp2_with fail
  obtain ⟨i0, hi, hz0, hz1, hz2⟩ := info_parts infoString
  go_loopg [5, 6, 7] (s.size + 1) (fun g v5 v6 v7 wr => ∃ (k a : Nat) (L : List BA), k + g = s.size + 1 ∧ v7 = .int .i64 k ∧ v6 = .int .i64 a ∧ Hid (OwnS wr w.heap.size 9 1 v5 L.length (strs L)) ∧ Hid (Below w.heap.size w wr) ∧ L.length ≤ k ∧ a ≤ k ∧ Hid (∀ j (h : j < s.size), a ≤ j → j < k → s[j] ≠ c) ∧ Hid ((k ≤ s.size ∧ cuts c s = L ++ (cutsB c (s.data.toList.drop a)).map ofL) ∨ (k = s.size + 1 ∧ cuts c s = L)))
  case atStart => exact ⟨0, 0, [], by omega, rfl, rfl, OwnS.nil _ _ _ _, Below.refl _ _, by simp, by omega, fun j _ _ hj => absurd hj (by omega), .inl ⟨by omega, by simp [cuts]⟩⟩
  case round =>
    obtain ⟨k, a, L, hkg, rfl, rfl, hown, hbel, hLk, hak, hno, hcuts⟩ := hrel
    obtain ⟨ao, cp, rfl⟩ := hown.out.len
    by_cases hlt : k < s.size
    · have hcut : Hid (cuts c s = L ++ (cutsB c (s.data.toList.drop a)).map ofL) := by
        rcases hcuts.out with h | h
        · exact h.2
        · omega
      have hne : ((k : Int) == (s.size : Int)) = false := by rw [beq_eq_false_iff_ne]; omega
      have hka : (a : Int) ≤ (k : Int) := by omega
      have hks : (k : Int) ≤ (s.size : Int) := by omega
      clear hcuts
      by_cases hq : s[k] = c
      · have hq' : (((s[k]).toNat : Int) == (c.toNat : Int)) = true := by rw [hq]; simp
        have hnext : Hid (cuts c s = (L ++ [s.extract a k]) ++ (cutsB c (s.data.toList.drop (k + 1))).map ofL) := by
          show _ = _
          rw [hcut.out, cutsB_step c s a k hak hlt hq (fun j hj h1 h2 => hno.out j hj h1 h2), List.map_cons, ofL_toList]
          simp
        clear hq
        go_wp2_with (first | (at_builtin; refine wpList_append_ownS _ rfl _ _ 62 rfl w.heap.size 9 i0 (.string ByteArray.empty) 1 16 Tryz.underlying62 hi hz0 hz1 hz2 rfl (by decide) _ _ _ rfl (hown.out.alloc _) ⟨wr.heap.size, 0, none⟩ 1 1 [.string (s.extract a k)] rfl rfl (cell_newL _ [_] _ _ rfl) (one1 rfl) (by decide) (by unfold maxLen; omega) (by omega) (by have := hbel.out.size; simp; omega) ?_; intro g' off' cap' w3 hown3 hgrow3 hloc3 hlt3; have HO3 : Hid _ := hown3; have HB3 : Hid (Below w.heap.size w w3) := hbel.out.trans (grown_below hown.out hgrow3 hbel.out.size); clear hown3 hgrow3 hloc3))
        go_roundg (s.size + 1 - (k + 1))
        case measure => omega
        case rel => exact ⟨k + 1, k + 1, L ++ [s.extract a k], by omega, by go_num, by go_num, (by show OwnS _ _ _ _ _ _ _; rw [strs_snoc, len_snoc]; exact HO3.out), HB3, by simp; omega, by omega, (fun j _ h1 h2 => absurd h1 (by omega)), .inl ⟨by omega, hnext.out⟩⟩
      · have hq' : (((s[k]).toNat : Int) == (c.toNat : Int)) = false := by rw [beq_eq_false_iff_ne]; intro h; exact hq (UInt8.toNat_inj.1 (by omega))
        have HQ : Hid (s[k] ≠ c) := hq
        clear hq
        go_wp2_with fail
        go_roundg (s.size + 1 - (k + 1))
        case measure => omega
        case rel => exact ⟨k + 1, a, L, by omega, by go_num, rfl, hown, hbel, by omega, by omega, (fun j h h1 hj => by rcases Nat.lt_or_eq_of_le (Nat.le_of_lt_succ hj) with h' | h'; exact hno.out j h h1 h'; subst h'; exact HQ.out), .inl ⟨by omega, hcut.out⟩⟩
    · by_cases heq : k = s.size
      · have hcut : Hid (cuts c s = L ++ [s.extract a s.size]) := by
          rcases hcuts.out with h | h
          · show _ = _
            rw [h.2, cutsB_last c s a (by omega) (fun j hj h1 => hno.out j hj h1 (by omega)), List.map_cons, ofL_toList]
            rfl
          · omega
        have hka : (a : Int) ≤ (k : Int) := by omega
        have hks : (k : Int) ≤ (s.size : Int) := by omega
        have hks' : (k : Int) = (s.size : Int) := by omega
        clear hcuts
        go_wp2_with (first | (at_builtin; refine wpList_append_ownS _ rfl _ _ 62 rfl w.heap.size 9 i0 (.string ByteArray.empty) 1 16 Tryz.underlying62 hi hz0 hz1 hz2 rfl (by decide) _ _ _ rfl (hown.out.alloc _) ⟨wr.heap.size, 0, none⟩ 1 1 [.string (s.extract a s.size)] rfl rfl (cell_newL _ [_] _ _ rfl) (one1 rfl) (by decide) (by unfold maxLen; omega) (by omega) (by have := hbel.out.size; simp; omega) ?_; intro g' off' cap' w3 hown3 hgrow3 hloc3 hlt3; have HO3 : Hid _ := hown3; have HB3 : Hid (Below w.heap.size w w3) := hbel.out.trans (grown_below hown.out hgrow3 hbel.out.size); clear hown3 hgrow3 hloc3))
        go_roundg (s.size + 1 - (k + 1))
        case measure => omega
        case rel => exact ⟨k + 1, k + 1, L ++ [s.extract a s.size], by omega, by go_num, by go_num, (by show OwnS _ _ _ _ _ _ _; rw [strs_snoc, len_snoc]; exact HO3.out), HB3, by simp; omega, by omega, (fun j _ h1 h2 => absurd h1 (by omega)), .inr ⟨by omega, hcut.out⟩⟩
      · have hcut : cuts c s = L := by
          rcases hcuts.out with h | h
          · omega
          · exact h.2
        have hgt : ¬ (k : Int) ≤ (s.size : Int) := by omega
        clear hcuts
        go_wp2_with fail
        go_ret
        exact ⟨⟨_, rfl, hown.out⟩, hbel.out⟩

end Go.Proofs.YtbddcodljmglfaaGreatDoor
