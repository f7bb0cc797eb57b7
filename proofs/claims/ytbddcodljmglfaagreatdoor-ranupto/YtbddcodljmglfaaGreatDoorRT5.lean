/- The document's words: ends, behind, variable. -/
import Derived.Test.YtbddcodljmglfaaGreatDoorRT2
import Derived.Test.YtbddcodljmglfaaGreatDoorRT4
set_option linter.unusedSimpArgs false
set_option linter.unusedVariables false
namespace Go.Proofs.YtbddcodljmglfaaGreatDoor
open Go.RowKit

def endsW (s : BA) : Bool := match kindOf s with | some k => endsK k | none => false
theorem rEnds_any (w : World) (s : BA) : Calls Tryz.prog 71 #[.string s] w fun e w' => e = .returned (.bool (endsW s)) ∧ w' = w := by
  by_cases h1 : ByteArray.toList s = [103, 111, 116, 111]
  · have HE : Hid (endsW s = true) := by show _ = _; unfold endsW kindOf; rw [h1]; rfl
    have h : (ByteArray.toList s == [103, 111, 116, 111]) = true := by simpa using h1
    go_enter Tryz.func71, Tryz.ntmps71
    go_wp2
    go_ret
    exact ⟨by rw [HE.out]; simp [h], rfl⟩
  · by_cases h2 : ByteArray.toList s = [105, 102]
    · have HE : Hid (endsW s = true) := by show _ = _; unfold endsW kindOf; rw [h2]; rfl
      go_enter Tryz.func71, Tryz.ntmps71
      go_wp2
      go_ret
      exact ⟨by rw [HE.out]; simp [h2], rfl⟩
    · by_cases h3 : ByteArray.toList s = [101, 110, 100]
      · have HE : Hid (endsW s = true) := by show _ = _; unfold endsW kindOf; rw [h3]; rfl
        go_enter Tryz.func71, Tryz.ntmps71
        go_wp2
        go_ret
        exact ⟨by rw [HE.out]; simp [h3], rfl⟩
      · have HE : Hid (endsW s = false) := by
          show _ = _
          unfold endsW kindOf
          simp only [beq_iff_eq, h1, h2, h3, if_false]
          repeat' split
          all_goals first | rfl | (rename_i hq; simp at hq) | skip
          all_goals (rename_i hq; repeat' split at hq)
          all_goals first | (injection hq with hq; subst hq; rfl) | cases hq
        go_enter Tryz.func71, Tryz.ntmps71
        go_wp2
        go_ret
        exact ⟨by rw [HE.out]; simp [h1, h2, h3], rfl⟩

def behS : Option Nat → BA
  | some 0 => ⟨#[115, 110]⟩
  | some 1 => ⟨#[115, 120]⟩
  | some 2 => ⟨#[115, 120, 120]⟩
  | some 3 => ⟨#[115, 120, 120]⟩
  | some 4 => ⟨#[115, 120, 120]⟩
  | some 5 => ⟨#[115, 120, 120]⟩
  | some 6 => ⟨#[120]⟩
  | some 7 => ⟨#[98]⟩
  | some 8 => ⟨#[120, 98, 98]⟩
  | some 9 => ⟨#[120]⟩
  | _ => ⟨#[63]⟩
theorem behind_any (w : World) (s : BA) : Calls Tryz.prog 73 #[.string s] w fun e w' => e = .returned (.string (behS (kindOf s))) ∧ w' = w := by
  go_enter Tryz.func73, Tryz.ntmps73
  go_wp2
  all_goals (go_ret; refine ⟨?_, rfl⟩; first | (simp [kindOf, behS, *]; done) | (exfalso; simp_all; done) | simp_all [kindOf, behS])

theorem numR_narrow (s : BA) (lo hi lo' hi' : Int) (h1 : lo ≤ lo') (h2 : hi' ≤ hi) : numR s lo' hi' = match numR s lo hi with | some v => if lo' ≤ v ∧ v ≤ hi' then some v else none | none => none := by
  unfold numR
  split
  · by_cases hd : digsOk false s.data.toList.tail = true
    · by_cases hq : lo' ≤ -(digVal 0 s.data.toList.tail : Int) ∧ -(digVal 0 s.data.toList.tail : Int) ≤ hi'
      · rw [if_pos ⟨hd, hq⟩, if_pos ⟨hd, by omega, by omega⟩]
        simp [hq]
      · rw [if_neg (fun h => hq h.2)]
        split
        · rename_i v hv
          split at hv
          · injection hv with hv; subst hv; rw [if_neg hq]
          · cases hv
        · rfl
    · simp [hd]
  · by_cases hd : digsOk true s.data.toList = true
    · by_cases hq : lo' ≤ (digVal 0 s.data.toList : Int) ∧ (digVal 0 s.data.toList : Int) ≤ hi'
      · rw [if_pos ⟨hd, hq⟩, if_pos ⟨hd, by omega, by omega⟩]
        simp [hq]
      · rw [if_neg (fun h => hq h.2)]
        split
        · rename_i v hv
          split at hv
          · injection hv with hv; subst hv; rw [if_neg hq]
          · cases hv
        · rfl
    · simp [hd]
theorem numR_blk (s : BA) : numR s 0 1000000000 = (blkB s).map (fun n => (n : Int)) := by
  rw [numR_narrow s (-1000000000) 1000000000 0 1000000000 (by omega) (by omega), ← numB_eq]
  unfold blkB
  cases h : numB s with
  | none => rfl
  | some v =>
    have hv : v ≤ 1000000000 := by
      unfold numB at h
      split at h
      · split at h
        · rename_i hc; injection h with h; omega
        · cases h
      · cases h
    by_cases h0 : 0 ≤ v
    · simp [h0, hv]; omega
    · simp [h0]
theorem readVer_one (s : BA) : (readVer 1 s).isSome = ((cutAt 46 s).isSome && isNm (cutHead 46 s) && (numR (cutTail 46 s) 0 999).isSome) := by
  rw [numR_narrow (cutTail 46 s) (-1000000000) 1000000000 0 999 (by omega) (by omega), ← numB_eq]
  unfold readVer
  rw [if_neg (by omega)]
  cases hc : cutAt 46 s with
  | none =>
    have : numB (cutTail 46 s) = none := by
      unfold cutTail
      rw [hc, numB_eq]
      rfl
    rw [this]
    rfl
  | some k =>
    cases hn : numB (cutTail 46 s) with
    | none => simp
    | some v =>
      by_cases h1 : isNm (cutHead 46 s) = true
      · by_cases h2 : 0 ≤ v ∧ v ≤ 999
        · simp [h1, h2]
        · simp [h1, h2]
      · simp [h1]

theorem cutHead_size (c : UInt8) (s : BA) : (cutHead c s).size ≤ s.size := by
  unfold cutHead
  split
  · simp only [ByteArray.size_extract]; omega
  · exact Nat.le_refl _
theorem cutTail_size (c : UInt8) (s : BA) : (cutTail c s).size ≤ s.size := by
  unfold cutTail
  split
  · simp only [ByteArray.size_extract]; omega
  · exact Nat.zero_le _

set_option maxHeartbeats 1000000 in
theorem variable_any (w : World) (tb tg : Nat) (htg : tg = 0 ∨ tg = 1) (s : BA) (hs : s.size ≤ 4294967280) (ht : w.cell? ⟨tb, 2, none⟩ = some (.bool (decide (tg = 1)))) :
    Calls Tryz.prog 156 #[.pointer (some ⟨tb, 0, none⟩), .string s] w fun e w' => e = .returned (.bool (readVer tg s).isSome) ∧ ∃ n, w' = w.drewN n := by
  rcases htg with rfl | rfl
  · have HV : Hid ((readVer 0 s).isSome = isNm s) := by
      show _ = _
      unfold readVer
      rw [if_pos rfl]
      split <;> simp [*]
    have ht' : w.cell? ⟨tb, 2, none⟩ = some (.bool false) := ht
    clear ht
    go_enter Tryz.func156, Tryz.ntmps156
    go_wp2_with (first | (go_at_call 176; refine (rIsName_any _ s hs).mono ?_; rintro e w1 ⟨rfl, rfl⟩))
    go_ret
    exact ⟨by rw [HV.out]; rfl, 0, rfl⟩
  · have HV : Hid _ := readVer_one s
    have ht' : w.cell? ⟨tb, 2, none⟩ = some (.bool true) := ht
    have hs1 : (cutHead 46 s).size ≤ 4294967280 := Nat.le_trans (cutHead_size 46 s) hs
    have hs2 : (cutTail 46 s).size ≤ 4294967280 := Nat.le_trans (cutTail_size 46 s) hs
    clear ht
    go_enter Tryz.func156, Tryz.ntmps156
    go_wp2_with (first
      | (go_at_call 92; refine (cut_any _ s 46 hs).mono ?_; rintro e w1 ⟨rfl, n, rfl⟩)
      | (go_at_call 176; refine (rIsName_any _ _ hs1).mono ?_; rintro e w1 ⟨rfl, rfl⟩)
      | (go_at_call 94; refine (rNumber_any _ _ _ _ hs2 (by omega) (by omega) (by omega) (by omega)).mono ?_; rintro e w1 ⟨n2, rfl, -, rfl⟩))
    all_goals go_ret
    all_goals (refine ⟨?_, n, rfl⟩)
    all_goals (rw [HV.out]; simp [*])

end Go.Proofs.YtbddcodljmglfaaGreatDoor
