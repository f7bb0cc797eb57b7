/- The document's own reading: IsName, cut, first, Number. And what follows on it. -/
import Derived.Test.YtbddcodljmglfaaGreatDoorLeafA
import Derived.Test.YtbddcodljmglfaaGreatDoorMemA
import Derived.Test.YtbddcodljmglfaaGreatDoorMathA
import Derived.Lib.Split
set_option linter.unusedSimpArgs false
set_option linter.unusedVariables false
namespace Go.Proofs.YtbddcodljmglfaaGreatDoor
open Go.RowKit

set_option maxHeartbeats 1000000 in
theorem rIsName_any (w : World) (s : BA) (hs : s.size ≤ 4294967280) : Calls Tryz.prog 176 #[.string s] w fun e w' => e = .returned (.bool (isNm s)) ∧ w' = w := by
  go_enter Tryz.func176, Tryz.ntmps176
  go_wp2_with fail
  go_loopg [3] s.size (fun g i wr => ∃ k : Nat, k + g = s.size ∧ i = .int .i64 k ∧ wr = w ∧ Hid (∀ j (h : j < s.size), j < k → 97 ≤ (s[j]).toNat ∧ (s[j]).toNat ≤ 122))
  case atStart => exact ⟨0, by omega, rfl, rfl, fun j _ hj => absurd hj (by omega)⟩
  case round =>
    obtain ⟨k, hkg, rfl, rfl, hall⟩ := hrel
    by_cases hlt : k < s.size
    · go_wp2_with fail
      · rename_i hA hB
        have hno : isNm s = false := by
          rw [← Bool.not_eq_true, isNm_iff]
          rintro ⟨-, -, h⟩
          have := h k hlt
          omega
        go_ret
        exact ⟨by first | rfl | (rw [hno]; rfl), rfl⟩
      · rename_i hA hB
        have hok : 97 ≤ (s[k]).toNat ∧ (s[k]).toNat ≤ 122 := by omega
        go_roundg (s.size - (k + 1))
        case measure => omega
        case rel => exact ⟨k + 1, by omega, by go_num, rfl, fun j h hj => by rcases Nat.lt_or_eq_of_le (Nat.le_of_lt_succ hj) with h' | h'; exact hall.out j h h'; subst h'; exact hok⟩
      · rename_i hB
        have hno : isNm s = false := by
          rw [← Bool.not_eq_true, isNm_iff]
          rintro ⟨-, -, h⟩
          have := h k hlt
          omega
        go_ret
        exact ⟨by first | rfl | (rw [hno]; rfl), rfl⟩
    · have hiff : isNm s = (decide (1 ≤ s.size) && decide (s.size ≤ 3)) := by
        rw [Bool.eq_iff_iff, isNm_iff, Bool.and_eq_true, decide_eq_true_eq, decide_eq_true_eq]
        exact ⟨fun h => ⟨h.1, h.2.1⟩, fun h => ⟨h.1, h.2, fun j hj => hall.out j hj (by omega)⟩⟩
      have HI : Hid _ := hiff
      clear hiff
      by_cases h1 : 1 ≤ s.size
      · by_cases h3 : s.size ≤ 3
        · go_wp2_with fail
          go_ret
          exact ⟨by rw [HI.out]; simp [h1, h3]; omega, rfl⟩
        · go_wp2_with fail
          go_ret
          exact ⟨by rw [HI.out]; simp [h1, h3]; omega, rfl⟩
      · go_wp2_with fail
        go_ret
        exact ⟨by rw [HI.out]; simp [h1], rfl⟩

theorem cutAt_some {c : UInt8} {s : BA} {k : Nat} (h : k < s.size) (hk : s[k] = c) (hno : ∀ j (hj : j < s.size), j < k → s[j] ≠ c) : cutAt c s = some k := by
  unfold cutAt
  have hl : k < s.data.toList.length := by rw [Array.length_toList]; exact h
  rw [List.findIdx?_eq_some_iff_getElem]
  refine ⟨hl, by rw [ba_get s k h, hk]; simp, fun j hj => ?_⟩
  have hjs : j < s.size := by omega
  rw [ba_get s j hjs]
  simpa using hno j hjs hj
theorem cutAt_none {c : UInt8} {s : BA} (hno : ∀ j (hj : j < s.size), s[j] ≠ c) : cutAt c s = none := by
  unfold cutAt
  rw [List.findIdx?_eq_none_iff]
  intro x hx
  obtain ⟨j, hj, rfl⟩ := List.getElem_of_mem hx
  have hjs : j < s.size := by rw [Array.length_toList] at hj; exact hj
  have := hno j hjs
  rw [← ba_get s j hjs] at this
  simpa using this

set_option maxHeartbeats 1000000 in
theorem cut_any (w : World) (s : BA) (c : UInt8) (hs : s.size ≤ 4294967280) : Calls Tryz.prog 92 #[.string s, .int .u8 (c.toNat : Nat)] w fun e w' => e = .returned (.tuple #[.string (cutHead c s), .string (cutTail c s), .bool (cutAt c s).isSome]) ∧ ∃ n, w' = w.drewN n := by
  go_enter Tryz.func92, Tryz.ntmps92
  go_wp2_with fail
  go_loopg [7] s.size (fun g i wr => ∃ k : Nat, k + g = s.size ∧ i = .int .i64 k ∧ wr = w ∧ Hid (∀ j (h : j < s.size), j < k → s[j] ≠ c))
  case atStart => exact ⟨0, by omega, rfl, rfl, fun j _ hj => absurd hj (by omega)⟩
  case round =>
    obtain ⟨k, hkg, rfl, rfl, hall⟩ := hrel
    by_cases hlt : k < s.size
    · by_cases hq : s[k] = c
      · have hat := cutAt_some hlt hq hall.out
        have H1 : Hid (cutHead c s = s.extract 0 k ∧ cutTail c s = s.extract (k + 1) s.size ∧ (cutAt c s).isSome = true) := by
          show _ ∧ _ ∧ _
          simp [cutHead, cutTail, hat]
        have hq' : (s[k]).toNat = c.toNat := by rw [hq]
        clear hat hq
        go_wp2_with fail
        go_quiet (fail)
        go_wp2_with fail
        go_ret3
        refine ⟨?_, _, rfl⟩
        rw [H1.out.1, H1.out.2.1, H1.out.2.2]
        rfl
      · have hq' : ¬ (s[k]).toNat = c.toNat := fun h => hq (UInt8.toNat_inj.1 h)
        have HQ : Hid (s[k] ≠ c) := hq
        clear hq
        go_wp2_with fail
        go_roundg (s.size - (k + 1))
        case measure => omega
        case rel => exact ⟨k + 1, by omega, by go_num, rfl, fun j h hj => by rcases Nat.lt_or_eq_of_le (Nat.le_of_lt_succ hj) with h' | h'; exact hall.out j h h'; subst h'; exact HQ.out⟩
    · have hat : cutAt c s = none := cutAt_none fun j hj => hall.out j hj (by omega)
      have H1 : Hid (cutHead c s = s ∧ cutTail c s = ByteArray.empty ∧ (cutAt c s).isSome = false) := by
        show _ ∧ _ ∧ _
        simp [cutHead, cutTail, hat]
      clear hat
      go_wp2_with fail
      go_ret3
      refine ⟨?_, 0, rfl⟩
      rw [H1.out.1, H1.out.2.1, H1.out.2.2]
      rfl

theorem first_any (w : World) (s : BA) (hs : s.size ≤ 4294967280) : Calls Tryz.prog 46 #[.string s] w fun e w' => e = .returned (.bool (ByteArray.toList (cutTail 46 s) == [48])) ∧ ∃ n, w' = w.drewN n := by
  go_enter Tryz.func46, Tryz.ntmps46
  go_wp2_with (first | (go_at_call 92; refine (cut_any _ s 46 hs).mono ?_; rintro e w1 ⟨rfl, n, rfl⟩))
  go_ret
  exact ⟨rfl, n, rfl⟩

end Go.Proofs.YtbddcodljmglfaaGreatDoor

namespace Go.Proofs.YtbddcodljmglfaaGreatDoor
open Go.RowKit

def strs (l : List BA) : List Value := l.map Value.string
theorem strs_length (l : List BA) : (strs l).length = l.length := by simp [strs]
theorem infoString : (Tryz.prog.info? 9).map (fun i => (i.zero, i.size, i.bytes)) = some (some (.string ByteArray.empty), 1, 16) := by kernel_rfl
theorem info_parts {t : TypeId} {z : Value} {s b : Nat} (h : (Tryz.prog.info? t).map (fun i => (i.zero, i.size, i.bytes)) = some (some z, s, b)) : ∃ i, Tryz.prog.info? t = some i ∧ i.zero = some z ∧ i.size = s ∧ i.bytes = b := by
  cases hq : Tryz.prog.info? t with
  | none => simp [hq] at h
  | some i => simp [hq] at h; exact ⟨i, rfl, h.1, h.2.1, h.2.2⟩

end Go.Proofs.YtbddcodljmglfaaGreatDoor

namespace Go.Proofs.YtbddcodljmglfaaGreatDoor
open Go.RowKit

set_option maxRecDepth 100000 in
set_option maxHeartbeats 8000000 in
theorem rNumber_plain (w : World) (s : BA) (lo hi : Int) (h45 : s.data.toList.head? ≠ some 45) (hs : s.size ≤ 4294967280) (h1 : -9223372036854775808 ≤ lo) (h2 : hi ≤ 9223372036854775807) (h3 : lo ≤ 9223372036854775807) (h4 : -9223372036854775808 ≤ hi) :
    Calls Tryz.prog 94 #[.string s, .int .i64 lo, .int .i64 hi] w fun e w' => ∃ n : Int, e = .returned (.tuple #[.int .i64 n, .bool (numR s lo hi).isSome]) ∧ (∀ v, numR s lo hi = some v → n = v) ∧ w' = w := by
  have HN : Hid (numR s lo hi = if digsOk true s.data.toList = true ∧ lo ≤ (digVal 0 s.data.toList : Int) ∧ (digVal 0 s.data.toList : Int) ≤ hi then some (digVal 0 s.data.toList : Int) else none) := by
    show _ = _
    unfold numR; rw [if_neg h45]
  have h0 : ∀ (h : 0 < s.size), s[0] ≠ 45 := fun h e => h45 (by rw [head_ba h, e])
  clear h45
  go_enter Tryz.func94, Tryz.ntmps94
  by_cases hz : 0 < s.size
  · have h0' : ¬ (s[0]).toNat = 45 := fun e => h0 hz (UInt8.toNat_inj.1 e)
    clear h0
    by_cases h10 : s.size ≤ 10
    · have HLO : Hid (1 ≤ s.data.toList.length ∧ s.data.toList.length ≤ 10) := by show _ ∧ _; rw [len_ba]; omega
      by_cases h48 : (s[0]).toNat = 48
      · have h48' : s.data.toList.head? = some 48 := by rw [head_ba hz, show s[0] = 48 from UInt8.toNat_inj.1 h48]
        by_cases hl : ByteArray.toList s = [48]
        · have HOK : Hid (s.data.toList.head? ≠ some 48 ∨ (true = true ∧ s.data.toList = [48])) := .inr ⟨rfl, by rw [← ByteArray.toList_eq]; exact hl⟩
          have hl' : (ByteArray.toList s == [48]) = true := by rw [hl]; rfl
          clear hl h48'
          go_wp2_with fail
          go_loopg [10, 11] s.size (fun g s10 s11 wr => ∃ k : Nat, k + g = s.size ∧ s11 = .int .i64 k ∧ s10 = .int .i64 (digVal 0 (s.data.toList.take k) : Nat) ∧ wr = w ∧ Hid (∀ j (h : j < s.size), j < k → isDig s[j] = true))
          case atStart => exact ⟨0, by omega, rfl, rfl, rfl, fun j _ hj => absurd hj (by omega)⟩
          case round =>
            obtain ⟨k, hkg, rfl, rfl, rfl, hall⟩ := hrel
            have hval : digVal 0 (s.data.toList.take k) < 10000000000 := by
              have h9 := digVal_lt (s.data.toList.take k) (fun b hb => by
                obtain ⟨j, hj, rfl⟩ := List.getElem_of_mem hb
                rw [List.length_take, len_ba] at hj
                rw [List.getElem_take, ba_get s j (by omega)]
                exact hall.out j (by omega) (by omega)) 0 0 (by decide)
              have h8 : (10 : Nat) ^ (0 + (s.data.toList.take k).length) ≤ 10 ^ 10 := Nat.pow_le_pow_right (by decide) (by rw [List.length_take, len_ba]; omega)
              omega
            by_cases hlt : k < s.size
            · have HS : Hid (digVal 0 (s.data.toList.take (k + 1)) = 10 * digVal 0 (s.data.toList.take k) + ((s[k]).toNat - 48)) := by
                show _ = _
                rw [take_succ_ba s k hlt, digVal_snoc]
              generalize digVal 0 (s.data.toList.take k) = N at hval HS ⊢
              by_cases hlo : 48 ≤ (s[k]).toNat
              · by_cases hhi : (s[k]).toNat ≤ 57
                · have hb : Hid (isDig s[k] = true) := isDig_of hlo hhi
                  generalize hx : (s[k]).toNat = X at hlo hhi HS
                  go_wp2_with fail
                  go_roundg (s.size - (k + 1))
                  case measure => omega
                  case rel => exact ⟨k + 1, by omega, by go_num, by rw [HS.out]; (first | (go_num; done) | (congr 1; push_cast; omega)), rfl, fun j h hj => by rcases Nat.lt_or_eq_of_le (Nat.le_of_lt_succ hj) with h' | h'; exact hall.out j h h'; subst h'; exact hb.out⟩
                · have hb : isDig s[k] = false := by simp [isDig, hhi]
                  have hno : Hid (numR s lo hi = none) := by
                    show _ = _
                    rw [HN.out, if_neg (fun h => by rw [digsOk_dig (k := k) (by rw [len_ba]; exact hlt) (by rw [ba_get s k hlt]; exact hb)] at h; exact absurd h.1 (by decide))]
                  go_wp2_with fail
                  go_ret2
                  exact ⟨_, (by rw [hno.out]; rfl), (fun v hv => by rw [hno.out] at hv; cases hv), rfl⟩
              · have hb : isDig s[k] = false := by simp [isDig, hlo]
                have hno : Hid (numR s lo hi = none) := by
                  show _ = _
                  rw [HN.out, if_neg (fun h => by rw [digsOk_dig (k := k) (by rw [len_ba]; exact hlt) (by rw [ba_get s k hlt]; exact hb)] at h; exact absurd h.1 (by decide))]
                go_wp2_with fail
                go_ret2
                exact ⟨_, (by rw [hno.out]; rfl), (fun v hv => by rw [hno.out] at hv; cases hv), rfl⟩
            · obtain rfl : k = s.size := by omega
              have hfull : s.data.toList.take s.size = s.data.toList := by rw [← len_ba]; exact List.take_length
              rw [hfull] at hval ⊢
              have hyes := digsOk_yes (p := true) HLO.out.1 HLO.out.2 (HOK.out.imp id (fun h => ⟨rfl, h.2⟩)) (all_ba (fun j hj => hall.out j hj hj))
              have HV : Hid (numR s lo hi = if lo ≤ ((digVal 0 s.data.toList : Int)) ∧ ((digVal 0 s.data.toList : Int)) ≤ hi then some ((digVal 0 s.data.toList : Int)) else none) := by
                show _ = _
                rw [HN.out]
                simp only [hyes, true_and]
              clear hyes hfull
              generalize digVal 0 s.data.toList = N at hval HV ⊢
              by_cases ha : lo ≤ ((N : Int))
              · by_cases hb : ((N : Int)) ≤ hi
                · go_wp2_with fail
                  go_ret2
                  refine ⟨(N : Int), ?_, fun v hv => ?_, rfl⟩
                  · rw [HV.out, if_pos ⟨ha, hb⟩]; (first | rfl | simp [ha, hb])
                  · rw [HV.out, if_pos ⟨ha, hb⟩] at hv; injection hv
                · go_wp2_with fail
                  go_ret2
                  refine ⟨(N : Int), ?_, fun v hv => ?_, rfl⟩
                  · rw [HV.out, if_neg (fun h => by omega)]; (first | rfl | (simp [ha, hb]; try omega))
                  · rw [HV.out, if_neg (fun h => by omega)] at hv; cases hv
              · go_wp2_with fail
                go_ret2
                refine ⟨(N : Int), ?_, fun v hv => ?_, rfl⟩
                · rw [HV.out, if_neg (fun h => by omega)]; (first | rfl | (simp [ha]; try omega))
                · rw [HV.out, if_neg (fun h => by omega)] at hv; cases hv
        · have hl' : (ByteArray.toList s == [48]) = false := by simpa using hl
          have hno : Hid (numR s lo hi = none) := by
            show _ = _
            rw [HN.out, if_neg (fun h => by rw [digsOk_zero h48' (fun _ e => hl (by rw [ByteArray.toList_eq]; exact e))] at h; exact absurd h.1 (by decide))]
          clear hl h48'
          go_wp2_with fail
          go_ret2
          exact ⟨_, (by rw [hno.out]; rfl), (fun v hv => by rw [hno.out] at hv; cases hv), rfl⟩
      · have HOK : Hid (s.data.toList.head? ≠ some 48 ∨ (true = true ∧ s.data.toList = [48])) := .inl (by rw [head_ba hz]; intro e; injection e with e; exact h48 (by rw [e]; rfl))
        go_wp2_with fail
        go_loopg [10, 11] s.size (fun g s10 s11 wr => ∃ k : Nat, k + g = s.size ∧ s11 = .int .i64 k ∧ s10 = .int .i64 (digVal 0 (s.data.toList.take k) : Nat) ∧ wr = w ∧ Hid (∀ j (h : j < s.size), j < k → isDig s[j] = true))
        case atStart => exact ⟨0, by omega, rfl, rfl, rfl, fun j _ hj => absurd hj (by omega)⟩
        case round =>
          obtain ⟨k, hkg, rfl, rfl, rfl, hall⟩ := hrel
          have hval : digVal 0 (s.data.toList.take k) < 10000000000 := by
            have h9 := digVal_lt (s.data.toList.take k) (fun b hb => by
              obtain ⟨j, hj, rfl⟩ := List.getElem_of_mem hb
              rw [List.length_take, len_ba] at hj
              rw [List.getElem_take, ba_get s j (by omega)]
              exact hall.out j (by omega) (by omega)) 0 0 (by decide)
            have h8 : (10 : Nat) ^ (0 + (s.data.toList.take k).length) ≤ 10 ^ 10 := Nat.pow_le_pow_right (by decide) (by rw [List.length_take, len_ba]; omega)
            omega
          by_cases hlt : k < s.size
          · have HS : Hid (digVal 0 (s.data.toList.take (k + 1)) = 10 * digVal 0 (s.data.toList.take k) + ((s[k]).toNat - 48)) := by
              show _ = _
              rw [take_succ_ba s k hlt, digVal_snoc]
            generalize digVal 0 (s.data.toList.take k) = N at hval HS ⊢
            by_cases hlo : 48 ≤ (s[k]).toNat
            · by_cases hhi : (s[k]).toNat ≤ 57
              · have hb : Hid (isDig s[k] = true) := isDig_of hlo hhi
                generalize hx : (s[k]).toNat = X at hlo hhi HS
                go_wp2_with fail
                go_roundg (s.size - (k + 1))
                case measure => omega
                case rel => exact ⟨k + 1, by omega, by go_num, by rw [HS.out]; (first | (go_num; done) | (congr 1; push_cast; omega)), rfl, fun j h hj => by rcases Nat.lt_or_eq_of_le (Nat.le_of_lt_succ hj) with h' | h'; exact hall.out j h h'; subst h'; exact hb.out⟩
              · have hb : isDig s[k] = false := by simp [isDig, hhi]
                have hno : Hid (numR s lo hi = none) := by
                  show _ = _
                  rw [HN.out, if_neg (fun h => by rw [digsOk_dig (k := k) (by rw [len_ba]; exact hlt) (by rw [ba_get s k hlt]; exact hb)] at h; exact absurd h.1 (by decide))]
                go_wp2_with fail
                go_ret2
                exact ⟨_, (by rw [hno.out]; rfl), (fun v hv => by rw [hno.out] at hv; cases hv), rfl⟩
            · have hb : isDig s[k] = false := by simp [isDig, hlo]
              have hno : Hid (numR s lo hi = none) := by
                show _ = _
                rw [HN.out, if_neg (fun h => by rw [digsOk_dig (k := k) (by rw [len_ba]; exact hlt) (by rw [ba_get s k hlt]; exact hb)] at h; exact absurd h.1 (by decide))]
              go_wp2_with fail
              go_ret2
              exact ⟨_, (by rw [hno.out]; rfl), (fun v hv => by rw [hno.out] at hv; cases hv), rfl⟩
          · obtain rfl : k = s.size := by omega
            have hfull : s.data.toList.take s.size = s.data.toList := by rw [← len_ba]; exact List.take_length
            rw [hfull] at hval ⊢
            have hyes := digsOk_yes (p := true) HLO.out.1 HLO.out.2 (HOK.out.imp id (fun h => ⟨rfl, h.2⟩)) (all_ba (fun j hj => hall.out j hj hj))
            have HV : Hid (numR s lo hi = if lo ≤ ((digVal 0 s.data.toList : Int)) ∧ ((digVal 0 s.data.toList : Int)) ≤ hi then some ((digVal 0 s.data.toList : Int)) else none) := by
              show _ = _
              rw [HN.out]
              simp only [hyes, true_and]
            clear hyes hfull
            generalize digVal 0 s.data.toList = N at hval HV ⊢
            by_cases ha : lo ≤ ((N : Int))
            · by_cases hb : ((N : Int)) ≤ hi
              · go_wp2_with fail
                go_ret2
                refine ⟨(N : Int), ?_, fun v hv => ?_, rfl⟩
                · rw [HV.out, if_pos ⟨ha, hb⟩]; (first | rfl | simp [ha, hb])
                · rw [HV.out, if_pos ⟨ha, hb⟩] at hv; injection hv
              · go_wp2_with fail
                go_ret2
                refine ⟨(N : Int), ?_, fun v hv => ?_, rfl⟩
                · rw [HV.out, if_neg (fun h => by omega)]; (first | rfl | (simp [ha, hb]; try omega))
                · rw [HV.out, if_neg (fun h => by omega)] at hv; cases hv
            · go_wp2_with fail
              go_ret2
              refine ⟨(N : Int), ?_, fun v hv => ?_, rfl⟩
              · rw [HV.out, if_neg (fun h => by omega)]; (first | rfl | (simp [ha]; try omega))
              · rw [HV.out, if_neg (fun h => by omega)] at hv; cases hv
    · have hno : Hid (numR s lo hi = none) := by
        show _ = _
        rw [HN.out, if_neg (fun h => by rw [digsOk_len (by rw [len_ba]; omega)] at h; exact absurd h.1 (by decide))]
      go_wp2_with fail
      go_ret2
      exact ⟨_, (by rw [hno.out]; rfl), (fun v hv => by rw [hno.out] at hv; cases hv), rfl⟩
  · have hno : Hid (numR s lo hi = none) := by
      show _ = _
      rw [HN.out, if_neg (fun h => by rw [digsOk_len (by rw [len_ba]; omega)] at h; exact absurd h.1 (by decide))]
    go_wp2_with fail
    go_ret2
    exact ⟨_, (by rw [hno.out]; rfl), (fun v hv => by rw [hno.out] at hv; cases hv), rfl⟩

set_option maxRecDepth 100000 in
set_option maxHeartbeats 8000000 in
theorem rNumber_neg (w : World) (s : BA) (lo hi : Int) (h45 : s.data.toList.head? = some 45) (hs : s.size ≤ 4294967280) (h1 : -9223372036854775808 ≤ lo) (h2 : hi ≤ 9223372036854775807) (h3 : lo ≤ 9223372036854775807) (h4 : -9223372036854775808 ≤ hi) :
    Calls Tryz.prog 94 #[.string s, .int .i64 lo, .int .i64 hi] w fun e w' => ∃ n : Int, e = .returned (.tuple #[.int .i64 n, .bool (numR s lo hi).isSome]) ∧ (∀ v, numR s lo hi = some v → n = v) ∧ w' = w := by
  have hz : 0 < s.size := by
    rcases Nat.eq_zero_or_pos s.size with h | h
    · have : s.data.toList = [] := List.eq_nil_of_length_eq_zero (by rw [len_ba]; exact h)
      rw [this] at h45
      cases h45
    · exact h
  obtain ⟨d, hd⟩ : ∃ d, s.extract 1 s.size = d := ⟨_, rfl⟩
  have hdl : d.data.toList = s.data.toList.tail := by
    rw [← hd, Lib.extract_to_end, List.drop_one]
  have HN : Hid (numR s lo hi = if digsOk false d.data.toList = true ∧ lo ≤ -(digVal 0 d.data.toList : Int) ∧ -(digVal 0 d.data.toList : Int) ≤ hi then some (-(digVal 0 d.data.toList : Int)) else none) := by
    show _ = _
    unfold numR; rw [if_pos h45, hdl]
  have h0' : (s[0]).toNat = 45 := by
    rw [head_ba hz] at h45
    injection h45 with h45
    rw [h45]; rfl
  have hds : d.size ≤ 4294967280 := by
    have := congrArg List.length hdl
    rw [len_ba, List.length_tail, len_ba] at this
    omega
  have hl' : (ByteArray.toList s == [48]) = false := by
    rw [beq_eq_false_iff_ne]
    intro e
    rw [ByteArray.toList_eq] at e
    rw [e] at h45
    cases h45
  clear h45 hdl
  go_enter Tryz.func94, Tryz.ntmps94
  by_cases hdz : 0 < d.size
  · by_cases h10 : d.size ≤ 10
    · have HLO : Hid (1 ≤ d.data.toList.length ∧ d.data.toList.length ≤ 10) := by show _ ∧ _; rw [len_ba]; omega
      by_cases h48 : (d[0]).toNat = 48
      · have h48' : d.data.toList.head? = some 48 := by rw [head_ba hdz, show d[0] = 48 from UInt8.toNat_inj.1 h48]
        have hno : Hid (numR s lo hi = none) := by
          show _ = _
          rw [HN.out, if_neg (fun h => by rw [digsOk_zero h48' (fun e => absurd e (by decide))] at h; exact absurd h.1 (by decide))]
        clear h48'
        go_wp2_with fail
        go_ret2
        exact ⟨_, (by rw [hno.out]; rfl), (fun v hv => by rw [hno.out] at hv; cases hv), rfl⟩
      · have HOK : Hid (d.data.toList.head? ≠ some 48 ∨ (false = true ∧ d.data.toList = [48])) := .inl (by rw [head_ba hdz]; intro e; injection e with e; exact h48 (by rw [e]; rfl))
        go_wp2_with fail
        go_loopg [10, 11] d.size (fun g s10 s11 wr => ∃ k : Nat, k + g = d.size ∧ s11 = .int .i64 k ∧ s10 = .int .i64 (digVal 0 (d.data.toList.take k) : Nat) ∧ wr = w ∧ Hid (∀ j (h : j < d.size), j < k → isDig d[j] = true))
        case atStart => exact ⟨0, by omega, rfl, rfl, rfl, fun j _ hj => absurd hj (by omega)⟩
        case round =>
          obtain ⟨k, hkg, rfl, rfl, rfl, hall⟩ := hrel
          have hval : digVal 0 (d.data.toList.take k) < 10000000000 := by
            have h9 := digVal_lt (d.data.toList.take k) (fun b hb => by
              obtain ⟨j, hj, rfl⟩ := List.getElem_of_mem hb
              rw [List.length_take, len_ba] at hj
              rw [List.getElem_take, ba_get d j (by omega)]
              exact hall.out j (by omega) (by omega)) 0 0 (by decide)
            have h8 : (10 : Nat) ^ (0 + (d.data.toList.take k).length) ≤ 10 ^ 10 := Nat.pow_le_pow_right (by decide) (by rw [List.length_take, len_ba]; omega)
            omega
          by_cases hlt : k < d.size
          · have HS : Hid (digVal 0 (d.data.toList.take (k + 1)) = 10 * digVal 0 (d.data.toList.take k) + ((d[k]).toNat - 48)) := by
              show _ = _
              rw [take_succ_ba d k hlt, digVal_snoc]
            generalize digVal 0 (d.data.toList.take k) = N at hval HS ⊢
            by_cases hlo : 48 ≤ (d[k]).toNat
            · by_cases hhi : (d[k]).toNat ≤ 57
              · have hb : Hid (isDig d[k] = true) := isDig_of hlo hhi
                generalize hx : (d[k]).toNat = X at hlo hhi HS
                go_wp2_with fail
                go_roundg (d.size - (k + 1))
                case measure => omega
                case rel => exact ⟨k + 1, by omega, by go_num, by rw [HS.out]; (first | (go_num; done) | (congr 1; push_cast; omega)), rfl, fun j h hj => by rcases Nat.lt_or_eq_of_le (Nat.le_of_lt_succ hj) with h' | h'; exact hall.out j h h'; subst h'; exact hb.out⟩
              · have hb : isDig d[k] = false := by simp [isDig, hhi]
                have hno : Hid (numR s lo hi = none) := by
                  show _ = _
                  rw [HN.out, if_neg (fun h => by rw [digsOk_dig (k := k) (by rw [len_ba]; exact hlt) (by rw [ba_get d k hlt]; exact hb)] at h; exact absurd h.1 (by decide))]
                go_wp2_with fail
                go_ret2
                exact ⟨_, (by rw [hno.out]; rfl), (fun v hv => by rw [hno.out] at hv; cases hv), rfl⟩
            · have hb : isDig d[k] = false := by simp [isDig, hlo]
              have hno : Hid (numR s lo hi = none) := by
                show _ = _
                rw [HN.out, if_neg (fun h => by rw [digsOk_dig (k := k) (by rw [len_ba]; exact hlt) (by rw [ba_get d k hlt]; exact hb)] at h; exact absurd h.1 (by decide))]
              go_wp2_with fail
              go_ret2
              exact ⟨_, (by rw [hno.out]; rfl), (fun v hv => by rw [hno.out] at hv; cases hv), rfl⟩
          · obtain rfl : k = d.size := by omega
            have hfull : d.data.toList.take d.size = d.data.toList := by rw [← len_ba]; exact List.take_length
            rw [hfull] at hval ⊢
            have hyes := digsOk_yes (p := false) HLO.out.1 HLO.out.2 (HOK.out.imp id (fun h => absurd h (by simp))) (all_ba (fun j hj => hall.out j hj hj))
            have HV : Hid (numR s lo hi = if lo ≤ (-(digVal 0 d.data.toList : Int)) ∧ (-(digVal 0 d.data.toList : Int)) ≤ hi then some (-(digVal 0 d.data.toList : Int)) else none) := by
              show _ = _
              rw [HN.out]
              simp only [hyes, true_and]
            clear hyes hfull
            generalize digVal 0 d.data.toList = N at hval HV ⊢
            by_cases ha : lo ≤ (-(N : Int))
            · by_cases hb : (-(N : Int)) ≤ hi
              · go_wp2_with fail
                go_ret2
                refine ⟨-(N : Int), ?_, fun v hv => ?_, rfl⟩
                · rw [HV.out, if_pos ⟨ha, hb⟩]; (first | rfl | simp [ha, hb])
                · rw [HV.out, if_pos ⟨ha, hb⟩] at hv; injection hv
              · go_wp2_with fail
                go_ret2
                refine ⟨-(N : Int), ?_, fun v hv => ?_, rfl⟩
                · rw [HV.out, if_neg (fun h => by omega)]; (first | rfl | (simp [ha, hb]; try omega))
                · rw [HV.out, if_neg (fun h => by omega)] at hv; cases hv
            · go_wp2_with fail
              go_ret2
              refine ⟨-(N : Int), ?_, fun v hv => ?_, rfl⟩
              · rw [HV.out, if_neg (fun h => by omega)]; (first | rfl | (simp [ha]; try omega))
              · rw [HV.out, if_neg (fun h => by omega)] at hv; cases hv
    · have hno : Hid (numR s lo hi = none) := by
        show _ = _
        rw [HN.out, if_neg (fun h => by rw [digsOk_len (by rw [len_ba]; omega)] at h; exact absurd h.1 (by decide))]
      go_wp2_with fail
      go_ret2
      exact ⟨_, (by rw [hno.out]; rfl), (fun v hv => by rw [hno.out] at hv; cases hv), rfl⟩
  · have hno : Hid (numR s lo hi = none) := by
      show _ = _
      rw [HN.out, if_neg (fun h => by rw [digsOk_len (by rw [len_ba]; omega)] at h; exact absurd h.1 (by decide))]
    go_wp2_with fail
    go_ret2
    exact ⟨_, (by rw [hno.out]; rfl), (fun v hv => by rw [hno.out] at hv; cases hv), rfl⟩

theorem rNumber_any (w : World) (s : BA) (lo hi : Int) (hs : s.size ≤ 4294967280) (h1 : -9223372036854775808 ≤ lo) (h2 : hi ≤ 9223372036854775807) (h3 : lo ≤ 9223372036854775807) (h4 : -9223372036854775808 ≤ hi) :
    Calls Tryz.prog 94 #[.string s, .int .i64 lo, .int .i64 hi] w fun e w' => ∃ n : Int, e = .returned (.tuple #[.int .i64 n, .bool (numR s lo hi).isSome]) ∧ (∀ v, numR s lo hi = some v → n = v) ∧ w' = w := by
  by_cases h45 : s.data.toList.head? = some 45
  · exact rNumber_neg w s lo hi h45 hs h1 h2 h3 h4
  · exact rNumber_plain w s lo hi h45 hs h1 h2 h3 h4

end Go.Proofs.YtbddcodljmglfaaGreatDoor
