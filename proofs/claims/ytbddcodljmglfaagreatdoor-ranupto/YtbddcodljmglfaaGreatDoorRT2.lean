/- The document's own Number. -/
import Derived.Test.YtbddcodljmglfaaGreatDoorRT1
import Derived.Test.YtbddcodljmglfaaGreatDoorMathA
import Derived.Lib.Split
set_option linter.unusedSimpArgs false
set_option linter.unusedVariables false
namespace Go.Proofs.YtbddcodljmglfaaGreatDoor
open Go.RowKit

set_option maxRecDepth 100000 in
set_option maxHeartbeats 8000000 in
theorem rNumber_plain (w : World) (s : BA) (lo hi : Int) (h45 : s.data.toList.head? ≠ some 45) (hs : s.size ≤ 4294967280) (h1 : -9223372036854775808 ≤ lo) (h2 : hi ≤ 9223372036854775807) (h3 : lo ≤ 9223372036854775807) (h4 : -9223372036854775808 ≤ hi) :
    Calls Tryz.prog 94 #[.string s, .int .i64 lo, .int .i64 hi] w fun e w' => ∃ n : Int, e = .returned (.tuple #[.int .i64 n, .bool (numR s lo hi).isSome]) ∧ (∀ v, numR s lo hi = some v → n = v) ∧ w' = w := by
  have HN : Hid (numR s lo hi = if digsOk true s.data.toList = true ∧ lo ≤ (digVal 0 s.data.toList : Int) ∧ (digVal 0 s.data.toList : Int) ≤ hi then some (digVal 0 s.data.toList : Int) else none) := by
    show _ = _
    unfold numR; rw [if_neg h45]
  have h0 : ∀ (h : 0 < s.size), s[0] ≠ 45 := fun h e => h45 (by rw [head_ba h, e])
  clear h45
  go_enter Tryz.func94, Tryz.ntmps94
  by_cases hz : 0 < s.size
  · have h0' : ¬ (s[0]).toNat = 45 := fun e => h0 hz (UInt8.toNat_inj.1 e)
    clear h0
    by_cases h10 : s.size ≤ 10
    · have HLO : Hid (1 ≤ s.data.toList.length ∧ s.data.toList.length ≤ 10) := by show _ ∧ _; rw [len_ba]; omega
      by_cases h48 : (s[0]).toNat = 48
      · have h48' : s.data.toList.head? = some 48 := by rw [head_ba hz, show s[0] = 48 from UInt8.toNat_inj.1 h48]
        by_cases hl : ByteArray.toList s = [48]
        · have HOK : Hid (s.data.toList.head? ≠ some 48 ∨ (true = true ∧ s.data.toList = [48])) := .inr ⟨rfl, by rw [← ByteArray.toList_eq]; exact hl⟩
          have hl' : (ByteArray.toList s == [48]) = true := by rw [hl]; rfl
          clear hl h48'
          go_wp2_with fail
          go_loopg [10, 11] s.size (fun g s10 s11 wr => ∃ k : Nat, k + g = s.size ∧ s11 = .int .i64 k ∧ s10 = .int .i64 (digVal 0 (s.data.toList.take k) : Nat) ∧ wr = w ∧ Hid (∀ j (h : j < s.size), j < k → isDig s[j] = true))
          case atStart => exact ⟨0, by omega, rfl, rfl, rfl, fun j _ hj => absurd hj (by omega)⟩
          case round =>
            obtain ⟨k, hkg, rfl, rfl, rfl, hall⟩ := hrel
            have hval : digVal 0 (s.data.toList.take k) < 10000000000 := by
              have h9 := digVal_lt (s.data.toList.take k) (fun b hb => by
                obtain ⟨j, hj, rfl⟩ := List.getElem_of_mem hb
                rw [List.length_take, len_ba] at hj
                rw [List.getElem_take, ba_get s j (by omega)]
                exact hall.out j (by omega) (by omega)) 0 0 (by decide)
              have h8 : (10 : Nat) ^ (0 + (s.data.toList.take k).length) ≤ 10 ^ 10 := Nat.pow_le_pow_right (by decide) (by rw [List.length_take, len_ba]; omega)
              omega
            by_cases hlt : k < s.size
            · have HS : Hid (digVal 0 (s.data.toList.take (k + 1)) = 10 * digVal 0 (s.data.toList.take k) + ((s[k]).toNat - 48)) := by
                show _ = _
                rw [take_succ_ba s k hlt, digVal_snoc]
              generalize digVal 0 (s.data.toList.take k) = N at hval HS ⊢
              by_cases hlo : 48 ≤ (s[k]).toNat
              · by_cases hhi : (s[k]).toNat ≤ 57
                · have hb : Hid (isDig s[k] = true) := isDig_of hlo hhi
                  generalize hx : (s[k]).toNat = X at hlo hhi HS
                  go_wp2_with fail
                  go_roundg (s.size - (k + 1))
                  case measure => omega
                  case rel => exact ⟨k + 1, by omega, by go_num, by rw [HS.out]; (first | (go_num; done) | (congr 1; push_cast; omega)), rfl, fun j h hj => by rcases Nat.lt_or_eq_of_le (Nat.le_of_lt_succ hj) with h' | h'; exact hall.out j h h'; subst h'; exact hb.out⟩
                · have hb : isDig s[k] = false := by simp [isDig, hhi]
                  have hno : Hid (numR s lo hi = none) := by
                    show _ = _
                    rw [HN.out, if_neg (fun h => by rw [digsOk_dig (k := k) (by rw [len_ba]; exact hlt) (by rw [ba_get s k hlt]; exact hb)] at h; exact absurd h.1 (by decide))]
                  go_wp2_with fail
                  go_ret2
                  exact ⟨_, (by rw [hno.out]; rfl), (fun v hv => by rw [hno.out] at hv; cases hv), rfl⟩
              · have hb : isDig s[k] = false := by simp [isDig, hlo]
                have hno : Hid (numR s lo hi = none) := by
                  show _ = _
                  rw [HN.out, if_neg (fun h => by rw [digsOk_dig (k := k) (by rw [len_ba]; exact hlt) (by rw [ba_get s k hlt]; exact hb)] at h; exact absurd h.1 (by decide))]
                go_wp2_with fail
                go_ret2
                exact ⟨_, (by rw [hno.out]; rfl), (fun v hv => by rw [hno.out] at hv; cases hv), rfl⟩
            · obtain rfl : k = s.size := by omega
              have hfull : s.data.toList.take s.size = s.data.toList := by rw [← len_ba]; exact List.take_length
              rw [hfull] at hval ⊢
              have hyes := digsOk_yes (p := true) HLO.out.1 HLO.out.2 (HOK.out.imp id (fun h => ⟨rfl, h.2⟩)) (all_ba (fun j hj => hall.out j hj hj))
              have HV : Hid (numR s lo hi = if lo ≤ ((digVal 0 s.data.toList : Int)) ∧ ((digVal 0 s.data.toList : Int)) ≤ hi then some ((digVal 0 s.data.toList : Int)) else none) := by
                show _ = _
                rw [HN.out]
                simp only [hyes, true_and]
              clear hyes hfull
              generalize digVal 0 s.data.toList = N at hval HV ⊢
              by_cases ha : lo ≤ ((N : Int))
              · by_cases hb : ((N : Int)) ≤ hi
                · go_wp2_with fail
                  go_ret2
                  refine ⟨(N : Int), ?_, fun v hv => ?_, rfl⟩
                  · rw [HV.out, if_pos ⟨ha, hb⟩]; (first | rfl | simp [ha, hb])
                  · rw [HV.out, if_pos ⟨ha, hb⟩] at hv; injection hv
                · go_wp2_with fail
                  go_ret2
                  refine ⟨(N : Int), ?_, fun v hv => ?_, rfl⟩
                  · rw [HV.out, if_neg (fun h => by omega)]; (first | rfl | (simp [ha, hb]; try omega))
                  · rw [HV.out, if_neg (fun h => by omega)] at hv; cases hv
              · go_wp2_with fail
                go_ret2
                refine ⟨(N : Int), ?_, fun v hv => ?_, rfl⟩
                · rw [HV.out, if_neg (fun h => by omega)]; (first | rfl | (simp [ha]; try omega))
                · rw [HV.out, if_neg (fun h => by omega)] at hv; cases hv
        · have hl' : (ByteArray.toList s == [48]) = false := by simpa using hl
          have hno : Hid (numR s lo hi = none) := by
            show _ = _
            rw [HN.out, if_neg (fun h => by rw [digsOk_zero h48' (fun _ e => hl (by rw [ByteArray.toList_eq]; exact e))] at h; exact absurd h.1 (by decide))]
          clear hl h48'
          go_wp2_with fail
          go_ret2
          exact ⟨_, (by rw [hno.out]; rfl), (fun v hv => by rw [hno.out] at hv; cases hv), rfl⟩
      · have HOK : Hid (s.data.toList.head? ≠ some 48 ∨ (true = true ∧ s.data.toList = [48])) := .inl (by rw [head_ba hz]; intro e; injection e with e; exact h48 (by rw [e]; rfl))
        go_wp2_with fail
        go_loopg [10, 11] s.size (fun g s10 s11 wr => ∃ k : Nat, k + g = s.size ∧ s11 = .int .i64 k ∧ s10 = .int .i64 (digVal 0 (s.data.toList.take k) : Nat) ∧ wr = w ∧ Hid (∀ j (h : j < s.size), j < k → isDig s[j] = true))
        case atStart => exact ⟨0, by omega, rfl, rfl, rfl, fun j _ hj => absurd hj (by omega)⟩
        case round =>
          obtain ⟨k, hkg, rfl, rfl, rfl, hall⟩ := hrel
          have hval : digVal 0 (s.data.toList.take k) < 10000000000 := by
            have h9 := digVal_lt (s.data.toList.take k) (fun b hb => by
              obtain ⟨j, hj, rfl⟩ := List.getElem_of_mem hb
              rw [List.length_take, len_ba] at hj
              rw [List.getElem_take, ba_get s j (by omega)]
              exact hall.out j (by omega) (by omega)) 0 0 (by decide)
            have h8 : (10 : Nat) ^ (0 + (s.data.toList.take k).length) ≤ 10 ^ 10 := Nat.pow_le_pow_right (by decide) (by rw [List.length_take, len_ba]; omega)
            omega
          by_cases hlt : k < s.size
          · have HS : Hid (digVal 0 (s.data.toList.take (k + 1)) = 10 * digVal 0 (s.data.toList.take k) + ((s[k]).toNat - 48)) := by
              show _ = _
              rw [take_succ_ba s k hlt, digVal_snoc]
            generalize digVal 0 (s.data.toList.take k) = N at hval HS ⊢
            by_cases hlo : 48 ≤ (s[k]).toNat
            · by_cases hhi : (s[k]).toNat ≤ 57
              · have hb : Hid (isDig s[k] = true) := isDig_of hlo hhi
                generalize hx : (s[k]).toNat = X at hlo hhi HS
                go_wp2_with fail
                go_roundg (s.size - (k + 1))
                case measure => omega
                case rel => exact ⟨k + 1, by omega, by go_num, by rw [HS.out]; (first | (go_num; done) | (congr 1; push_cast; omega)), rfl, fun j h hj => by rcases Nat.lt_or_eq_of_le (Nat.le_of_lt_succ hj) with h' | h'; exact hall.out j h h'; subst h'; exact hb.out⟩
              · have hb : isDig s[k] = false := by simp [isDig, hhi]
                have hno : Hid (numR s lo hi = none) := by
                  show _ = _
                  rw [HN.out, if_neg (fun h => by rw [digsOk_dig (k := k) (by rw [len_ba]; exact hlt) (by rw [ba_get s k hlt]; exact hb)] at h; exact absurd h.1 (by decide))]
                go_wp2_with fail
                go_ret2
                exact ⟨_, (by rw [hno.out]; rfl), (fun v hv => by rw [hno.out] at hv; cases hv), rfl⟩
            · have hb : isDig s[k] = false := by simp [isDig, hlo]
              have hno : Hid (numR s lo hi = none) := by
                show _ = _
                rw [HN.out, if_neg (fun h => by rw [digsOk_dig (k := k) (by rw [len_ba]; exact hlt) (by rw [ba_get s k hlt]; exact hb)] at h; exact absurd h.1 (by decide))]
              go_wp2_with fail
              go_ret2
              exact ⟨_, (by rw [hno.out]; rfl), (fun v hv => by rw [hno.out] at hv; cases hv), rfl⟩
          · obtain rfl : k = s.size := by omega
            have hfull : s.data.toList.take s.size = s.data.toList := by rw [← len_ba]; exact List.take_length
            rw [hfull] at hval ⊢
            have hyes := digsOk_yes (p := true) HLO.out.1 HLO.out.2 (HOK.out.imp id (fun h => ⟨rfl, h.2⟩)) (all_ba (fun j hj => hall.out j hj hj))
            have HV : Hid (numR s lo hi = if lo ≤ ((digVal 0 s.data.toList : Int)) ∧ ((digVal 0 s.data.toList : Int)) ≤ hi then some ((digVal 0 s.data.toList : Int)) else none) := by
              show _ = _
              rw [HN.out]
              simp only [hyes, true_and]
            clear hyes hfull
            generalize digVal 0 s.data.toList = N at hval HV ⊢
            by_cases ha : lo ≤ ((N : Int))
            · by_cases hb : ((N : Int)) ≤ hi
              · go_wp2_with fail
                go_ret2
                refine ⟨(N : Int), ?_, fun v hv => ?_, rfl⟩
                · rw [HV.out, if_pos ⟨ha, hb⟩]; (first | rfl | simp [ha, hb])
                · rw [HV.out, if_pos ⟨ha, hb⟩] at hv; injection hv
              · go_wp2_with fail
                go_ret2
                refine ⟨(N : Int), ?_, fun v hv => ?_, rfl⟩
                · rw [HV.out, if_neg (fun h => by omega)]; (first | rfl | (simp [ha, hb]; try omega))
                · rw [HV.out, if_neg (fun h => by omega)] at hv; cases hv
            · go_wp2_with fail
              go_ret2
              refine ⟨(N : Int), ?_, fun v hv => ?_, rfl⟩
              · rw [HV.out, if_neg (fun h => by omega)]; (first | rfl | (simp [ha]; try omega))
              · rw [HV.out, if_neg (fun h => by omega)] at hv; cases hv
    · have hno : Hid (numR s lo hi = none) := by
        show _ = _
        rw [HN.out, if_neg (fun h => by rw [digsOk_len (by rw [len_ba]; omega)] at h; exact absurd h.1 (by decide))]
      go_wp2_with fail
      go_ret2
      exact ⟨_, (by rw [hno.out]; rfl), (fun v hv => by rw [hno.out] at hv; cases hv), rfl⟩
  · have hno : Hid (numR s lo hi = none) := by
      show _ = _
      rw [HN.out, if_neg (fun h => by rw [digsOk_len (by rw [len_ba]; omega)] at h; exact absurd h.1 (by decide))]
    go_wp2_with fail
    go_ret2
    exact ⟨_, (by rw [hno.out]; rfl), (fun v hv => by rw [hno.out] at hv; cases hv), rfl⟩

set_option maxRecDepth 100000 in
set_option maxHeartbeats 8000000 in
theorem rNumber_neg (w : World) (s : BA) (lo hi : Int) (h45 : s.data.toList.head? = some 45) (hs : s.size ≤ 4294967280) (h1 : -9223372036854775808 ≤ lo) (h2 : hi ≤ 9223372036854775807) (h3 : lo ≤ 9223372036854775807) (h4 : -9223372036854775808 ≤ hi) :
    Calls Tryz.prog 94 #[.string s, .int .i64 lo, .int .i64 hi] w fun e w' => ∃ n : Int, e = .returned (.tuple #[.int .i64 n, .bool (numR s lo hi).isSome]) ∧ (∀ v, numR s lo hi = some v → n = v) ∧ w' = w := by
  have hz : 0 < s.size := by
    rcases Nat.eq_zero_or_pos s.size with h | h
    · have : s.data.toList = [] := List.eq_nil_of_length_eq_zero (by rw [len_ba]; exact h)
      rw [this] at h45
      cases h45
    · exact h
  obtain ⟨d, hd⟩ : ∃ d, s.extract 1 s.size = d := ⟨_, rfl⟩
  have hdl : d.data.toList = s.data.toList.tail := by
    rw [← hd, Lib.extract_to_end, List.drop_one]
  have HN : Hid (numR s lo hi = if digsOk false d.data.toList = true ∧ lo ≤ -(digVal 0 d.data.toList : Int) ∧ -(digVal 0 d.data.toList : Int) ≤ hi then some (-(digVal 0 d.data.toList : Int)) else none) := by
    show _ = _
    unfold numR; rw [if_pos h45, hdl]
  have h0' : (s[0]).toNat = 45 := by
    rw [head_ba hz] at h45
    injection h45 with h45
    rw [h45]; rfl
  have hds : d.size ≤ 4294967280 := by
    have := congrArg List.length hdl
    rw [len_ba, List.length_tail, len_ba] at this
    omega
  have hl' : (ByteArray.toList s == [48]) = false := by
    rw [beq_eq_false_iff_ne]
    intro e
    rw [ByteArray.toList_eq] at e
    rw [e] at h45
    cases h45
  clear h45 hdl
  go_enter Tryz.func94, Tryz.ntmps94
  by_cases hdz : 0 < d.size
  · by_cases h10 : d.size ≤ 10
    · have HLO : Hid (1 ≤ d.data.toList.length ∧ d.data.toList.length ≤ 10) := by show _ ∧ _; rw [len_ba]; omega
      by_cases h48 : (d[0]).toNat = 48
      · have h48' : d.data.toList.head? = some 48 := by rw [head_ba hdz, show d[0] = 48 from UInt8.toNat_inj.1 h48]
        have hno : Hid (numR s lo hi = none) := by
          show _ = _
          rw [HN.out, if_neg (fun h => by rw [digsOk_zero h48' (fun e => absurd e (by decide))] at h; exact absurd h.1 (by decide))]
        clear h48'
        go_wp2_with fail
        go_ret2
        exact ⟨_, (by rw [hno.out]; rfl), (fun v hv => by rw [hno.out] at hv; cases hv), rfl⟩
      · have HOK : Hid (d.data.toList.head? ≠ some 48 ∨ (false = true ∧ d.data.toList = [48])) := .inl (by rw [head_ba hdz]; intro e; injection e with e; exact h48 (by rw [e]; rfl))
        go_wp2_with fail
        go_loopg [10, 11] d.size (fun g s10 s11 wr => ∃ k : Nat, k + g = d.size ∧ s11 = .int .i64 k ∧ s10 = .int .i64 (digVal 0 (d.data.toList.take k) : Nat) ∧ wr = w ∧ Hid (∀ j (h : j < d.size), j < k → isDig d[j] = true))
        case atStart => exact ⟨0, by omega, rfl, rfl, rfl, fun j _ hj => absurd hj (by omega)⟩
        case round =>
          obtain ⟨k, hkg, rfl, rfl, rfl, hall⟩ := hrel
          have hval : digVal 0 (d.data.toList.take k) < 10000000000 := by
            have h9 := digVal_lt (d.data.toList.take k) (fun b hb => by
              obtain ⟨j, hj, rfl⟩ := List.getElem_of_mem hb
              rw [List.length_take, len_ba] at hj
              rw [List.getElem_take, ba_get d j (by omega)]
              exact hall.out j (by omega) (by omega)) 0 0 (by decide)
            have h8 : (10 : Nat) ^ (0 + (d.data.toList.take k).length) ≤ 10 ^ 10 := Nat.pow_le_pow_right (by decide) (by rw [List.length_take, len_ba]; omega)
            omega
          by_cases hlt : k < d.size
          · have HS : Hid (digVal 0 (d.data.toList.take (k + 1)) = 10 * digVal 0 (d.data.toList.take k) + ((d[k]).toNat - 48)) := by
              show _ = _
              rw [take_succ_ba d k hlt, digVal_snoc]
            generalize digVal 0 (d.data.toList.take k) = N at hval HS ⊢
            by_cases hlo : 48 ≤ (d[k]).toNat
            · by_cases hhi : (d[k]).toNat ≤ 57
              · have hb : Hid (isDig d[k] = true) := isDig_of hlo hhi
                generalize hx : (d[k]).toNat = X at hlo hhi HS
                go_wp2_with fail
                go_roundg (d.size - (k + 1))
                case measure => omega
                case rel => exact ⟨k + 1, by omega, by go_num, by rw [HS.out]; (first | (go_num; done) | (congr 1; push_cast; omega)), rfl, fun j h hj => by rcases Nat.lt_or_eq_of_le (Nat.le_of_lt_succ hj) with h' | h'; exact hall.out j h h'; subst h'; exact hb.out⟩
              · have hb : isDig d[k] = false := by simp [isDig, hhi]
                have hno : Hid (numR s lo hi = none) := by
                  show _ = _
                  rw [HN.out, if_neg (fun h => by rw [digsOk_dig (k := k) (by rw [len_ba]; exact hlt) (by rw [ba_get d k hlt]; exact hb)] at h; exact absurd h.1 (by decide))]
                go_wp2_with fail
                go_ret2
                exact ⟨_, (by rw [hno.out]; rfl), (fun v hv => by rw [hno.out] at hv; cases hv), rfl⟩
            · have hb : isDig d[k] = false := by simp [isDig, hlo]
              have hno : Hid (numR s lo hi = none) := by
                show _ = _
                rw [HN.out, if_neg (fun h => by rw [digsOk_dig (k := k) (by rw [len_ba]; exact hlt) (by rw [ba_get d k hlt]; exact hb)] at h; exact absurd h.1 (by decide))]
              go_wp2_with fail
              go_ret2
              exact ⟨_, (by rw [hno.out]; rfl), (fun v hv => by rw [hno.out] at hv; cases hv), rfl⟩
          · obtain rfl : k = d.size := by omega
            have hfull : d.data.toList.take d.size = d.data.toList := by rw [← len_ba]; exact List.take_length
            rw [hfull] at hval ⊢
            have hyes := digsOk_yes (p := false) HLO.out.1 HLO.out.2 (HOK.out.imp id (fun h => absurd h (by simp))) (all_ba (fun j hj => hall.out j hj hj))
            have HV : Hid (numR s lo hi = if lo ≤ (-(digVal 0 d.data.toList : Int)) ∧ (-(digVal 0 d.data.toList : Int)) ≤ hi then some (-(digVal 0 d.data.toList : Int)) else none) := by
              show _ = _
              rw [HN.out]
              simp only [hyes, true_and]
            clear hyes hfull
            generalize digVal 0 d.data.toList = N at hval HV ⊢
            by_cases ha : lo ≤ (-(N : Int))
            · by_cases hb : (-(N : Int)) ≤ hi
              · go_wp2_with fail
                go_ret2
                refine ⟨-(N : Int), ?_, fun v hv => ?_, rfl⟩
                · rw [HV.out, if_pos ⟨ha, hb⟩]; (first | rfl | simp [ha, hb])
                · rw [HV.out, if_pos ⟨ha, hb⟩] at hv; injection hv
              · go_wp2_with fail
                go_ret2
                refine ⟨-(N : Int), ?_, fun v hv => ?_, rfl⟩
                · rw [HV.out, if_neg (fun h => by omega)]; (first | rfl | (simp [ha, hb]; try omega))
                · rw [HV.out, if_neg (fun h => by omega)] at hv; cases hv
            · go_wp2_with fail
              go_ret2
              refine ⟨-(N : Int), ?_, fun v hv => ?_, rfl⟩
              · rw [HV.out, if_neg (fun h => by omega)]; (first | rfl | (simp [ha]; try omega))
              · rw [HV.out, if_neg (fun h => by omega)] at hv; cases hv
    · have hno : Hid (numR s lo hi = none) := by
        show _ = _
        rw [HN.out, if_neg (fun h => by rw [digsOk_len (by rw [len_ba]; omega)] at h; exact absurd h.1 (by decide))]
      go_wp2_with fail
      go_ret2
      exact ⟨_, (by rw [hno.out]; rfl), (fun v hv => by rw [hno.out] at hv; cases hv), rfl⟩
  · have hno : Hid (numR s lo hi = none) := by
      show _ = _
      rw [HN.out, if_neg (fun h => by rw [digsOk_len (by rw [len_ba]; omega)] at h; exact absurd h.1 (by decide))]
    go_wp2_with fail
    go_ret2
    exact ⟨_, (by rw [hno.out]; rfl), (fun v hv => by rw [hno.out] at hv; cases hv), rfl⟩

theorem rNumber_any (w : World) (s : BA) (lo hi : Int) (hs : s.size ≤ 4294967280) (h1 : -9223372036854775808 ≤ lo) (h2 : hi ≤ 9223372036854775807) (h3 : lo ≤ 9223372036854775807) (h4 : -9223372036854775808 ≤ hi) :
    Calls Tryz.prog 94 #[.string s, .int .i64 lo, .int .i64 hi] w fun e w' => ∃ n : Int, e = .returned (.tuple #[.int .i64 n, .bool (numR s lo hi).isSome]) ∧ (∀ v, numR s lo hi = some v → n = v) ∧ w' = w := by
  by_cases h45 : s.data.toList.head? = some 45
  · exact rNumber_neg w s lo hi h45 hs h1 h2 h3 h4
  · exact rNumber_plain w s lo hi h45 hs h1 h2 h3 h4

end Go.Proofs.YtbddcodljmglfaaGreatDoor
