/- (walk).nearest: the node, other than b, that all ways to b go over, such that all ways to it go over all others of these; -1, if there is none. -/
import Derived.Test.YtbddcodljmglfaaAllHeld
set_option linter.unusedSimpArgs false
set_option linter.unusedVariables false
namespace Go.Proofs.Ytbddcodljmglfaa
open Go.RowKit

set_option maxRecDepth 100000 in
set_option maxHeartbeats 4000000 in
theorem nearest_any (w : World) (vs vt : Value) (ts : List Value) (n : Nat) (S : List Nat) (T : List (List Nat)) (b : Nat) (h : WalkIn w vs vt ts n S T) (hb : b < n) :
    Calls Try.prog 62 #[.agg #[vs, vt], .int .i64 b] w fun e w' => ∃ H : Nat → Nat → Bool, (∀ a c, a < n → c < n → (H a c = true ↔ Held (· ∈ S) (fun a c => c ∈ T.getD a []) a c)) ∧ e = .returned (.int .i64 (nearestOf H n b)) ∧ Below w.heap.size w w' := by
  have hle := h.le
  have HH : Hid (WalkIn w vs vt ts n S T) := h
  obtain ⟨hl0, ao, cap, rfl, _⟩ := h.steps
  obtain ⟨hl9, ao9, cap9, rfl, _⟩ := h.starts
  clear h hl0 hl9
  have HC : Hid (Calls Try.prog 76 _ (w.alloc (.cells #[.slice ao9 S.length cap9, .slice ao n cap] 103)) _) := allHeld_any (w.alloc (.cells #[.slice ao9 S.length cap9, .slice ao n cap] 103)) _ _ ts n S T (HH.out.below ((Below.refl _ _).alloc (Nat.le_refl _) _))
  go_enter Try.func62, Try.ntmps62
  go_wp2_with fail
  go_step3
  go_wp2_with (first | (go_at_call 76; refine HC.out.mono ?_; rintro e wr ⟨hh, gs, H, rfl, htab0, hbel0⟩; have htab : Hid (TabIn wr hh n n gs H _) := htab0; have hbel : Hid (Below w.heap.size w wr) := ((Below.refl _ _).alloc (Nat.le_refl _) _ |>.trans (hbel0.mono (by simp))); clear htab0 hbel0))
  go_step3
  go_wp2_with fail
  have HHH : Hid (∀ a c, a < n → c < n → (H a c = true ↔ Held (· ∈ S) (fun a c => c ∈ T.getD a []) (a : Int) c)) := fun a c ha hc => htab.out.tells a c ha hc
  go_loopg [12] n (fun g i wx => ∃ a : Nat, a + g = n ∧ i = .int .i64 a ∧ wx = wr ∧ Hid (∀ j, j < a → cand H n b j = false))
  case atStart => exact ⟨0, by omega, rfl, rfl, fun j hj => absurd hj (by omega)⟩
  case round =>
    obtain ⟨a, hag, rfl, rfl, hno⟩ := hrel
    by_cases hlt : a < n
    · by_cases hab : a = b
      · subst hab
        have hc : Hid (cand H n a a = false) := by show _ = _; simp [cand]
        go_wp2_with fail
        go_roundg (n - (a + 1))
        case measure => omega
        case rel => exact ⟨a + 1, by omega, by go_num, rfl, fun j hj => by rcases Nat.lt_or_eq_of_le (Nat.le_of_lt_succ hj) with h' | h'; exact hno.out j h'; rw [h']; exact hc.out⟩
      · have hab1 : ((a : Int) == (b : Int)) = false := by simp; omega
        have hab2 : ¬ (a : Int) = (b : Int) := by omega
        obtain ⟨hca, hcb⟩ := htab.out.cells hlt hb
        generalize hGa : gs.getD a 0 = Ga at hca hcb
        clear hGa
        cases hHab : H a b
        · rw [hHab] at hcb
          have hc : Hid (cand H n b a = false) := by show _ = _; simp [cand, hHab]
          clear hHab
          go_wp2_with fail
          go_roundg (n - (a + 1))
          case measure => omega
          case rel => exact ⟨a + 1, by omega, by go_num, rfl, fun j hj => by rcases Nat.lt_or_eq_of_le (Nat.le_of_lt_succ hj) with h' | h'; exact hno.out j h'; rw [h']; exact hc.out⟩
        · rw [hHab] at hcb
          have HHab : Hid (H a b = true) := hHab
          clear hHab
          go_wp2_with fail
          go_loopg [30] n (fun g2 i wy => ∃ c : Nat, c + g2 = n ∧ i = .int .i64 c ∧ wy = wr ∧ Hid (∀ j, j < c → (decide (j = b) || !H j b || H j a) = true))
          case atStart => exact ⟨0, by omega, rfl, rfl, fun j hj => absurd hj (by omega)⟩
          case round =>
            obtain ⟨c, hcg, rfl, rfl, hyes⟩ := hrel
            clear hca hcb
            by_cases hltc : c < n
            · by_cases hcb' : c = b
              · subst hcb'
                go_wp2_with fail
                go_roundg (n - (c + 1))
                case measure => omega
                case rel => exact ⟨c + 1, by omega, by go_num, rfl, fun j hj => by rcases Nat.lt_or_eq_of_le (Nat.le_of_lt_succ hj) with h' | h'; exact hyes.out j h'; rw [h']; simp⟩
              · have hcb1 : ((c : Int) == (b : Int)) = false := by simp; omega
                have hcb2 : ¬ (c : Int) = (b : Int) := by omega
                obtain ⟨hcc, hcd⟩ := htab.out.cells hltc hb
                have hce := (htab.out.cells hltc hlt).2
                generalize hGc : gs.getD c 0 = Gc at hcc hcd hce
                clear hGc
                cases hHcb : H c b
                · rw [hHcb] at hcd
                  have HX : Hid (H c b = false) := hHcb
                  clear hHcb hce
                  go_wp2_with fail
                  go_roundg (n - (c + 1))
                  case measure => omega
                  case rel => exact ⟨c + 1, by omega, by go_num, rfl, fun j hj => by rcases Nat.lt_or_eq_of_le (Nat.le_of_lt_succ hj) with h' | h'; exact hyes.out j h'; rw [h', HX.out]; simp⟩
                · rw [hHcb] at hcd
                  have HX : Hid (H c b = true) := hHcb
                  clear hHcb
                  cases hHca : H c a
                  · rw [hHca] at hce
                    have HY : Hid (cand H n b a = false) := by
                      show _ = _
                      have : (List.range n).all (fun c => decide (c = b) || !H c b || H c a) = false := by
                        simp only [List.all_eq_false]
                        exact ⟨c, by simpa using hltc, by simp [hcb', HX.out, hHca]⟩
                      simp [cand, this]
                    clear hHca
                    go_wp2_with fail
                    go_roundg (n - (a + 1))
                    case measure => omega
                    case rel => exact ⟨a + 1, by omega, by go_num, rfl, fun j hj => by rcases Nat.lt_or_eq_of_le (Nat.le_of_lt_succ hj) with h' | h'; exact hno.out j h'; rw [h']; exact HY.out⟩
                  · rw [hHca] at hce
                    have HY : Hid (H c a = true) := hHca
                    clear hHca
                    go_wp2_with fail
                    go_roundg (n - (c + 1))
                    case measure => omega
                    case rel => exact ⟨c + 1, by omega, by go_num, rfl, fun j hj => by rcases Nat.lt_or_eq_of_le (Nat.le_of_lt_succ hj) with h' | h'; exact hyes.out j h'; rw [h', HY.out]; simp⟩
            · obtain rfl : n = c := by omega
              have hfin : Hid (nearestOf H n b = (a : Int)) := by
                have h1 : cand H n b a = true := by
                  simp only [cand, hab, ne_eq, not_false_eq_true, decide_true, HHab.out, Bool.true_and, List.all_eq_true, List.mem_range]
                  exact fun j hj => hyes.out j hj
                show _ = _
                unfold nearestOf
                rw [find_range_some (cand H n b) n a hlt h1 hno.out]
              go_wp2_with fail
              try rw [Exit.noGoto_ret]
              go_ret
              exact ⟨H, HHH.out, by rw [hfin.out]; rfl, hbel.out⟩
    · obtain rfl : n = a := by omega
      have hfin : Hid (nearestOf H n b = -1) := by
        show _ = _
        unfold nearestOf
        rw [find_range_none (cand H n b) n hno.out]
      go_wp2_with fail
      try rw [Exit.noGoto_ret]
      go_ret
      exact ⟨H, HHH.out, by rw [hfin.out]; rfl, hbel.out⟩

end Go.Proofs.Ytbddcodljmglfaa
