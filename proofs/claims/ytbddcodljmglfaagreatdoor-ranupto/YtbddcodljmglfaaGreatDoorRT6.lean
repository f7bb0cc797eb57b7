/- The document's args. -/
import Derived.Test.YtbddcodljmglfaaGreatDoorRT5
set_option linter.unusedSimpArgs false
set_option linter.unusedVariables false
namespace Go.Proofs.YtbddcodljmglfaaGreatDoor
open Go.RowKit

def zeroV (s : BA) : Bool := ByteArray.toList (cutTail 46 s) == [48]
/-- The document's words of an args line, from the first name on: 'from' of them are well. -/
def argOk (tg : Nat) (ws : List BA) (i : Nat) : Prop := ∀ x, ws[i]? = some x → (readVer tg x).isSome = true ∧ (tg = 1 → zeroV x = true) ∧ ∀ k y, 1 ≤ k → k < i → ws[k]? = some y → y ≠ x

set_option maxRecDepth 100000 in
set_option maxHeartbeats 4000000 in
theorem rArgs_any (w : World) (tb tg : Nat) (htg : tg = 0 ∨ tg = 1) (v : Value) (ws : List BA) (hv : RdT w 9 1 v ws.length (strs ws)) (h1 : 1 ≤ ws.length) (hl : ws.length ≤ 4294967290) (hs : ∀ x ∈ ws, x.size ≤ 4294967280) (ht : w.cell? ⟨tb, 2, none⟩ = some (.bool (decide (tg = 1)))) :
    Calls Tryz.prog 120 #[.pointer (some ⟨tb, 0, none⟩), v] w fun e w' => (∃ b : Bool, e = .returned (.bool b) ∧ (b = true ↔ ByteArray.toList ws[0] = [97, 114, 103, 115] ∧ ws.length ≤ 5 ∧ ∀ i, 1 ≤ i → argOk tg ws i)) ∧ ∃ n, w' = w.drewN n := by
  obtain ⟨ao, cap, rfl, hcap, hcl0⟩ := hv.cell
  obtain ⟨gT, offT, rfl, hgT, hcl⟩ := hcl0 h1
  have HCL : Hid (∀ j x, ws[j]? = some x → w.cell? ⟨gT, offT + j, none⟩ = some (.string x)) := fun j x hx => hcl j _ (by simp [strs, hx])
  have HS : Hid (∀ x ∈ ws, x.size ≤ 4294967280) := hs
  obtain ⟨x0, hx0⟩ : ∃ x, ws[0] = x := ⟨_, rfl⟩
  have hx0' : ws[0]? = some x0 := by rw [List.getElem?_eq_getElem (by omega), hx0]
  have c0 : w.cell? ⟨gT, offT, none⟩ = some (.string x0) := HCL.out 0 x0 hx0'
  rw [hx0]
  obtain ⟨N, hN⟩ : ∃ N, N = ws.length := ⟨_, rfl⟩
  have HN : Hid (N = ws.length) := hN
  rw [← hN] at h1 hl hcap ⊢
  clear hs hv hcl0 hcl hx0 hx0' hN
  by_cases h0 : ByteArray.toList x0 = [97, 114, 103, 115]
  · by_cases h5 : N ≤ 5
    · go_enter Tryz.func120, Tryz.ntmps120
      go_wp2_with fail
      go_loopg [5] (N - 1) (fun g v5 wr => ∃ (i : Nat), i + g = N ∧ 1 ≤ i ∧ v5 = .int .i64 i ∧ Hid (∃ n, wr = w.drewN n) ∧ Hid (∀ j, 1 ≤ j → j < i → argOk tg ws j))
      case atStart => exact ⟨1, by omega, by omega, rfl, ⟨0, rfl⟩, fun j h1 h2 => absurd h1 (by omega)⟩
      case round =>
        obtain ⟨i, hig, hi1, rfl, hwr, hok⟩ := hrel
        by_cases hiN : i < N
        · obtain ⟨x, hx⟩ : ∃ x, ws[i]? = some x := ⟨_, List.getElem?_eq_getElem (by have := HN.out; omega)⟩
          have hxs : x.size ≤ 4294967280 := HS.out x (List.mem_of_getElem? hx)
          obtain ⟨n0, rfl⟩ := hwr.out
          have cx : ∀ m, (w.drewN m).cell? ⟨gT, offT + i, none⟩ = some (.string x) := fun m => HCL.out i x hx
          have ct : ∀ m, (w.drewN m).cell? ⟨tb, 2, none⟩ = some (.bool (decide (tg = 1))) := fun m => ht
          have HVA : Hid (∀ m, Calls Tryz.prog 156 #[.pointer (some ⟨tb, 0, none⟩), .string x] (w.drewN m) fun e w' => e = .returned (.bool (readVer tg x).isSome) ∧ ∃ n, w' = w.drewN n) := fun m => (variable_any (w.drewN m) tb tg htg x hxs ht).mono (by rintro e w' ⟨h1, n, rfl⟩; exact ⟨h1, _, World.drewN_drewN _ _ _⟩)
          have HFI : Hid (∀ m, Calls Tryz.prog 46 #[.string x] (w.drewN m) fun e w' => e = .returned (.bool (zeroV x)) ∧ ∃ n, w' = w.drewN n) := fun m => (first_any (w.drewN m) x hxs).mono (by rintro e w' ⟨h1, n, rfl⟩; exact ⟨h1, _, World.drewN_drewN _ _ _⟩)
          clear hwr
          cases hrv : (readVer tg x).isSome with
          | false =>
            rw [hrv] at HVA
            have HF : Hid (¬ argOk tg ws i) := fun h => by have := (h x hx).1; rw [hrv] at this; cases this
            go_wp2_with (first
              | (go_at_call 156; refine (HVA.out _).mono ?_; rintro e w1 ⟨rfl, n1, rfl⟩)
              | (go_at_call 46; refine (HFI.out _).mono ?_; rintro e w1 ⟨rfl, n2, rfl⟩))
            go_ret
            exact ⟨⟨false, rfl, by simp only [Bool.false_eq_true, false_iff]; exact fun h => HF.out (h.2.2 i hi1)⟩, _, rfl⟩
          | true =>
            rw [hrv] at HVA
            by_cases hz : tg = 1 ∧ zeroV x = false
            · have HF : Hid (¬ argOk tg ws i) := fun h => by have := (h x hx).2.1 hz.1; rw [hz.2] at this; cases this
              obtain ⟨rfl, hz2⟩ := hz
              rw [hz2] at HFI
              have ct2 : ∀ m, (w.drewN m).cell? ⟨tb, 2, none⟩ = some (.bool true) := ct
              clear ct
              go_wp2_with (first
                | (go_at_call 156; refine (HVA.out _).mono ?_; rintro e w1 ⟨rfl, n1, rfl⟩)
                | (go_at_call 46; refine (HFI.out _).mono ?_; rintro e w1 ⟨rfl, n2, rfl⟩))
              go_ret
              exact ⟨⟨false, rfl, by simp only [Bool.false_eq_true, false_iff]; exact fun h => HF.out (h.2.2 i hi1)⟩, _, rfl⟩
            · have hzz : tg = 1 → zeroV x = true := fun h => by cases hq : zeroV x; exact absurd ⟨h, hq⟩ hz; rfl
              have HZZ : Hid (tg = 1 → zeroV x = true) := hzz
              have HW2 : Hid (∀ m, w.drewN m = w.drewN m) := fun _ => rfl
              have hfo : (decide (tg = 1) && !zeroV x) = false := by
                by_cases h : tg = 1
                · simp [h, hzz h]
                · simp [h]
              have HRV : Hid ((readVer tg x).isSome = true) := hrv
              clear hz hzz hrv
              rcases htg with rfl | rfl
              · have ct2 : ∀ m, (w.drewN m).cell? ⟨tb, 2, none⟩ = some (.bool false) := ct
                clear ct ht hfo
                go_wp2_with (first
                  | (go_at_call 156; refine (HVA.out _).mono ?_; rintro e w1 ⟨rfl, n1, rfl⟩)
                  | (go_at_call 46; refine (HFI.out _).mono ?_; rintro e w1 ⟨rfl, n2, rfl⟩))
                go_loopg [8] (i - 1) (fun g v8 wr => ∃ (k : Nat), k + g = i ∧ 1 ≤ k ∧ v8 = .int .i64 k ∧ Hid (∃ n, wr = w.drewN n) ∧ Hid (∀ l y, 1 ≤ l → l < k → ws[l]? = some y → y ≠ x))
                case atStart => exact ⟨1, by omega, by omega, rfl, ⟨_, rfl⟩, fun l y h1 h2 => absurd h1 (by omega)⟩
                case round =>
                  obtain ⟨k, hkg, hk1, rfl, hwr, hno⟩ := hrel
                  obtain ⟨n3, rfl⟩ := hwr.out
                  clear hwr
                  by_cases hki : k < i
                  · obtain ⟨y, hy⟩ : ∃ y, ws[k]? = some y := ⟨_, List.getElem?_eq_getElem (by have := HN.out; omega)⟩
                    have cy : ∀ m, (w.drewN m).cell? ⟨gT, offT + k, none⟩ = some (.string y) := fun m => HCL.out k y hy
                    by_cases hyx : y = x
                    · have HF : Hid (¬ argOk 0 ws i) := fun h => (h x hx).2.2 k y hk1 hki hy hyx
                      have hyx' : (ByteArray.toList y == ByteArray.toList x) = true := by rw [hyx]; simp
                      clear hyx
                      go_wp2_with fail
                      go_quiet (fail)
                      go_wp2_with fail
                      go_ret
                      exact ⟨⟨false, rfl, by simp only [Bool.false_eq_true, false_iff]; exact fun h => HF.out (h.2.2 i hi1)⟩, _, World.drewN_drewN _ _ _⟩
                    · have hyx' : (ByteArray.toList y == ByteArray.toList x) = false := by rw [beq_eq_false_iff_ne]; exact fun h => hyx (ba_ext h)
                      have HYX : Hid (y ≠ x) := hyx
                      clear hyx
                      go_wp2_with fail
                      go_quiet (fail)
                      go_wp2_with fail
                      go_roundg (i - (k + 1))
                      case measure => omega
                      case rel => exact ⟨k + 1, by omega, by omega, by go_num, ⟨_, rfl⟩, fun l z h1 h2 hz => by rcases Nat.lt_or_eq_of_le (Nat.le_of_lt_succ h2) with h' | h'; exact hno.out l z h1 h' hz; subst h'; rw [hy] at hz; injection hz with hz; subst hz; exact HYX.out⟩
                  · have hkE : k = i := by omega
                    subst hkE
                    have HOK : Hid (argOk 0 ws k) := fun z hz => by rw [hx] at hz; injection hz with hz; subst hz; exact ⟨HRV.out, (fun h => absurd h (by decide)), fun l y h1 h2 h3 => hno.out l y h1 h2 h3⟩
                    go_wp2_with fail
                    go_roundg (N - (k + 1))
                    case measure => omega
                    case rel => exact ⟨k + 1, by omega, by omega, by go_num, ⟨_, rfl⟩, fun j h1 h2 => by rcases Nat.lt_or_eq_of_le (Nat.le_of_lt_succ h2) with h' | h'; exact hok.out j h1 h'; subst h'; exact HOK.out⟩
              · have ct2 : ∀ m, (w.drewN m).cell? ⟨tb, 2, none⟩ = some (.bool true) := ct
                clear ct ht hfo
                have HZ1 : Hid (zeroV x = true) := HZZ.out rfl
                rw [HZ1.out] at HFI
                clear HZZ
                go_wp2_with (first
                  | (go_at_call 156; refine (HVA.out _).mono ?_; rintro e w1 ⟨rfl, n1, rfl⟩)
                  | (go_at_call 46; refine (HFI.out _).mono ?_; rintro e w1 ⟨rfl, n2, rfl⟩))
                go_loopg [8] (i - 1) (fun g v8 wr => ∃ (k : Nat), k + g = i ∧ 1 ≤ k ∧ v8 = .int .i64 k ∧ Hid (∃ n, wr = w.drewN n) ∧ Hid (∀ l y, 1 ≤ l → l < k → ws[l]? = some y → y ≠ x))
                case atStart => exact ⟨1, by omega, by omega, rfl, ⟨_, rfl⟩, fun l y h1 h2 => absurd h1 (by omega)⟩
                case round =>
                  obtain ⟨k, hkg, hk1, rfl, hwr, hno⟩ := hrel
                  obtain ⟨n3, rfl⟩ := hwr.out
                  clear hwr
                  by_cases hki : k < i
                  · obtain ⟨y, hy⟩ : ∃ y, ws[k]? = some y := ⟨_, List.getElem?_eq_getElem (by have := HN.out; omega)⟩
                    have cy : ∀ m, (w.drewN m).cell? ⟨gT, offT + k, none⟩ = some (.string y) := fun m => HCL.out k y hy
                    by_cases hyx : y = x
                    · have HF : Hid (¬ argOk 1 ws i) := fun h => (h x hx).2.2 k y hk1 hki hy hyx
                      have hyx' : (ByteArray.toList y == ByteArray.toList x) = true := by rw [hyx]; simp
                      clear hyx
                      go_wp2_with fail
                      go_quiet (fail)
                      go_wp2_with fail
                      go_ret
                      exact ⟨⟨false, rfl, by simp only [Bool.false_eq_true, false_iff]; exact fun h => HF.out (h.2.2 i hi1)⟩, _, World.drewN_drewN _ _ _⟩
                    · have hyx' : (ByteArray.toList y == ByteArray.toList x) = false := by rw [beq_eq_false_iff_ne]; exact fun h => hyx (ba_ext h)
                      have HYX : Hid (y ≠ x) := hyx
                      clear hyx
                      go_wp2_with fail
                      go_quiet (fail)
                      go_wp2_with fail
                      go_roundg (i - (k + 1))
                      case measure => omega
                      case rel => exact ⟨k + 1, by omega, by omega, by go_num, ⟨_, rfl⟩, fun l z h1 h2 hz => by rcases Nat.lt_or_eq_of_le (Nat.le_of_lt_succ h2) with h' | h'; exact hno.out l z h1 h' hz; subst h'; rw [hy] at hz; injection hz with hz; subst hz; exact HYX.out⟩
                  · have hkE : k = i := by omega
                    subst hkE
                    have HOK : Hid (argOk 1 ws k) := fun z hz => by rw [hx] at hz; injection hz with hz; subst hz; exact ⟨HRV.out, fun _ => HZ1.out, fun l y h1 h2 h3 => hno.out l y h1 h2 h3⟩
                    go_wp2_with fail
                    go_roundg (N - (k + 1))
                    case measure => omega
                    case rel => exact ⟨k + 1, by omega, by omega, by go_num, ⟨_, rfl⟩, fun j h1 h2 => by rcases Nat.lt_or_eq_of_le (Nat.le_of_lt_succ h2) with h' | h'; exact hok.out j h1 h'; subst h'; exact HOK.out⟩
        · obtain ⟨n0, rfl⟩ := hwr.out
          have hiE : i = N := by omega
          have HALL : Hid (∀ j, 1 ≤ j → argOk tg ws j) := fun j h1 => by
            by_cases hj : j < i
            · exact hok.out j h1 hj
            · intro x hx
              have := (List.getElem?_eq_some_iff.1 hx).1
              have := HN.out
              omega
          go_wp2_with fail
          go_ret
          exact ⟨⟨true, rfl, by simp only [true_iff]; exact ⟨h0, h5, HALL.out⟩⟩, _, rfl⟩
    · have h5' : (5 : Int) < (N : Int) := by omega
      go_enter Tryz.func120, Tryz.ntmps120
      go_wp2_with fail
      go_ret
      exact ⟨⟨false, rfl, by simp only [Bool.false_eq_true, false_iff]; exact fun h => h5 h.2.1⟩, 0, rfl⟩
  · have h0' : (ByteArray.toList x0 == [97, 114, 103, 115]) = false := by simpa using h0
    have H0 : Hid (¬ ByteArray.toList x0 = [97, 114, 103, 115]) := h0
    clear h0
    go_enter Tryz.func120, Tryz.ntmps120
    go_wp2_with fail
    go_ret
    exact ⟨⟨false, rfl, by simp only [Bool.false_eq_true, false_iff]; exact fun h => H0.out h.1⟩, 0, rfl⟩

end Go.Proofs.YtbddcodljmglfaaGreatDoor
