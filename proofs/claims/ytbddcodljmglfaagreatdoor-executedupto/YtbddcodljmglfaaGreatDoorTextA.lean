/- The document's own Split. And what follows on it. -/
import Derived.Test.YtbddcodljmglfaaGreatDoorTextZ
import Derived.Test.YtbddcodljmglfaaGreatDoorMemA
import Derived.Test.YtbddcodljmglfaaGreatDoorMathA
set_option linter.unusedSimpArgs false
set_option linter.unusedVariables false
namespace Go.Proofs.YtbddcodljmglfaaGreatDoor
open Go.RowKit

theorem ofL_toList (x : BA) : ofL x.data.toList = x := by simp [ofL]
theorem strs_snoc (L : List BA) (x : BA) : strs (L ++ [x]) = strs L ++ [.string x] := by simp [strs]
theorem len_snoc (L : List BA) (x : BA) : (L ++ [x]).length = L.length + 1 := by simp

set_option maxRecDepth 100000 in
set_option maxHeartbeats 4000000 in
theorem rSplit_any (w : World) (s : BA) (c : UInt8) (hs : s.size ≤ 4294967280) : Calls Tryz.prog 69 #[.string s, .int .u8 (c.toNat : Nat)] w fun e w' => (∃ v, e = .returned v ∧ OwnS w' w.heap.size 9 1 v (cuts c s).length (strs (cuts c s))) ∧ Below w.heap.size w w' := by
  go_enter Tryz.func69, Tryz.ntmps69
  go_wp2_with fail
  obtain ⟨i0, hi, hz0, hz1, hz2⟩ := info_parts infoString
  go_loopg [5, 6, 7] (s.size + 1) (fun g v5 v6 v7 wr => ∃ (k a : Nat) (L : List BA), k + g = s.size + 1 ∧ v7 = .int .i64 k ∧ v6 = .int .i64 a ∧ Hid (OwnS wr w.heap.size 9 1 v5 L.length (strs L)) ∧ Hid (Below w.heap.size w wr) ∧ L.length ≤ k ∧ a ≤ k ∧ Hid (∀ j (h : j < s.size), a ≤ j → j < k → s[j] ≠ c) ∧ Hid ((k ≤ s.size ∧ cuts c s = L ++ (cutsB c (s.data.toList.drop a)).map ofL) ∨ (k = s.size + 1 ∧ cuts c s = L)))
  case atStart => exact ⟨0, 0, [], by omega, rfl, rfl, OwnS.nil _ _ _ _, Below.refl _ _, by simp, by omega, fun j _ _ hj => absurd hj (by omega), .inl ⟨by omega, by simp [cuts]⟩⟩
  case round =>
    obtain ⟨k, a, L, hkg, rfl, rfl, hown, hbel, hLk, hak, hno, hcuts⟩ := hrel
    obtain ⟨ao, cp, rfl⟩ := hown.out.len
    by_cases hlt : k < s.size
    · have hcut : Hid (cuts c s = L ++ (cutsB c (s.data.toList.drop a)).map ofL) := by
        rcases hcuts.out with h | h
        · exact h.2
        · omega
      have hne : ((k : Int) == (s.size : Int)) = false := by rw [beq_eq_false_iff_ne]; omega
      have hka : (a : Int) ≤ (k : Int) := by omega
      have hks : (k : Int) ≤ (s.size : Int) := by omega
      clear hcuts
      by_cases hq : s[k] = c
      · have hq' : (((s[k]).toNat : Int) == (c.toNat : Int)) = true := by rw [hq]; simp
        have hnext : Hid (cuts c s = (L ++ [s.extract a k]) ++ (cutsB c (s.data.toList.drop (k + 1))).map ofL) := by
          show _ = _
          rw [hcut.out, cutsB_step c s a k hak hlt hq (fun j hj h1 h2 => hno.out j hj h1 h2), List.map_cons, ofL_toList]
          simp
        clear hq
        go_wp2_with (first | (at_builtin; refine wpList_append_ownS _ rfl _ _ 62 rfl w.heap.size 9 i0 (.string ByteArray.empty) 1 16 Tryz.underlying62 hi hz0 hz1 hz2 rfl (by decide) _ _ _ rfl (hown.out.alloc _) ⟨wr.heap.size, 0, none⟩ 1 1 [.string (s.extract a k)] rfl rfl (cell_newL _ [_] _ _ rfl) (one1 rfl) (by decide) (by unfold maxLen; omega) (by omega) (by have := hbel.out.size; simp; omega) ?_; intro g' off' cap' w3 hown3 hgrow3 hloc3 hlt3; have HO3 : Hid _ := hown3; have HB3 : Hid (Below w.heap.size w w3) := hbel.out.trans (grown_below hown.out hgrow3 hbel.out.size); clear hown3 hgrow3 hloc3))
        go_roundg (s.size + 1 - (k + 1))
        case measure => omega
        case rel => exact ⟨k + 1, k + 1, L ++ [s.extract a k], by omega, by go_num, by go_num, (by show OwnS _ _ _ _ _ _ _; rw [strs_snoc, len_snoc]; exact HO3.out), HB3, by simp; omega, by omega, (fun j _ h1 h2 => absurd h1 (by omega)), .inl ⟨by omega, hnext.out⟩⟩
      · have hq' : (((s[k]).toNat : Int) == (c.toNat : Int)) = false := by rw [beq_eq_false_iff_ne]; intro h; exact hq (UInt8.toNat_inj.1 (by omega))
        have HQ : Hid (s[k] ≠ c) := hq
        clear hq
        go_wp2_with fail
        go_roundg (s.size + 1 - (k + 1))
        case measure => omega
        case rel => exact ⟨k + 1, a, L, by omega, by go_num, rfl, hown, hbel, by omega, by omega, (fun j h h1 hj => by rcases Nat.lt_or_eq_of_le (Nat.le_of_lt_succ hj) with h' | h'; exact hno.out j h h1 h'; subst h'; exact HQ.out), .inl ⟨by omega, hcut.out⟩⟩
    · by_cases heq : k = s.size
      · have hcut : Hid (cuts c s = L ++ [s.extract a s.size]) := by
          rcases hcuts.out with h | h
          · show _ = _
            rw [h.2, cutsB_last c s a (by omega) (fun j hj h1 => hno.out j hj h1 (by omega)), List.map_cons, ofL_toList]
            rfl
          · omega
        have hka : (a : Int) ≤ (k : Int) := by omega
        have hks : (k : Int) ≤ (s.size : Int) := by omega
        have hks' : (k : Int) = (s.size : Int) := by omega
        clear hcuts
        go_wp2_with (first | (at_builtin; refine wpList_append_ownS _ rfl _ _ 62 rfl w.heap.size 9 i0 (.string ByteArray.empty) 1 16 Tryz.underlying62 hi hz0 hz1 hz2 rfl (by decide) _ _ _ rfl (hown.out.alloc _) ⟨wr.heap.size, 0, none⟩ 1 1 [.string (s.extract a s.size)] rfl rfl (cell_newL _ [_] _ _ rfl) (one1 rfl) (by decide) (by unfold maxLen; omega) (by omega) (by have := hbel.out.size; simp; omega) ?_; intro g' off' cap' w3 hown3 hgrow3 hloc3 hlt3; have HO3 : Hid _ := hown3; have HB3 : Hid (Below w.heap.size w w3) := hbel.out.trans (grown_below hown.out hgrow3 hbel.out.size); clear hown3 hgrow3 hloc3))
        go_roundg (s.size + 1 - (k + 1))
        case measure => omega
        case rel => exact ⟨k + 1, k + 1, L ++ [s.extract a s.size], by omega, by go_num, by go_num, (by show OwnS _ _ _ _ _ _ _; rw [strs_snoc, len_snoc]; exact HO3.out), HB3, by simp; omega, by omega, (fun j _ h1 h2 => absurd h1 (by omega)), .inr ⟨by omega, hcut.out⟩⟩
      · have hcut : cuts c s = L := by
          rcases hcuts.out with h | h
          · omega
          · exact h.2
        have hgt : ¬ (k : Int) ≤ (s.size : Int) := by omega
        clear hcuts
        go_wp2_with fail
        go_ret
        exact ⟨⟨_, rfl, hown.out⟩, hbel.out⟩

end Go.Proofs.YtbddcodljmglfaaGreatDoor

namespace Go.Proofs.YtbddcodljmglfaaGreatDoor
open Go.RowKit

def endsW (s : BA) : Bool := match kindOf s with | some k => endsK k | none => false
theorem rEnds_any (w : World) (s : BA) : Calls Tryz.prog 71 #[.string s] w fun e w' => e = .returned (.bool (endsW s)) ∧ w' = w := by
  by_cases h1 : ByteArray.toList s = [103, 111, 116, 111]
  · have HE : Hid (endsW s = true) := by show _ = _; unfold endsW kindOf; rw [h1]; rfl
    have h : (ByteArray.toList s == [103, 111, 116, 111]) = true := by simpa using h1
    go_enter Tryz.func71, Tryz.ntmps71
    go_wp2
    go_ret
    exact ⟨by rw [HE.out]; simp [h], rfl⟩
  · by_cases h2 : ByteArray.toList s = [105, 102]
    · have HE : Hid (endsW s = true) := by show _ = _; unfold endsW kindOf; rw [h2]; rfl
      go_enter Tryz.func71, Tryz.ntmps71
      go_wp2
      go_ret
      exact ⟨by rw [HE.out]; simp [h2], rfl⟩
    · by_cases h3 : ByteArray.toList s = [101, 110, 100]
      · have HE : Hid (endsW s = true) := by show _ = _; unfold endsW kindOf; rw [h3]; rfl
        go_enter Tryz.func71, Tryz.ntmps71
        go_wp2
        go_ret
        exact ⟨by rw [HE.out]; simp [h3], rfl⟩
      · have HE : Hid (endsW s = false) := by
          show _ = _
          unfold endsW kindOf
          simp only [beq_iff_eq, h1, h2, h3, if_false]
          repeat' split
          all_goals first | rfl | (rename_i hq; simp at hq) | skip
          all_goals (rename_i hq; repeat' split at hq)
          all_goals first | (injection hq with hq; subst hq; rfl) | cases hq
        go_enter Tryz.func71, Tryz.ntmps71
        go_wp2
        go_ret
        exact ⟨by rw [HE.out]; simp [h1, h2, h3], rfl⟩

def behS : Option Nat → BA
  | some 0 => ⟨#[115, 110]⟩
  | some 1 => ⟨#[115, 120]⟩
  | some 2 => ⟨#[115, 120, 120]⟩
  | some 3 => ⟨#[115, 120, 120]⟩
  | some 4 => ⟨#[115, 120, 120]⟩
  | some 5 => ⟨#[115, 120, 120]⟩
  | some 6 => ⟨#[120]⟩
  | some 7 => ⟨#[98]⟩
  | some 8 => ⟨#[120, 98, 98]⟩
  | some 9 => ⟨#[120]⟩
  | _ => ⟨#[63]⟩
theorem behind_any (w : World) (s : BA) : Calls Tryz.prog 73 #[.string s] w fun e w' => e = .returned (.string (behS (kindOf s))) ∧ w' = w := by
  go_enter Tryz.func73, Tryz.ntmps73
  go_wp2
  all_goals (go_ret; refine ⟨?_, rfl⟩; first | (simp [kindOf, behS, *]; done) | (exfalso; simp_all; done) | simp_all [kindOf, behS])

theorem numR_narrow (s : BA) (lo hi lo' hi' : Int) (h1 : lo ≤ lo') (h2 : hi' ≤ hi) : numR s lo' hi' = match numR s lo hi with | some v => if lo' ≤ v ∧ v ≤ hi' then some v else none | none => none := by
  unfold numR
  split
  · by_cases hd : digsOk false s.data.toList.tail = true
    · by_cases hq : lo' ≤ -(digVal 0 s.data.toList.tail : Int) ∧ -(digVal 0 s.data.toList.tail : Int) ≤ hi'
      · rw [if_pos ⟨hd, hq⟩, if_pos ⟨hd, by omega, by omega⟩]
        simp [hq]
      · rw [if_neg (fun h => hq h.2)]
        split
        · rename_i v hv
          split at hv
          · injection hv with hv; subst hv; rw [if_neg hq]
          · cases hv
        · rfl
    · simp [hd]
  · by_cases hd : digsOk true s.data.toList = true
    · by_cases hq : lo' ≤ (digVal 0 s.data.toList : Int) ∧ (digVal 0 s.data.toList : Int) ≤ hi'
      · rw [if_pos ⟨hd, hq⟩, if_pos ⟨hd, by omega, by omega⟩]
        simp [hq]
      · rw [if_neg (fun h => hq h.2)]
        split
        · rename_i v hv
          split at hv
          · injection hv with hv; subst hv; rw [if_neg hq]
          · cases hv
        · rfl
    · simp [hd]
theorem numR_blk (s : BA) : numR s 0 1000000000 = (blkB s).map (fun n => (n : Int)) := by
  rw [numR_narrow s (-1000000000) 1000000000 0 1000000000 (by omega) (by omega), ← numB_eq]
  unfold blkB
  cases h : numB s with
  | none => rfl
  | some v =>
    have hv : v ≤ 1000000000 := by
      unfold numB at h
      split at h
      · split at h
        · rename_i hc; injection h with h; omega
        · cases h
      · cases h
    by_cases h0 : 0 ≤ v
    · simp [h0, hv]; omega
    · simp [h0]
theorem readVer_one (s : BA) : (readVer 1 s).isSome = ((cutAt 46 s).isSome && isNm (cutHead 46 s) && (numR (cutTail 46 s) 0 999).isSome) := by
  rw [numR_narrow (cutTail 46 s) (-1000000000) 1000000000 0 999 (by omega) (by omega), ← numB_eq]
  unfold readVer
  rw [if_neg (by omega)]
  cases hc : cutAt 46 s with
  | none =>
    have : numB (cutTail 46 s) = none := by
      unfold cutTail
      rw [hc, numB_eq]
      rfl
    rw [this]
    rfl
  | some k =>
    cases hn : numB (cutTail 46 s) with
    | none => simp
    | some v =>
      by_cases h1 : isNm (cutHead 46 s) = true
      · by_cases h2 : 0 ≤ v ∧ v ≤ 999
        · simp [h1, h2]
        · simp [h1, h2]
      · simp [h1]

theorem cutHead_size (c : UInt8) (s : BA) : (cutHead c s).size ≤ s.size := by
  unfold cutHead
  split
  · simp only [ByteArray.size_extract]; omega
  · exact Nat.le_refl _
theorem cutTail_size (c : UInt8) (s : BA) : (cutTail c s).size ≤ s.size := by
  unfold cutTail
  split
  · simp only [ByteArray.size_extract]; omega
  · exact Nat.zero_le _

set_option maxHeartbeats 1000000 in
theorem variable_any (w : World) (tb tg : Nat) (htg : tg = 0 ∨ tg = 1) (s : BA) (hs : s.size ≤ 4294967280) (ht : w.cell? ⟨tb, 2, none⟩ = some (.bool (decide (tg = 1)))) :
    Calls Tryz.prog 156 #[.pointer (some ⟨tb, 0, none⟩), .string s] w fun e w' => e = .returned (.bool (readVer tg s).isSome) ∧ ∃ n, w' = w.drewN n := by
  rcases htg with rfl | rfl
  · have HV : Hid ((readVer 0 s).isSome = isNm s) := by
      show _ = _
      unfold readVer
      rw [if_pos rfl]
      split <;> simp [*]
    have ht' : w.cell? ⟨tb, 2, none⟩ = some (.bool false) := ht
    clear ht
    go_enter Tryz.func156, Tryz.ntmps156
    go_wp2_with (first | (go_at_call 176; refine (rIsName_any _ s hs).mono ?_; rintro e w1 ⟨rfl, rfl⟩))
    go_ret
    exact ⟨by rw [HV.out]; rfl, 0, rfl⟩
  · have HV : Hid _ := readVer_one s
    have ht' : w.cell? ⟨tb, 2, none⟩ = some (.bool true) := ht
    have hs1 : (cutHead 46 s).size ≤ 4294967280 := Nat.le_trans (cutHead_size 46 s) hs
    have hs2 : (cutTail 46 s).size ≤ 4294967280 := Nat.le_trans (cutTail_size 46 s) hs
    clear ht
    go_enter Tryz.func156, Tryz.ntmps156
    go_wp2_with (first
      | (go_at_call 92; refine (cut_any _ s 46 hs).mono ?_; rintro e w1 ⟨rfl, n, rfl⟩)
      | (go_at_call 176; refine (rIsName_any _ _ hs1).mono ?_; rintro e w1 ⟨rfl, rfl⟩)
      | (go_at_call 94; refine (rNumber_any _ _ _ _ hs2 (by omega) (by omega) (by omega) (by omega)).mono ?_; rintro e w1 ⟨n2, rfl, -, rfl⟩))
    all_goals go_ret
    all_goals (refine ⟨?_, n, rfl⟩)
    all_goals (rw [HV.out]; simp [*])

end Go.Proofs.YtbddcodljmglfaaGreatDoor

namespace Go.Proofs.YtbddcodljmglfaaGreatDoor
open Go.RowKit

def zeroV (s : BA) : Bool := ByteArray.toList (cutTail 46 s) == [48]
/-- The document's words of an args line, from the first name on: 'from' of them are well. -/
def argOk (tg : Nat) (ws : List BA) (i : Nat) : Prop := ∀ x, ws[i]? = some x → (readVer tg x).isSome = true ∧ (tg = 1 → zeroV x = true) ∧ ∀ k y, 1 ≤ k → k < i → ws[k]? = some y → y ≠ x

set_option maxRecDepth 100000 in
set_option maxHeartbeats 4000000 in
theorem rArgs_any (w : World) (tb tg : Nat) (htg : tg = 0 ∨ tg = 1) (v : Value) (ws : List BA) (hv : RdT w 9 1 v ws.length (strs ws)) (h1 : 1 ≤ ws.length) (hl : ws.length ≤ 4294967290) (hs : ∀ x ∈ ws, x.size ≤ 4294967280) (ht : w.cell? ⟨tb, 2, none⟩ = some (.bool (decide (tg = 1)))) :
    Calls Tryz.prog 120 #[.pointer (some ⟨tb, 0, none⟩), v] w fun e w' => (∃ b : Bool, e = .returned (.bool b) ∧ (b = true ↔ ByteArray.toList ws[0] = [97, 114, 103, 115] ∧ ws.length ≤ 5 ∧ ∀ i, 1 ≤ i → argOk tg ws i)) ∧ ∃ n, w' = w.drewN n := by
  obtain ⟨ao, cap, rfl, hcap, hcl0⟩ := hv.cell
  obtain ⟨gT, offT, rfl, hgT, hcl⟩ := hcl0 h1
  have HCL : Hid (∀ j x, ws[j]? = some x → w.cell? ⟨gT, offT + j, none⟩ = some (.string x)) := fun j x hx => hcl j _ (by simp [strs, hx])
  have HS : Hid (∀ x ∈ ws, x.size ≤ 4294967280) := hs
  obtain ⟨x0, hx0⟩ : ∃ x, ws[0] = x := ⟨_, rfl⟩
  have hx0' : ws[0]? = some x0 := by rw [List.getElem?_eq_getElem (by omega), hx0]
  have c0 : w.cell? ⟨gT, offT, none⟩ = some (.string x0) := HCL.out 0 x0 hx0'
  rw [hx0]
  obtain ⟨N, hN⟩ : ∃ N, N = ws.length := ⟨_, rfl⟩
  have HN : Hid (N = ws.length) := hN
  rw [← hN] at h1 hl hcap ⊢
  clear hs hv hcl0 hcl hx0 hx0' hN
  by_cases h0 : ByteArray.toList x0 = [97, 114, 103, 115]
  · by_cases h5 : N ≤ 5
    · go_enter Tryz.func120, Tryz.ntmps120
      go_wp2_with fail
      go_loopg [5] (N - 1) (fun g v5 wr => ∃ (i : Nat), i + g = N ∧ 1 ≤ i ∧ v5 = .int .i64 i ∧ Hid (∃ n, wr = w.drewN n) ∧ Hid (∀ j, 1 ≤ j → j < i → argOk tg ws j))
      case atStart => exact ⟨1, by omega, by omega, rfl, ⟨0, rfl⟩, fun j h1 h2 => absurd h1 (by omega)⟩
      case round =>
        obtain ⟨i, hig, hi1, rfl, hwr, hok⟩ := hrel
        by_cases hiN : i < N
        · obtain ⟨x, hx⟩ : ∃ x, ws[i]? = some x := ⟨_, List.getElem?_eq_getElem (by have := HN.out; omega)⟩
          have hxs : x.size ≤ 4294967280 := HS.out x (List.mem_of_getElem? hx)
          obtain ⟨n0, rfl⟩ := hwr.out
          have cx : ∀ m, (w.drewN m).cell? ⟨gT, offT + i, none⟩ = some (.string x) := fun m => HCL.out i x hx
          have ct : ∀ m, (w.drewN m).cell? ⟨tb, 2, none⟩ = some (.bool (decide (tg = 1))) := fun m => ht
          have HVA : Hid (∀ m, Calls Tryz.prog 156 #[.pointer (some ⟨tb, 0, none⟩), .string x] (w.drewN m) fun e w' => e = .returned (.bool (readVer tg x).isSome) ∧ ∃ n, w' = w.drewN n) := fun m => (variable_any (w.drewN m) tb tg htg x hxs ht).mono (by rintro e w' ⟨h1, n, rfl⟩; exact ⟨h1, _, World.drewN_drewN _ _ _⟩)
          have HFI : Hid (∀ m, Calls Tryz.prog 46 #[.string x] (w.drewN m) fun e w' => e = .returned (.bool (zeroV x)) ∧ ∃ n, w' = w.drewN n) := fun m => (first_any (w.drewN m) x hxs).mono (by rintro e w' ⟨h1, n, rfl⟩; exact ⟨h1, _, World.drewN_drewN _ _ _⟩)
          clear hwr
          cases hrv : (readVer tg x).isSome with
          | false =>
            rw [hrv] at HVA
            have HF : Hid (¬ argOk tg ws i) := fun h => by have := (h x hx).1; rw [hrv] at this; cases this
            go_wp2_with (first
              | (go_at_call 156; refine (HVA.out _).mono ?_; rintro e w1 ⟨rfl, n1, rfl⟩)
              | (go_at_call 46; refine (HFI.out _).mono ?_; rintro e w1 ⟨rfl, n2, rfl⟩))
            go_ret
            exact ⟨⟨false, rfl, by simp only [Bool.false_eq_true, false_iff]; exact fun h => HF.out (h.2.2 i hi1)⟩, _, rfl⟩
          | true =>
            rw [hrv] at HVA
            by_cases hz : tg = 1 ∧ zeroV x = false
            · have HF : Hid (¬ argOk tg ws i) := fun h => by have := (h x hx).2.1 hz.1; rw [hz.2] at this; cases this
              obtain ⟨rfl, hz2⟩ := hz
              rw [hz2] at HFI
              have ct2 : ∀ m, (w.drewN m).cell? ⟨tb, 2, none⟩ = some (.bool true) := ct
              clear ct
              go_wp2_with (first
                | (go_at_call 156; refine (HVA.out _).mono ?_; rintro e w1 ⟨rfl, n1, rfl⟩)
                | (go_at_call 46; refine (HFI.out _).mono ?_; rintro e w1 ⟨rfl, n2, rfl⟩))
              go_ret
              exact ⟨⟨false, rfl, by simp only [Bool.false_eq_true, false_iff]; exact fun h => HF.out (h.2.2 i hi1)⟩, _, rfl⟩
            · have hzz : tg = 1 → zeroV x = true := fun h => by cases hq : zeroV x; exact absurd ⟨h, hq⟩ hz; rfl
              have HZZ : Hid (tg = 1 → zeroV x = true) := hzz
              have HW2 : Hid (∀ m, w.drewN m = w.drewN m) := fun _ => rfl
              have hfo : (decide (tg = 1) && !zeroV x) = false := by
                by_cases h : tg = 1
                · simp [h, hzz h]
                · simp [h]
              have HRV : Hid ((readVer tg x).isSome = true) := hrv
              clear hz hzz hrv
              rcases htg with rfl | rfl
              · have ct2 : ∀ m, (w.drewN m).cell? ⟨tb, 2, none⟩ = some (.bool false) := ct
                clear ct ht hfo
                go_wp2_with (first
                  | (go_at_call 156; refine (HVA.out _).mono ?_; rintro e w1 ⟨rfl, n1, rfl⟩)
                  | (go_at_call 46; refine (HFI.out _).mono ?_; rintro e w1 ⟨rfl, n2, rfl⟩))
                go_loopg [8] (i - 1) (fun g v8 wr => ∃ (k : Nat), k + g = i ∧ 1 ≤ k ∧ v8 = .int .i64 k ∧ Hid (∃ n, wr = w.drewN n) ∧ Hid (∀ l y, 1 ≤ l → l < k → ws[l]? = some y → y ≠ x))
                case atStart => exact ⟨1, by omega, by omega, rfl, ⟨_, rfl⟩, fun l y h1 h2 => absurd h1 (by omega)⟩
                case round =>
                  obtain ⟨k, hkg, hk1, rfl, hwr, hno⟩ := hrel
                  obtain ⟨n3, rfl⟩ := hwr.out
                  clear hwr
                  by_cases hki : k < i
                  · obtain ⟨y, hy⟩ : ∃ y, ws[k]? = some y := ⟨_, List.getElem?_eq_getElem (by have := HN.out; omega)⟩
                    have cy : ∀ m, (w.drewN m).cell? ⟨gT, offT + k, none⟩ = some (.string y) := fun m => HCL.out k y hy
                    by_cases hyx : y = x
                    · have HF : Hid (¬ argOk 0 ws i) := fun h => (h x hx).2.2 k y hk1 hki hy hyx
                      have hyx' : (ByteArray.toList y == ByteArray.toList x) = true := by rw [hyx]; simp
                      clear hyx
                      go_wp2_with fail
                      go_quiet (fail)
                      go_wp2_with fail
                      go_ret
                      exact ⟨⟨false, rfl, by simp only [Bool.false_eq_true, false_iff]; exact fun h => HF.out (h.2.2 i hi1)⟩, _, World.drewN_drewN _ _ _⟩
                    · have hyx' : (ByteArray.toList y == ByteArray.toList x) = false := by rw [beq_eq_false_iff_ne]; exact fun h => hyx (ba_ext h)
                      have HYX : Hid (y ≠ x) := hyx
                      clear hyx
                      go_wp2_with fail
                      go_quiet (fail)
                      go_wp2_with fail
                      go_roundg (i - (k + 1))
                      case measure => omega
                      case rel => exact ⟨k + 1, by omega, by omega, by go_num, ⟨_, rfl⟩, fun l z h1 h2 hz => by rcases Nat.lt_or_eq_of_le (Nat.le_of_lt_succ h2) with h' | h'; exact hno.out l z h1 h' hz; subst h'; rw [hy] at hz; injection hz with hz; subst hz; exact HYX.out⟩
                  · have hkE : k = i := by omega
                    subst hkE
                    have HOK : Hid (argOk 0 ws k) := fun z hz => by rw [hx] at hz; injection hz with hz; subst hz; exact ⟨HRV.out, (fun h => absurd h (by decide)), fun l y h1 h2 h3 => hno.out l y h1 h2 h3⟩
                    go_wp2_with fail
                    go_roundg (N - (k + 1))
                    case measure => omega
                    case rel => exact ⟨k + 1, by omega, by omega, by go_num, ⟨_, rfl⟩, fun j h1 h2 => by rcases Nat.lt_or_eq_of_le (Nat.le_of_lt_succ h2) with h' | h'; exact hok.out j h1 h'; subst h'; exact HOK.out⟩
              · have ct2 : ∀ m, (w.drewN m).cell? ⟨tb, 2, none⟩ = some (.bool true) := ct
                clear ct ht hfo
                have HZ1 : Hid (zeroV x = true) := HZZ.out rfl
                rw [HZ1.out] at HFI
                clear HZZ
                go_wp2_with (first
                  | (go_at_call 156; refine (HVA.out _).mono ?_; rintro e w1 ⟨rfl, n1, rfl⟩)
                  | (go_at_call 46; refine (HFI.out _).mono ?_; rintro e w1 ⟨rfl, n2, rfl⟩))
                go_loopg [8] (i - 1) (fun g v8 wr => ∃ (k : Nat), k + g = i ∧ 1 ≤ k ∧ v8 = .int .i64 k ∧ Hid (∃ n, wr = w.drewN n) ∧ Hid (∀ l y, 1 ≤ l → l < k → ws[l]? = some y → y ≠ x))
                case atStart => exact ⟨1, by omega, by omega, rfl, ⟨_, rfl⟩, fun l y h1 h2 => absurd h1 (by omega)⟩
                case round =>
                  obtain ⟨k, hkg, hk1, rfl, hwr, hno⟩ := hrel
                  obtain ⟨n3, rfl⟩ := hwr.out
                  clear hwr
                  by_cases hki : k < i
                  · obtain ⟨y, hy⟩ : ∃ y, ws[k]? = some y := ⟨_, List.getElem?_eq_getElem (by have := HN.out; omega)⟩
                    have cy : ∀ m, (w.drewN m).cell? ⟨gT, offT + k, none⟩ = some (.string y) := fun m => HCL.out k y hy
                    by_cases hyx : y = x
                    · have HF : Hid (¬ argOk 1 ws i) := fun h => (h x hx).2.2 k y hk1 hki hy hyx
                      have hyx' : (ByteArray.toList y == ByteArray.toList x) = true := by rw [hyx]; simp
                      clear hyx
                      go_wp2_with fail
                      go_quiet (fail)
                      go_wp2_with fail
                      go_ret
                      exact ⟨⟨false, rfl, by simp only [Bool.false_eq_true, false_iff]; exact fun h => HF.out (h.2.2 i hi1)⟩, _, World.drewN_drewN _ _ _⟩
                    · have hyx' : (ByteArray.toList y == ByteArray.toList x) = false := by rw [beq_eq_false_iff_ne]; exact fun h => hyx (ba_ext h)
                      have HYX : Hid (y ≠ x) := hyx
                      clear hyx
                      go_wp2_with fail
                      go_quiet (fail)
                      go_wp2_with fail
                      go_roundg (i - (k + 1))
                      case measure => omega
                      case rel => exact ⟨k + 1, by omega, by omega, by go_num, ⟨_, rfl⟩, fun l z h1 h2 hz => by rcases Nat.lt_or_eq_of_le (Nat.le_of_lt_succ h2) with h' | h'; exact hno.out l z h1 h' hz; subst h'; rw [hy] at hz; injection hz with hz; subst hz; exact HYX.out⟩
                  · have hkE : k = i := by omega
                    subst hkE
                    have HOK : Hid (argOk 1 ws k) := fun z hz => by rw [hx] at hz; injection hz with hz; subst hz; exact ⟨HRV.out, fun _ => HZ1.out, fun l y h1 h2 h3 => hno.out l y h1 h2 h3⟩
                    go_wp2_with fail
                    go_roundg (N - (k + 1))
                    case measure => omega
                    case rel => exact ⟨k + 1, by omega, by omega, by go_num, ⟨_, rfl⟩, fun j h1 h2 => by rcases Nat.lt_or_eq_of_le (Nat.le_of_lt_succ h2) with h' | h'; exact hok.out j h1 h'; subst h'; exact HOK.out⟩
        · obtain ⟨n0, rfl⟩ := hwr.out
          have hiE : i = N := by omega
          have HALL : Hid (∀ j, 1 ≤ j → argOk tg ws j) := fun j h1 => by
            by_cases hj : j < i
            · exact hok.out j h1 hj
            · intro x hx
              have := (List.getElem?_eq_some_iff.1 hx).1
              have := HN.out
              omega
          go_wp2_with fail
          go_ret
          exact ⟨⟨true, rfl, by simp only [true_iff]; exact ⟨h0, h5, HALL.out⟩⟩, _, rfl⟩
    · have h5' : (5 : Int) < (N : Int) := by omega
      go_enter Tryz.func120, Tryz.ntmps120
      go_wp2_with fail
      go_ret
      exact ⟨⟨false, rfl, by simp only [Bool.false_eq_true, false_iff]; exact fun h => h5 h.2.1⟩, 0, rfl⟩
  · have h0' : (ByteArray.toList x0 == [97, 114, 103, 115]) = false := by simpa using h0
    have H0 : Hid (¬ ByteArray.toList x0 = [97, 114, 103, 115]) := h0
    clear h0
    go_enter Tryz.func120, Tryz.ntmps120
    go_wp2_with fail
    go_ret
    exact ⟨⟨false, rfl, by simp only [Bool.false_eq_true, false_iff]; exact fun h => H0.out h.1⟩, 0, rfl⟩

end Go.Proofs.YtbddcodljmglfaaGreatDoor

namespace Go.Proofs.YtbddcodljmglfaaGreatDoor
open Go.RowKit

def partB (p : Nat) : UInt8 := if p = 1 then 115 else if p = 2 then 120 else if p = 3 then 110 else 98
theorem behS_list : ∀ k : Fin 10, (behS (some k.val)).data.toList = (partsOf k.val).map partB := by decide
theorem parts_range : ∀ k : Fin 10, ∀ p ∈ partsOf k.val, p = 1 ∨ p = 2 ∨ p = 3 ∨ p = 4 := by decide
theorem partsF_len : ∀ k : Fin 10, (partsOf k.val).length ≤ 3 := by decide
theorem behS_q0 : ∀ k : Fin 10, ((behS (some k.val)).data.toList == [63]) = false := by decide
theorem behS_q (k : Fin 10) : (ByteArray.toList (behS (some k.val)) == [63]) = false := by rw [ByteArray.toList_eq]; exact behS_q0 k
theorem behS_size {k : Nat} (hk : k < 10) : (behS (some k)).size = (partsOf k).length := by
  have := congrArg List.length (behS_list ⟨k, hk⟩)
  rw [Array.length_toList, List.length_map] at this
  exact this
theorem behS_get {k j : Nat} (hk : k < 10) (hj : j < (behS (some k)).size) {p : Nat} (hp : (partsOf k)[j]? = some p) : (behS (some k))[j] = partB p := by
  have h1 := behS_list ⟨k, hk⟩
  have h2 := ba_get (behS (some k)) j hj
  rw [← h2]
  have h3 : (behS (some k)).data.toList[j]? = some (partB p) := by rw [h1, List.getElem?_map, hp]; rfl
  exact (List.getElem?_eq_some_iff.1 h3).2

/-- Is a word what is wanted there? -/
def partOk (tg p : Nat) (b : BA) : Bool := if p = 1 ∨ p = 2 then (readVer tg b).isSome else if p = 3 then (numB b).isSome else (blkB b).isSome

set_option maxRecDepth 100000 in
set_option maxHeartbeats 4000000 in
theorem rPlain_any (w : World) (tb tg : Nat) (htg : tg = 0 ∨ tg = 1) (v : Value) (ws : List BA) (hv : RdT w 9 1 v ws.length (strs ws)) (h1 : 1 ≤ ws.length) (hl : ws.length ≤ 4294967290) (hs : ∀ x ∈ ws, x.size ≤ 4294967280) (ht : w.cell? ⟨tb, 2, none⟩ = some (.bool (decide (tg = 1)))) :
    Calls Tryz.prog 122 #[.pointer (some ⟨tb, 0, none⟩), v] w fun e w' => (∃ b : Bool, e = .returned (.bool b) ∧ (b = true ↔ ∃ kd, kindOf ws[0] = some kd ∧ ws.length = (partsOf kd).length + 1 ∧ ∀ j p x, (partsOf kd)[j]? = some p → ws[j + 1]? = some x → partOk tg p x = true)) ∧ ∃ n, w' = w.drewN n := by
  obtain ⟨ao, cap, rfl, hcap, hcl0⟩ := hv.cell
  obtain ⟨gT, offT, rfl, hgT, hcl⟩ := hcl0 h1
  have HCL : Hid (∀ j x, ws[j]? = some x → w.cell? ⟨gT, offT + j, none⟩ = some (.string x)) := fun j x hx => hcl j _ (by simp [strs, hx])
  have HS : Hid (∀ x ∈ ws, x.size ≤ 4294967280) := hs
  obtain ⟨x0, hx0⟩ : ∃ x, ws[0] = x := ⟨_, rfl⟩
  have hx0' : ws[0]? = some x0 := by rw [List.getElem?_eq_getElem (by omega), hx0]
  have c0 : w.cell? ⟨gT, offT, none⟩ = some (.string x0) := HCL.out 0 x0 hx0'
  rw [hx0]
  obtain ⟨N, hN⟩ : ∃ N, N = ws.length := ⟨_, rfl⟩
  have HN : Hid (N = ws.length) := hN
  rw [← hN] at h1 hl hcap ⊢
  have HBE : Hid (∀ w1, Calls Tryz.prog 73 #[.string x0] w1 fun e w' => e = .returned (.string (behS (kindOf x0))) ∧ w' = w1) := fun w1 => behind_any w1 x0
  clear hs hv hcl0 hcl hx0 hx0' hN
  cases hk : kindOf x0 with
  | none =>
    rw [hk] at HBE
    have HK : Hid (¬ ∃ kd, (none : Option Nat) = some kd ∧ N = (partsOf kd).length + 1 ∧ ∀ j p x, (partsOf kd)[j]? = some p → ws[j + 1]? = some x → partOk tg p x = true) := by rintro ⟨kd, h, -⟩; cases h
    have hq : (ByteArray.toList (behS none) == [63]) = true := by rw [ByteArray.toList_eq]; decide
    generalize behS none = f at HBE hq
    go_enter Tryz.func122, Tryz.ntmps122
    go_wp2_with (first | (go_at_call 73; refine (HBE.out _).mono ?_; rintro e w1 ⟨rfl, rfl⟩))
    go_ret
    exact ⟨⟨false, rfl, by simp only [Bool.false_eq_true, false_iff]; exact HK.out⟩, 0, rfl⟩
  | some kd =>
    rw [hk] at HBE
    have hkd := kindOf_lt hk
    have hq : (ByteArray.toList (behS (some kd)) == [63]) = false := behS_q ⟨kd, hkd⟩
    have hfs := behS_size hkd
    have HFG : Hid (∀ j (hj : j < (behS (some kd)).size) p, (partsOf kd)[j]? = some p → (behS (some kd))[j] = partB p) := fun j hj p hp => behS_get hkd hj hp
    have HPR : Hid (∀ p ∈ partsOf kd, p = 1 ∨ p = 2 ∨ p = 3 ∨ p = 4) := parts_range ⟨kd, hkd⟩
    generalize behS (some kd) = f at HBE hq hfs HFG
    obtain ⟨ps, hps⟩ : ∃ ps, ps = partsOf kd := ⟨_, rfl⟩
    rw [← hps] at hfs HFG HPR
    have HPS : Hid (ps = partsOf kd) := hps
    clear hps
    have hf3 : f.size ≤ 3 := by rw [hfs, HPS.out]; exact partsF_len ⟨kd, hkd⟩
    have HFS : Hid (f.size = ps.length) := hfs
    clear hfs
    by_cases hlen : N = f.size + 1
    · have hlen' : (N : Int) = (f.size : Int) + 1 := by omega
      go_enter Tryz.func122, Tryz.ntmps122
      go_wp2_with (first | (go_at_call 73; refine (HBE.out _).mono ?_; rintro e w1 ⟨rfl, hw1⟩; rw [hw1]; clear hw1))
      go_loopg [6] f.size (fun g v6 wr => ∃ (k : Nat), k + g = f.size ∧ v6 = .int .i64 k ∧ Hid (∃ n, wr = w.drewN n) ∧ Hid (∀ j p x, j < k → ps[j]? = some p → ws[j + 1]? = some x → partOk tg p x = true))
      case atStart => exact ⟨0, by omega, rfl, ⟨0, rfl⟩, fun j p x h => absurd h (by omega)⟩
      case round =>
        obtain ⟨k, hkg, rfl, hwr, hok⟩ := hrel
        obtain ⟨n0, rfl⟩ := hwr.out
        clear hwr
        by_cases hkf : k < f.size
        · obtain ⟨p, hp⟩ : ∃ p, ps[k]? = some p := ⟨_, List.getElem?_eq_getElem (by have := HFS.out; omega)⟩
          obtain ⟨x, hx⟩ : ∃ x, ws[k + 1]? = some x := ⟨_, List.getElem?_eq_getElem (by have := HN.out; omega)⟩
          have hxs : x.size ≤ 4294967280 := HS.out x (List.mem_of_getElem? hx)
          have cx : ∀ m, (w.drewN m).cell? ⟨gT, offT + (k + 1), none⟩ = some (.string x) := fun m => HCL.out (k + 1) x hx
          have HVA : Hid (∀ m, Calls Tryz.prog 156 #[.pointer (some ⟨tb, 0, none⟩), .string x] (w.drewN m) fun e w' => e = .returned (.bool (readVer tg x).isSome) ∧ ∃ n, w' = w.drewN n) := fun m => (variable_any (w.drewN m) tb tg htg x hxs ht).mono (by rintro e w' ⟨h1, n, rfl⟩; exact ⟨h1, _, World.drewN_drewN _ _ _⟩)
          have HNU : Hid (∀ W, Calls Tryz.prog 94 #[.string x, .int .i64 (-1000000000), .int .i64 1000000000] W fun e w' => ∃ n : Int, e = .returned (.tuple #[.int .i64 n, .bool (numB x).isSome]) ∧ w' = W) := fun W => (rNumber_any W x _ _ hxs (by omega) (by omega) (by omega) (by omega)).mono (by rintro e w' ⟨n, h1, -, h2⟩; rw [← numB_eq] at h1; exact ⟨n, h1, h2⟩)
          have HBL : Hid (∀ W, Calls Tryz.prog 94 #[.string x, .int .i64 0, .int .i64 1000000000] W fun e w' => ∃ n : Int, e = .returned (.tuple #[.int .i64 n, .bool (blkB x).isSome]) ∧ w' = W) := fun W => (rNumber_any W x _ _ hxs (by omega) (by omega) (by omega) (by omega)).mono (by rintro e w' ⟨n, h1, -, h2⟩; rw [numR_blk] at h1; refine ⟨n, ?_, h2⟩; rw [h1]; cases blkB x <;> rfl)
          rcases HPR.out p (List.mem_of_getElem? hp) with rfl | rfl | rfl | rfl
          · have hfk : (f[k]).toNat = 115 := by rw [HFG.out k hkf _ hp]; rfl
            have HPO : Hid (partOk tg 1 x = (readVer tg x).isSome) := by show _ = _; simp [partOk]
            cases hok2 : (readVer tg x).isSome with
            | false =>
              rw [hok2] at HPO
              have HK : Hid (¬ ∃ kd', some kd = some kd' ∧ N = (partsOf kd').length + 1 ∧ ∀ j p x, (partsOf kd')[j]? = some p → ws[j + 1]? = some x → partOk tg p x = true) := by
                rintro ⟨kd', h, -, h3⟩
                injection h with h
                subst h
                rw [← HPS.out] at h3
                have := h3 k _ x hp hx
                rw [HPO.out] at this
                cases this
              have HOK2 : Hid ((readVer tg x).isSome = false) := hok2
              clear hok2
              go_wp2_with (first | (go_at_call 156; refine (HVA.out _).mono ?_; rintro e w1 ⟨rfl, n1, rfl⟩; rw [HOK2.out]))
              go_ret
              exact ⟨⟨false, (by first | rfl | (rw [HOK2.out]) | simp [HOK2.out]), by simp only [Bool.false_eq_true, false_iff]; exact HK.out⟩, _, rfl⟩
            | true =>
              rw [hok2] at HPO
              have HOK2 : Hid ((readVer tg x).isSome = true) := hok2
              clear hok2
              go_wp2_with (first | (go_at_call 156; refine (HVA.out _).mono ?_; rintro e w1 ⟨rfl, n1, rfl⟩; rw [HOK2.out]))
              go_roundg (f.size - (k + 1))
              case measure => omega
              case rel => exact ⟨k + 1, by omega, by go_num, ⟨_, rfl⟩, fun j p' x' h1 h2 h3 => by rcases Nat.lt_or_eq_of_le (Nat.le_of_lt_succ h1) with h' | h'; exact hok.out j p' x' h' h2 h3; subst h'; rw [hp] at h2; rw [hx] at h3; injection h2 with h2; injection h3 with h3; subst h2 h3; exact HPO.out⟩
          · have hfk : (f[k]).toNat = 120 := by rw [HFG.out k hkf _ hp]; rfl
            have HPO : Hid (partOk tg 2 x = (readVer tg x).isSome) := by show _ = _; simp [partOk]
            cases hok2 : (readVer tg x).isSome with
            | false =>
              rw [hok2] at HPO
              have HK : Hid (¬ ∃ kd', some kd = some kd' ∧ N = (partsOf kd').length + 1 ∧ ∀ j p x, (partsOf kd')[j]? = some p → ws[j + 1]? = some x → partOk tg p x = true) := by
                rintro ⟨kd', h, -, h3⟩
                injection h with h
                subst h
                rw [← HPS.out] at h3
                have := h3 k _ x hp hx
                rw [HPO.out] at this
                cases this
              have HOK2 : Hid ((readVer tg x).isSome = false) := hok2
              clear hok2
              go_wp2_with (first | (go_at_call 156; refine (HVA.out _).mono ?_; rintro e w1 ⟨rfl, n1, rfl⟩; rw [HOK2.out]))
              go_ret
              exact ⟨⟨false, (by first | rfl | (rw [HOK2.out]) | simp [HOK2.out]), by simp only [Bool.false_eq_true, false_iff]; exact HK.out⟩, _, rfl⟩
            | true =>
              rw [hok2] at HPO
              have HOK2 : Hid ((readVer tg x).isSome = true) := hok2
              clear hok2
              go_wp2_with (first | (go_at_call 156; refine (HVA.out _).mono ?_; rintro e w1 ⟨rfl, n1, rfl⟩; rw [HOK2.out]))
              go_roundg (f.size - (k + 1))
              case measure => omega
              case rel => exact ⟨k + 1, by omega, by go_num, ⟨_, rfl⟩, fun j p' x' h1 h2 h3 => by rcases Nat.lt_or_eq_of_le (Nat.le_of_lt_succ h1) with h' | h'; exact hok.out j p' x' h' h2 h3; subst h'; rw [hp] at h2; rw [hx] at h3; injection h2 with h2; injection h3 with h3; subst h2 h3; exact HPO.out⟩
          · have hfk : (f[k]).toNat = 110 := by rw [HFG.out k hkf _ hp]; rfl
            have HPO : Hid (partOk tg 3 x = (numB x).isSome) := by show _ = _; simp [partOk]
            cases hok2 : (numB x).isSome with
            | false =>
              rw [hok2] at HPO
              have HK : Hid (¬ ∃ kd', some kd = some kd' ∧ N = (partsOf kd').length + 1 ∧ ∀ j p x, (partsOf kd')[j]? = some p → ws[j + 1]? = some x → partOk tg p x = true) := by
                rintro ⟨kd', h, -, h3⟩
                injection h with h
                subst h
                rw [← HPS.out] at h3
                have := h3 k _ x hp hx
                rw [HPO.out] at this
                cases this
              have HOK2 : Hid ((numB x).isSome = false) := hok2
              clear hok2
              go_wp2_with (first | (go_at_call 94; refine (HNU.out _).mono ?_; rintro e w1 ⟨n2, rfl, rfl⟩; rw [HOK2.out]))
              go_ret
              exact ⟨⟨false, (by first | rfl | (rw [HOK2.out]) | simp [HOK2.out]), by simp only [Bool.false_eq_true, false_iff]; exact HK.out⟩, _, rfl⟩
            | true =>
              rw [hok2] at HPO
              have HOK2 : Hid ((numB x).isSome = true) := hok2
              clear hok2
              go_wp2_with (first | (go_at_call 94; refine (HNU.out _).mono ?_; rintro e w1 ⟨n2, rfl, rfl⟩; rw [HOK2.out]))
              go_roundg (f.size - (k + 1))
              case measure => omega
              case rel => exact ⟨k + 1, by omega, by go_num, ⟨_, rfl⟩, fun j p' x' h1 h2 h3 => by rcases Nat.lt_or_eq_of_le (Nat.le_of_lt_succ h1) with h' | h'; exact hok.out j p' x' h' h2 h3; subst h'; rw [hp] at h2; rw [hx] at h3; injection h2 with h2; injection h3 with h3; subst h2 h3; exact HPO.out⟩
          · have hfk : (f[k]).toNat = 98 := by rw [HFG.out k hkf _ hp]; rfl
            have HPO : Hid (partOk tg 4 x = (blkB x).isSome) := by show _ = _; simp [partOk]
            cases hok2 : (blkB x).isSome with
            | false =>
              rw [hok2] at HPO
              have HK : Hid (¬ ∃ kd', some kd = some kd' ∧ N = (partsOf kd').length + 1 ∧ ∀ j p x, (partsOf kd')[j]? = some p → ws[j + 1]? = some x → partOk tg p x = true) := by
                rintro ⟨kd', h, -, h3⟩
                injection h with h
                subst h
                rw [← HPS.out] at h3
                have := h3 k _ x hp hx
                rw [HPO.out] at this
                cases this
              have HOK2 : Hid ((blkB x).isSome = false) := hok2
              clear hok2
              go_wp2_with (first | (go_at_call 94; refine (HBL.out _).mono ?_; rintro e w1 ⟨n2, rfl, rfl⟩; rw [HOK2.out]))
              go_ret
              exact ⟨⟨false, (by first | rfl | (rw [HOK2.out]) | simp [HOK2.out]), by simp only [Bool.false_eq_true, false_iff]; exact HK.out⟩, _, rfl⟩
            | true =>
              rw [hok2] at HPO
              have HOK2 : Hid ((blkB x).isSome = true) := hok2
              clear hok2
              go_wp2_with (first | (go_at_call 94; refine (HBL.out _).mono ?_; rintro e w1 ⟨n2, rfl, rfl⟩; rw [HOK2.out]))
              go_roundg (f.size - (k + 1))
              case measure => omega
              case rel => exact ⟨k + 1, by omega, by go_num, ⟨_, rfl⟩, fun j p' x' h1 h2 h3 => by rcases Nat.lt_or_eq_of_le (Nat.le_of_lt_succ h1) with h' | h'; exact hok.out j p' x' h' h2 h3; subst h'; rw [hp] at h2; rw [hx] at h3; injection h2 with h2; injection h3 with h3; subst h2 h3; exact HPO.out⟩
        · have HK : Hid (∃ kd', some kd = some kd' ∧ N = (partsOf kd').length + 1 ∧ ∀ j p x, (partsOf kd')[j]? = some p → ws[j + 1]? = some x → partOk tg p x = true) := by
            refine ⟨kd, rfl, ?_, ?_⟩
            · rw [← HPS.out, ← HFS.out]; exact hlen
            · rw [← HPS.out]
              intro j p x h2 h3
              exact hok.out j p x (by have := (List.getElem?_eq_some_iff.1 h2).1; have := HFS.out; omega) h2 h3
          go_wp2_with fail
          go_ret
          exact ⟨⟨true, rfl, by simp only [true_iff]; exact HK.out⟩, _, rfl⟩
    · have HK : Hid (¬ ∃ kd', some kd = some kd' ∧ N = (partsOf kd').length + 1 ∧ ∀ j p x, (partsOf kd')[j]? = some p → ws[j + 1]? = some x → partOk tg p x = true) := by
        rintro ⟨kd', h, h2, -⟩
        injection h with h
        subst h
        rw [← HPS.out, ← HFS.out] at h2
        exact hlen h2
      have hlen' : ¬ (N : Int) = (f.size : Int) + 1 := by omega
      go_enter Tryz.func122, Tryz.ntmps122
      go_wp2_with (first | (go_at_call 73; refine (HBE.out _).mono ?_; rintro e w1 ⟨rfl, rfl⟩))
      go_ret
      exact ⟨⟨false, rfl, by simp only [Bool.false_eq_true, false_iff]; exact HK.out⟩, 0, rfl⟩

end Go.Proofs.YtbddcodljmglfaaGreatDoor

namespace Go.Proofs.YtbddcodljmglfaaGreatDoor
open Go.RowKit

def argsR (tg : Nat) (x0 : BA) (ws : List BA) : Prop := ByteArray.toList x0 = [97, 114, 103, 115] ∧ ws.length ≤ 5 ∧ ∀ i, 1 ≤ i → argOk tg ws i
def plainR (tg : Nat) (x0 : BA) (ws : List BA) : Prop := ∃ kd, kindOf x0 = some kd ∧ ws.length = (partsOf kd).length + 1 ∧ ∀ j p x, (partsOf kd)[j]? = some p → ws[j + 1]? = some x → partOk tg p x = true
def BoolIff (e : Ending) (P : Prop) : Prop := ∃ b : Bool, e = .returned (.bool b) ∧ (b = true ↔ P)
theorem BoolIff.mk {e : Ending} {P : Prop} (b : Bool) (h1 : e = .returned (.bool b)) (h2 : b = true ↔ P) : BoolIff e P := ⟨b, h1, h2⟩
/-- A line's words in memory. -/
structure WordsIn (w : World) (v : Value) (x0 : BA) (ws : List BA) : Prop where
  row : RdT w 9 1 v ws.length (strs ws)
  pos : 1 ≤ ws.length
  fst : ws[0]? = some x0
  len : ws.length ≤ 4294967290
  small : ∀ x ∈ ws, x.size ≤ 4294967280
theorem WordsIn.below {w w' : World} {v : Value} {x0 : BA} {ws : List BA} (h : WordsIn w v x0 ws) (hb : Below w.heap.size w w') : WordsIn w' v x0 ws := ⟨h.row.below hb, h.pos, h.fst, h.len, h.small⟩
theorem WordsIn.at {w : World} {v : Value} {x0 : BA} {ws : List BA} (h : WordsIn w v x0 ws) : ∃ g off cap, v = .slice (some ⟨g, off, none⟩) ws.length cap ∧ g < w.heap.size ∧ w.cell? ⟨g, off, none⟩ = some (.string x0) := by
  obtain ⟨ao, cap, rfl, hcap, hcl0⟩ := h.row.cell
  obtain ⟨gT, offT, rfl, hgT, hcl⟩ := hcl0 h.pos
  exact ⟨gT, offT, cap, rfl, hgT, hcl 0 _ (by simp [strs, h.fst])⟩

end Go.Proofs.YtbddcodljmglfaaGreatDoor

namespace Go.Proofs.YtbddcodljmglfaaGreatDoor
open Go.RowKit

/-- Where a line leads, by its words. -/
def leadsG : List Nat → List BA → List Nat
  | p :: ps, b :: bs => if p = 4 then (blkB b).getD 0 :: leadsG ps bs else leadsG ps bs
  | _, _ => []
theorem leadsG_nil (bs : List BA) : leadsG [] bs = [] := by simp [leadsG]
def leadsR (x0 : BA) (ws : List BA) : List Nat := match kindOf x0 with | some kd => leadsG (partsOf kd) (ws.drop 1) | none => []

theorem leadsG_step {ps : List Nat} {bs : List BA} {k p : Nat} {b : BA} (hp : ps[k]? = some p) (hb : bs[k]? = some b) : leadsG (ps.drop k) (bs.drop k) = (if p = 4 then [(blkB b).getD 0] else []) ++ leadsG (ps.drop (k + 1)) (bs.drop (k + 1)) := by
  obtain ⟨h1, h2⟩ := List.getElem?_eq_some_iff.1 hp
  obtain ⟨h3, h4⟩ := List.getElem?_eq_some_iff.1 hb
  rw [List.drop_eq_getElem_cons h1, List.drop_eq_getElem_cons h3, h2, h4]
  by_cases h : p = 4
  · simp [leadsG, h]
  · simp [leadsG, h]
theorem nums_snoc (L : List Nat) (n : Nat) : nums (L ++ [n]) = nums L ++ [.int .i64 (n : Int)] := by simp [nums]
theorem len_snocN (L : List Nat) (n : Nat) : (L ++ [n]).length = L.length + 1 := by simp

end Go.Proofs.YtbddcodljmglfaaGreatDoor

namespace Go.Proofs.YtbddcodljmglfaaGreatDoor
open Go.RowKit

/-- What a line takes, by its words. -/
def takesG : List Nat → List BA → List BA
  | p :: ps, b :: bs => if p = 2 then b :: takesG ps bs else takesG ps bs
  | _, _ => []
theorem takesG_nil (bs : List BA) : takesG [] bs = [] := by simp [takesG]
def takesR (x0 : BA) (ws : List BA) : List BA := match kindOf x0 with | some kd => takesG (partsOf kd) (ws.drop 1) | none => []
theorem takesG_step {ps : List Nat} {bs : List BA} {k p : Nat} {b : BA} (hp : ps[k]? = some p) (hb : bs[k]? = some b) : takesG (ps.drop k) (bs.drop k) = (if p = 2 then [b] else []) ++ takesG (ps.drop (k + 1)) (bs.drop (k + 1)) := by
  obtain ⟨h1, h2⟩ := List.getElem?_eq_some_iff.1 hp
  obtain ⟨h3, h4⟩ := List.getElem?_eq_some_iff.1 hb
  rw [List.drop_eq_getElem_cons h1, List.drop_eq_getElem_cons h3, h2, h4]
  by_cases h : p = 2
  · simp [takesG, h]
  · simp [takesG, h]

/-- What a line sets, by its words. -/
def setsR (x0 : BA) (ws : List BA) : BA := match kindOf x0 with | some kd => if (partsOf kd)[0]? = some 1 then ws.getD 1 ByteArray.empty else ByteArray.empty | none => ByteArray.empty
theorem parts_pos : ∀ k : Fin 10, 1 ≤ (partsOf k.val).length := by decide

/-- A list with one more, if it has it not yet. -/
def hasB (L : List BA) (x : BA) : Bool := L.any fun y => ByteArray.toList y == ByteArray.toList x
def addR (L : List BA) (x : BA) : List BA := if hasB L x = true then L else L ++ [x]

end Go.Proofs.YtbddcodljmglfaaGreatDoor

namespace Go.Proofs.YtbddcodljmglfaaGreatDoor

theorem argsOf_cons (tg : Nat) (w : BA) (bs : List BA) : argsOf tg (w :: bs) = if ByteArray.toList w = [97, 114, 103, 115] ∧ bs.length ≤ 4 then argsGo tg [] bs else none := rfl
theorem lineOf_cons (tg : Nat) (w : BA) (bs : List BA) : lineOf tg (w :: bs) = match kindOf w with | some k => fillG tg (partsOf k) bs ⟨k, noVer, [], 0, []⟩ | none => none := rfl
theorem addPart_ok (tg p : Nat) (b : BA) (l : LineG) : (addPart tg p b l).isSome = partOk tg p b := by
  unfold addPart partOk
  by_cases h1 : p = 1
  · simp [h1]; cases readVer tg b <;> rfl
  · by_cases h2 : p = 2
    · simp [h2]; cases readVer tg b <;> rfl
    · by_cases h3 : p = 3
      · simp [h3]; cases numB b <;> rfl
      · simp [h1, h2, h3]; cases blkB b <;> rfl
theorem fillG_ok (tg : Nat) : ∀ (ps : List Nat) (bs : List BA) (l : LineG), (fillG tg ps bs l).isSome = true ↔ bs.length = ps.length ∧ ∀ (j p : Nat) (x : BA), ps[j]? = some p → bs[j]? = some x → partOk tg p x = true
  | [], [], l => by simp [fillG]
  | [], _ :: _, l => by simp [fillG]
  | _ :: _, [], l => by simp [fillG]
  | p :: ps, b :: bs, l => by
    unfold fillG
    have h0 := addPart_ok tg p b l
    cases ha : addPart tg p b l with
    | none =>
      rw [ha] at h0
      constructor
      · intro h; cases h
      · rintro ⟨-, h⟩
        have := h 0 p b (by simp) (by simp)
        rw [← h0] at this
        cases this
    | some l' =>
      rw [ha] at h0
      simp only
      rw [fillG_ok tg ps bs l']
      constructor
      · rintro ⟨h1, h2⟩
        refine ⟨by simp [h1], fun j q x hq hx => ?_⟩
        cases j with
        | zero =>
          simp at hq hx
          subst hq hx
          exact h0.symm
        | succ j => exact h2 j q x (by simpa using hq) (by simpa using hx)
      · rintro ⟨h1, h2⟩
        exact ⟨by simpa using h1, fun j q x hq hx => h2 (j + 1) q x (by simpa using hq) (by simpa using hx)⟩

end Go.Proofs.YtbddcodljmglfaaGreatDoor

namespace Go.Proofs.YtbddcodljmglfaaGreatDoor

def hd (ws : List BA) : BA := ws.headD ByteArray.empty
def isBlock (x : BA) : Bool := ByteArray.toList x == [98, 108, 111, 99, 107]
def standsB (i nb : Nat) (last : BA) (ws : List BA) : Bool :=
  if i = 0 then (argsOf 0 ws).isSome
  else if isBlock (hd ws) = true then decide (ws.length = 1) && !(decide (1 < i) && !endsW last) && decide (nb < 20)
  else (decide (1 < i) && !endsW last) && (lineOf 0 ws).isSome
/-- The document's loop: how many blocks there are, or the line by which it is seen that there is no program. -/
def docL : Nat → Nat → BA → List BA → Except Nat Nat
  | i, nb, last, [] => if endsW last = true then .ok nb else .error i
  | i, nb, last, s :: r => if standsB i nb last (cuts 32 s) = true then docL (i + 1) (if isBlock (hd (cuts 32 s)) = true then nb + 1 else nb) (hd (cuts 32 s)) r else .error i

theorem cuts_cons (s : BA) : ∃ x bs, cuts 32 s = x :: bs := by
  cases h : cuts 32 s with
  | nil => exact absurd h (cuts_ne 32 s)
  | cons x bs => exact ⟨x, bs, rfl⟩
theorem cutsB_one (c : UInt8) : ∀ (l x : List UInt8), cutsB c l = [x] → x = l
  | [], x, h => by simp [cutsB] at h; exact h
  | b :: r, x, h => by
    unfold cutsB at h
    split at h
    · exact absurd (List.cons.inj h).2 (cutsB_ne c r)
    · split at h
      · rename_i hq
        exact absurd hq (cutsB_ne c r)
      · rename_i y ys hq
        obtain ⟨h1, h2⟩ := List.cons.inj h
        subst h2
        have := cutsB_one c r y hq
        rw [← h1, this]
theorem cuts_one {s x : BA} (h : cuts 32 s = [x]) : x = s := by
  unfold cuts at h
  cases hq : cutsB 32 s.data.toList with
  | nil => rw [hq] at h; cases h
  | cons y ys =>
    rw [hq] at h
    obtain ⟨h1, h2⟩ := List.cons.inj h
    have : ys = [] := by simpa using h2
    subst this
    rw [← h1, cutsB_one 32 _ _ hq, ofL_toList]
theorem cuts_block {s : BA} (h : ByteArray.toList s = [98, 108, 111, 99, 107]) : cuts 32 s = [s] := by
  have hs : s = ⟨#[98, 108, 111, 99, 107]⟩ := by
    apply ba_ext
    rw [h, ByteArray.toList_eq]
  subst hs
  unfold cuts
  have : cutsB 32 (#[98, 108, 111, 99, 107] : Array UInt8).toList = [[98, 108, 111, 99, 107]] := by decide
  rw [this]
  rfl
theorem kind_block {x : BA} (h : isBlock x = true) : kindOf x = none := by
  have : ByteArray.toList x = [98, 108, 111, 99, 107] := by simpa [isBlock] using h
  unfold kindOf
  rw [this]
  rfl
theorem ends_block {x : BA} (h : isBlock x = true) : endsW x = false := by unfold endsW; rw [kind_block h]

end Go.Proofs.YtbddcodljmglfaaGreatDoor

namespace Go.Proofs.YtbddcodljmglfaaGreatDoor

def PG.all (p : PG) : List BlockG := p.closed ++ p.cur.toList
theorem lostG_append (n : Nat) : ∀ (A B : List BlockG), lostG n (A ++ B) = (lostG n A).or (lostG n B)
  | [], B => by simp [lostG]
  | a :: A, B => by
    simp only [List.cons_append, lostG]
    cases lostB n a 0 a.lines with
    | some i => simp
    | none => simp only []; exact lostG_append n A B
theorem lostB_snoc (n : Nat) (b b' : BlockG) (h1 : b'.first = b.first) (h2 : b'.phis = b.phis) (l : LineG) : ∀ (ls : List LineG) (j : Nat), lostB n b' j (ls ++ [l]) = (lostB n b j ls).or (if l.leads.any (fun k => decide (n ≤ k)) = true then some (b.first + b.phis.length + (j + ls.length)) else none)
  | [], j => by simp [lostB, h1, h2]
  | x :: ls, j => by
    simp only [List.cons_append, lostB, h1, h2]
    split
    · simp
    · rw [lostB_snoc n b b' h1 h2 l ls (j + 1)]
      simp only [List.length_cons]
      rw [show j + 1 + ls.length = j + (ls.length + 1) by omega]
theorem lostG_one (n : Nat) (b : BlockG) : lostG n [b] = lostB n b 0 b.lines := by
  simp only [lostG]
  cases lostB n b 0 b.lines <;> rfl

/-- Where line s leads, in the document's words. -/
def leadsS (s : BA) : List Nat := leadsR (hd (cuts 32 s)) (cuts 32 s)
def docLost (n : Nat) : Nat → List BA → Option Nat
  | _, [] => none
  | i, s :: r => if (leadsS s).any (fun k => decide (n ≤ k)) = true then some i else docLost n (i + 1) r

theorem docLost_cons (n i : Nat) (s : BA) (r : List BA) : docLost n i (s :: r) = if (leadsS s).any (fun k => decide (n ≤ k)) = true then some i else docLost n (i + 1) r := rfl
theorem leadsS_none {s : BA} (h : kindOf (hd (cuts 32 s)) = none) : leadsS s = [] := by unfold leadsS leadsR; rw [h]
end Go.Proofs.YtbddcodljmglfaaGreatDoor

namespace Go.Proofs.YtbddcodljmglfaaGreatDoor

theorem parts_tail : ∀ k : Fin 10, ∀ p ∈ (partsOf k.val).tail, p ≠ 1 := by decide
abbrev v0 (L : List BA) : List Ver := L.map (fun b => (b, 0))
/-- The names behind line s, in the document's words. -/
def setsS (s : BA) : BA := setsR (hd (cuts 32 s)) (cuts 32 s)
def takesS (s : BA) : List BA := takesR (hd (cuts 32 s)) (cuts 32 s)
def docNames (L : List BA) (s : BA) : List BA := (takesS s).foldl addR (if (setsS s).size = 0 then L else addR L (setsS s))
def docCrowd : List BA → Nat → List BA → Option Nat
  | _, _, [] => none
  | L, i, s :: r => if 8 < (docNames L s).length then some i else docCrowd (docNames L s) (i + 1) r
end Go.Proofs.YtbddcodljmglfaaGreatDoor

namespace Go.Proofs.YtbddcodljmglfaaGreatDoor

/-- The document's error and line. -/
def docG (s : BA) : Nat × Nat :=
  if 120 < (cuts 10 s).length then (6, 0)
  else match docL 0 0 ByteArray.empty (cuts 10 s) with
    | .error i => (7, i)
    | .ok nb => match docLost nb 0 (cuts 10 s) with
      | some i => (8, i)
      | none => match docCrowd ((cuts 32 (hd (cuts 10 s))).drop 1) 1 ((cuts 10 s).drop 1) with
        | some i => (9, i)
        | none => (0, 0)

end Go.Proofs.YtbddcodljmglfaaGreatDoor
