/- The document's plain line. -/
import Derived.Test.YtbddcodljmglfaaGreatDoorRT6
set_option linter.unusedSimpArgs false
set_option linter.unusedVariables false
namespace Go.Proofs.YtbddcodljmglfaaGreatDoor
open Go.RowKit

def partB (p : Nat) : UInt8 := if p = 1 then 115 else if p = 2 then 120 else if p = 3 then 110 else 98
theorem behS_list : ∀ k : Fin 10, (behS (some k.val)).data.toList = (partsOf k.val).map partB := by decide
theorem parts_range : ∀ k : Fin 10, ∀ p ∈ partsOf k.val, p = 1 ∨ p = 2 ∨ p = 3 ∨ p = 4 := by decide
theorem partsF_len : ∀ k : Fin 10, (partsOf k.val).length ≤ 3 := by decide
theorem behS_q0 : ∀ k : Fin 10, ((behS (some k.val)).data.toList == [63]) = false := by decide
theorem behS_q (k : Fin 10) : (ByteArray.toList (behS (some k.val)) == [63]) = false := by rw [ByteArray.toList_eq]; exact behS_q0 k
theorem behS_size {k : Nat} (hk : k < 10) : (behS (some k)).size = (partsOf k).length := by
  have := congrArg List.length (behS_list ⟨k, hk⟩)
  rw [Array.length_toList, List.length_map] at this
  exact this
theorem behS_get {k j : Nat} (hk : k < 10) (hj : j < (behS (some k)).size) {p : Nat} (hp : (partsOf k)[j]? = some p) : (behS (some k))[j] = partB p := by
  have h1 := behS_list ⟨k, hk⟩
  have h2 := ba_get (behS (some k)) j hj
  rw [← h2]
  have h3 : (behS (some k)).data.toList[j]? = some (partB p) := by rw [h1, List.getElem?_map, hp]; rfl
  exact (List.getElem?_eq_some_iff.1 h3).2

/-- Is a word what is wanted there? -/
def partOk (tg p : Nat) (b : BA) : Bool := if p = 1 ∨ p = 2 then (readVer tg b).isSome else if p = 3 then (numB b).isSome else (blkB b).isSome

set_option maxRecDepth 100000 in
set_option maxHeartbeats 4000000 in
theorem rPlain_any (w : World) (tb tg : Nat) (htg : tg = 0 ∨ tg = 1) (v : Value) (ws : List BA) (hv : RdT w 9 1 v ws.length (strs ws)) (h1 : 1 ≤ ws.length) (hl : ws.length ≤ 4294967290) (hs : ∀ x ∈ ws, x.size ≤ 4294967280) (ht : w.cell? ⟨tb, 2, none⟩ = some (.bool (decide (tg = 1)))) :
    Calls Tryz.prog 122 #[.pointer (some ⟨tb, 0, none⟩), v] w fun e w' => (∃ b : Bool, e = .returned (.bool b) ∧ (b = true ↔ ∃ kd, kindOf ws[0] = some kd ∧ ws.length = (partsOf kd).length + 1 ∧ ∀ j p x, (partsOf kd)[j]? = some p → ws[j + 1]? = some x → partOk tg p x = true)) ∧ ∃ n, w' = w.drewN n := by
  obtain ⟨ao, cap, rfl, hcap, hcl0⟩ := hv.cell
  obtain ⟨gT, offT, rfl, hgT, hcl⟩ := hcl0 h1
  have HCL : Hid (∀ j x, ws[j]? = some x → w.cell? ⟨gT, offT + j, none⟩ = some (.string x)) := fun j x hx => hcl j _ (by simp [strs, hx])
  have HS : Hid (∀ x ∈ ws, x.size ≤ 4294967280) := hs
  obtain ⟨x0, hx0⟩ : ∃ x, ws[0] = x := ⟨_, rfl⟩
  have hx0' : ws[0]? = some x0 := by rw [List.getElem?_eq_getElem (by omega), hx0]
  have c0 : w.cell? ⟨gT, offT, none⟩ = some (.string x0) := HCL.out 0 x0 hx0'
  rw [hx0]
  obtain ⟨N, hN⟩ : ∃ N, N = ws.length := ⟨_, rfl⟩
  have HN : Hid (N = ws.length) := hN
  rw [← hN] at h1 hl hcap ⊢
  have HBE : Hid (∀ w1, Calls Tryz.prog 73 #[.string x0] w1 fun e w' => e = .returned (.string (behS (kindOf x0))) ∧ w' = w1) := fun w1 => behind_any w1 x0
  clear hs hv hcl0 hcl hx0 hx0' hN
  cases hk : kindOf x0 with
  | none =>
    rw [hk] at HBE
    have HK : Hid (¬ ∃ kd, (none : Option Nat) = some kd ∧ N = (partsOf kd).length + 1 ∧ ∀ j p x, (partsOf kd)[j]? = some p → ws[j + 1]? = some x → partOk tg p x = true) := by rintro ⟨kd, h, -⟩; cases h
    have hq : (ByteArray.toList (behS none) == [63]) = true := by rw [ByteArray.toList_eq]; decide
    generalize behS none = f at HBE hq
    go_enter Tryz.func122, Tryz.ntmps122
    go_wp2_with (first | (go_at_call 73; refine (HBE.out _).mono ?_; rintro e w1 ⟨rfl, rfl⟩))
    go_ret
    exact ⟨⟨false, rfl, by simp only [Bool.false_eq_true, false_iff]; exact HK.out⟩, 0, rfl⟩
  | some kd =>
    rw [hk] at HBE
    have hkd := kindOf_lt hk
    have hq : (ByteArray.toList (behS (some kd)) == [63]) = false := behS_q ⟨kd, hkd⟩
    have hfs := behS_size hkd
    have HFG : Hid (∀ j (hj : j < (behS (some kd)).size) p, (partsOf kd)[j]? = some p → (behS (some kd))[j] = partB p) := fun j hj p hp => behS_get hkd hj hp
    have HPR : Hid (∀ p ∈ partsOf kd, p = 1 ∨ p = 2 ∨ p = 3 ∨ p = 4) := parts_range ⟨kd, hkd⟩
    generalize behS (some kd) = f at HBE hq hfs HFG
    obtain ⟨ps, hps⟩ : ∃ ps, ps = partsOf kd := ⟨_, rfl⟩
    rw [← hps] at hfs HFG HPR
    have HPS : Hid (ps = partsOf kd) := hps
    clear hps
    have hf3 : f.size ≤ 3 := by rw [hfs, HPS.out]; exact partsF_len ⟨kd, hkd⟩
    have HFS : Hid (f.size = ps.length) := hfs
    clear hfs
    by_cases hlen : N = f.size + 1
    · have hlen' : (N : Int) = (f.size : Int) + 1 := by omega
      go_enter Tryz.func122, Tryz.ntmps122
      go_wp2_with (first | (go_at_call 73; refine (HBE.out _).mono ?_; rintro e w1 ⟨rfl, hw1⟩; rw [hw1]; clear hw1))
      go_loopg [6] f.size (fun g v6 wr => ∃ (k : Nat), k + g = f.size ∧ v6 = .int .i64 k ∧ Hid (∃ n, wr = w.drewN n) ∧ Hid (∀ j p x, j < k → ps[j]? = some p → ws[j + 1]? = some x → partOk tg p x = true))
      case atStart => exact ⟨0, by omega, rfl, ⟨0, rfl⟩, fun j p x h => absurd h (by omega)⟩
      case round =>
        obtain ⟨k, hkg, rfl, hwr, hok⟩ := hrel
        obtain ⟨n0, rfl⟩ := hwr.out
        clear hwr
        by_cases hkf : k < f.size
        · obtain ⟨p, hp⟩ : ∃ p, ps[k]? = some p := ⟨_, List.getElem?_eq_getElem (by have := HFS.out; omega)⟩
          obtain ⟨x, hx⟩ : ∃ x, ws[k + 1]? = some x := ⟨_, List.getElem?_eq_getElem (by have := HN.out; omega)⟩
          have hxs : x.size ≤ 4294967280 := HS.out x (List.mem_of_getElem? hx)
          have cx : ∀ m, (w.drewN m).cell? ⟨gT, offT + (k + 1), none⟩ = some (.string x) := fun m => HCL.out (k + 1) x hx
          have HVA : Hid (∀ m, Calls Tryz.prog 156 #[.pointer (some ⟨tb, 0, none⟩), .string x] (w.drewN m) fun e w' => e = .returned (.bool (readVer tg x).isSome) ∧ ∃ n, w' = w.drewN n) := fun m => (variable_any (w.drewN m) tb tg htg x hxs ht).mono (by rintro e w' ⟨h1, n, rfl⟩; exact ⟨h1, _, World.drewN_drewN _ _ _⟩)
          have HNU : Hid (∀ W, Calls Tryz.prog 94 #[.string x, .int .i64 (-1000000000), .int .i64 1000000000] W fun e w' => ∃ n : Int, e = .returned (.tuple #[.int .i64 n, .bool (numB x).isSome]) ∧ w' = W) := fun W => (rNumber_any W x _ _ hxs (by omega) (by omega) (by omega) (by omega)).mono (by rintro e w' ⟨n, h1, -, h2⟩; rw [← numB_eq] at h1; exact ⟨n, h1, h2⟩)
          have HBL : Hid (∀ W, Calls Tryz.prog 94 #[.string x, .int .i64 0, .int .i64 1000000000] W fun e w' => ∃ n : Int, e = .returned (.tuple #[.int .i64 n, .bool (blkB x).isSome]) ∧ w' = W) := fun W => (rNumber_any W x _ _ hxs (by omega) (by omega) (by omega) (by omega)).mono (by rintro e w' ⟨n, h1, -, h2⟩; rw [numR_blk] at h1; refine ⟨n, ?_, h2⟩; rw [h1]; cases blkB x <;> rfl)
          rcases HPR.out p (List.mem_of_getElem? hp) with rfl | rfl | rfl | rfl
          · have hfk : (f[k]).toNat = 115 := by rw [HFG.out k hkf _ hp]; rfl
            have HPO : Hid (partOk tg 1 x = (readVer tg x).isSome) := by show _ = _; simp [partOk]
            cases hok2 : (readVer tg x).isSome with
            | false =>
              rw [hok2] at HPO
              have HK : Hid (¬ ∃ kd', some kd = some kd' ∧ N = (partsOf kd').length + 1 ∧ ∀ j p x, (partsOf kd')[j]? = some p → ws[j + 1]? = some x → partOk tg p x = true) := by
                rintro ⟨kd', h, -, h3⟩
                injection h with h
                subst h
                rw [← HPS.out] at h3
                have := h3 k _ x hp hx
                rw [HPO.out] at this
                cases this
              have HOK2 : Hid ((readVer tg x).isSome = false) := hok2
              clear hok2
              go_wp2_with (first | (go_at_call 156; refine (HVA.out _).mono ?_; rintro e w1 ⟨rfl, n1, rfl⟩; rw [HOK2.out]))
              go_ret
              exact ⟨⟨false, (by first | rfl | (rw [HOK2.out]) | simp [HOK2.out]), by simp only [Bool.false_eq_true, false_iff]; exact HK.out⟩, _, rfl⟩
            | true =>
              rw [hok2] at HPO
              have HOK2 : Hid ((readVer tg x).isSome = true) := hok2
              clear hok2
              go_wp2_with (first | (go_at_call 156; refine (HVA.out _).mono ?_; rintro e w1 ⟨rfl, n1, rfl⟩; rw [HOK2.out]))
              go_roundg (f.size - (k + 1))
              case measure => omega
              case rel => exact ⟨k + 1, by omega, by go_num, ⟨_, rfl⟩, fun j p' x' h1 h2 h3 => by rcases Nat.lt_or_eq_of_le (Nat.le_of_lt_succ h1) with h' | h'; exact hok.out j p' x' h' h2 h3; subst h'; rw [hp] at h2; rw [hx] at h3; injection h2 with h2; injection h3 with h3; subst h2 h3; exact HPO.out⟩
          · have hfk : (f[k]).toNat = 120 := by rw [HFG.out k hkf _ hp]; rfl
            have HPO : Hid (partOk tg 2 x = (readVer tg x).isSome) := by show _ = _; simp [partOk]
            cases hok2 : (readVer tg x).isSome with
            | false =>
              rw [hok2] at HPO
              have HK : Hid (¬ ∃ kd', some kd = some kd' ∧ N = (partsOf kd').length + 1 ∧ ∀ j p x, (partsOf kd')[j]? = some p → ws[j + 1]? = some x → partOk tg p x = true) := by
                rintro ⟨kd', h, -, h3⟩
                injection h with h
                subst h
                rw [← HPS.out] at h3
                have := h3 k _ x hp hx
                rw [HPO.out] at this
                cases this
              have HOK2 : Hid ((readVer tg x).isSome = false) := hok2
              clear hok2
              go_wp2_with (first | (go_at_call 156; refine (HVA.out _).mono ?_; rintro e w1 ⟨rfl, n1, rfl⟩; rw [HOK2.out]))
              go_ret
              exact ⟨⟨false, (by first | rfl | (rw [HOK2.out]) | simp [HOK2.out]), by simp only [Bool.false_eq_true, false_iff]; exact HK.out⟩, _, rfl⟩
            | true =>
              rw [hok2] at HPO
              have HOK2 : Hid ((readVer tg x).isSome = true) := hok2
              clear hok2
              go_wp2_with (first | (go_at_call 156; refine (HVA.out _).mono ?_; rintro e w1 ⟨rfl, n1, rfl⟩; rw [HOK2.out]))
              go_roundg (f.size - (k + 1))
              case measure => omega
              case rel => exact ⟨k + 1, by omega, by go_num, ⟨_, rfl⟩, fun j p' x' h1 h2 h3 => by rcases Nat.lt_or_eq_of_le (Nat.le_of_lt_succ h1) with h' | h'; exact hok.out j p' x' h' h2 h3; subst h'; rw [hp] at h2; rw [hx] at h3; injection h2 with h2; injection h3 with h3; subst h2 h3; exact HPO.out⟩
          · have hfk : (f[k]).toNat = 110 := by rw [HFG.out k hkf _ hp]; rfl
            have HPO : Hid (partOk tg 3 x = (numB x).isSome) := by show _ = _; simp [partOk]
            cases hok2 : (numB x).isSome with
            | false =>
              rw [hok2] at HPO
              have HK : Hid (¬ ∃ kd', some kd = some kd' ∧ N = (partsOf kd').length + 1 ∧ ∀ j p x, (partsOf kd')[j]? = some p → ws[j + 1]? = some x → partOk tg p x = true) := by
                rintro ⟨kd', h, -, h3⟩
                injection h with h
                subst h
                rw [← HPS.out] at h3
                have := h3 k _ x hp hx
                rw [HPO.out] at this
                cases this
              have HOK2 : Hid ((numB x).isSome = false) := hok2
              clear hok2
              go_wp2_with (first | (go_at_call 94; refine (HNU.out _).mono ?_; rintro e w1 ⟨n2, rfl, rfl⟩; rw [HOK2.out]))
              go_ret
              exact ⟨⟨false, (by first | rfl | (rw [HOK2.out]) | simp [HOK2.out]), by simp only [Bool.false_eq_true, false_iff]; exact HK.out⟩, _, rfl⟩
            | true =>
              rw [hok2] at HPO
              have HOK2 : Hid ((numB x).isSome = true) := hok2
              clear hok2
              go_wp2_with (first | (go_at_call 94; refine (HNU.out _).mono ?_; rintro e w1 ⟨n2, rfl, rfl⟩; rw [HOK2.out]))
              go_roundg (f.size - (k + 1))
              case measure => omega
              case rel => exact ⟨k + 1, by omega, by go_num, ⟨_, rfl⟩, fun j p' x' h1 h2 h3 => by rcases Nat.lt_or_eq_of_le (Nat.le_of_lt_succ h1) with h' | h'; exact hok.out j p' x' h' h2 h3; subst h'; rw [hp] at h2; rw [hx] at h3; injection h2 with h2; injection h3 with h3; subst h2 h3; exact HPO.out⟩
          · have hfk : (f[k]).toNat = 98 := by rw [HFG.out k hkf _ hp]; rfl
            have HPO : Hid (partOk tg 4 x = (blkB x).isSome) := by show _ = _; simp [partOk]
            cases hok2 : (blkB x).isSome with
            | false =>
              rw [hok2] at HPO
              have HK : Hid (¬ ∃ kd', some kd = some kd' ∧ N = (partsOf kd').length + 1 ∧ ∀ j p x, (partsOf kd')[j]? = some p → ws[j + 1]? = some x → partOk tg p x = true) := by
                rintro ⟨kd', h, -, h3⟩
                injection h with h
                subst h
                rw [← HPS.out] at h3
                have := h3 k _ x hp hx
                rw [HPO.out] at this
                cases this
              have HOK2 : Hid ((blkB x).isSome = false) := hok2
              clear hok2
              go_wp2_with (first | (go_at_call 94; refine (HBL.out _).mono ?_; rintro e w1 ⟨n2, rfl, rfl⟩; rw [HOK2.out]))
              go_ret
              exact ⟨⟨false, (by first | rfl | (rw [HOK2.out]) | simp [HOK2.out]), by simp only [Bool.false_eq_true, false_iff]; exact HK.out⟩, _, rfl⟩
            | true =>
              rw [hok2] at HPO
              have HOK2 : Hid ((blkB x).isSome = true) := hok2
              clear hok2
              go_wp2_with (first | (go_at_call 94; refine (HBL.out _).mono ?_; rintro e w1 ⟨n2, rfl, rfl⟩; rw [HOK2.out]))
              go_roundg (f.size - (k + 1))
              case measure => omega
              case rel => exact ⟨k + 1, by omega, by go_num, ⟨_, rfl⟩, fun j p' x' h1 h2 h3 => by rcases Nat.lt_or_eq_of_le (Nat.le_of_lt_succ h1) with h' | h'; exact hok.out j p' x' h' h2 h3; subst h'; rw [hp] at h2; rw [hx] at h3; injection h2 with h2; injection h3 with h3; subst h2 h3; exact HPO.out⟩
        · have HK : Hid (∃ kd', some kd = some kd' ∧ N = (partsOf kd').length + 1 ∧ ∀ j p x, (partsOf kd')[j]? = some p → ws[j + 1]? = some x → partOk tg p x = true) := by
            refine ⟨kd, rfl, ?_, ?_⟩
            · rw [← HPS.out, ← HFS.out]; exact hlen
            · rw [← HPS.out]
              intro j p x h2 h3
              exact hok.out j p x (by have := (List.getElem?_eq_some_iff.1 h2).1; have := HFS.out; omega) h2 h3
          go_wp2_with fail
          go_ret
          exact ⟨⟨true, rfl, by simp only [true_iff]; exact HK.out⟩, _, rfl⟩
    · have HK : Hid (¬ ∃ kd', some kd = some kd' ∧ N = (partsOf kd').length + 1 ∧ ∀ j p x, (partsOf kd')[j]? = some p → ws[j + 1]? = some x → partOk tg p x = true) := by
        rintro ⟨kd', h, h2, -⟩
        injection h with h
        subst h
        rw [← HPS.out, ← HFS.out] at h2
        exact hlen h2
      have hlen' : ¬ (N : Int) = (f.size : Int) + 1 := by omega
      go_enter Tryz.func122, Tryz.ntmps122
      go_wp2_with (first | (go_at_call 73; refine (HBE.out _).mono ?_; rintro e w1 ⟨rfl, rfl⟩))
      go_ret
      exact ⟨⟨false, rfl, by simp only [Bool.false_eq_true, false_iff]; exact HK.out⟩, 0, rfl⟩

end Go.Proofs.YtbddcodljmglfaaGreatDoor
