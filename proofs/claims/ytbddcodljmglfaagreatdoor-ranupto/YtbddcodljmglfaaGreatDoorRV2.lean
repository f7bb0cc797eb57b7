/- The document's decimal. -/
import Derived.Test.YtbddcodljmglfaaGreatDoorRV1
import Derived.Test.YtbddcodljmglfaaGreatDoorRunMem
import Derived.Laws.IdiomStrings
set_option linter.unusedSimpArgs false
set_option linter.unusedVariables false
namespace Go.Proofs.YtbddcodljmglfaaGreatDoor
open Go.RowKit

def ofD (l : List UInt8) : BA := ⟨l.toArray⟩

theorem ofD_cons (b : UInt8) (l : List UInt8) : ofD (b :: l) = (⟨#[b]⟩ : BA) ++ ofD l := by
  apply ba_ext
  rw [ByteArray.toList_eq, ByteArray.toList_eq]
  simp [ofD]
theorem ofNat_add48 (d : Nat) : UInt8.ofNat (48 + d) = 48 + UInt8.ofNat d := by simp
theorem conv_byte (w : World) (d : Nat) (hd : d < 10) : (convert 155 9 (.slice (some ⟨w.heap.size, 0, none⟩) 1 1)).run Tryz.prog (w.alloc (.cells #[.int .u8 (48 + (d : Int))] 5)) = .ok (.string ⟨#[UInt8.ofNat (48 + d)]⟩) (w.alloc (.cells #[.int .u8 (48 + (d : Int))] 5)) := by
  have hb : ((UInt8.ofNat (48 + d)).toNat : Int) = 48 + (d : Int) := by
    rw [UInt8.toNat_ofNat']
    omega
  have := run_convert_bytes_back (P := Tryz.prog) (w.alloc (.cells #[.int .u8 (48 + (d : Int))] 5)) 155 9 5 ⟨w.heap.size, 0, none⟩ 1 [UInt8.ofNat (48 + d)] Tryz.underlying155 Tryz.underlying5 Tryz.underlying9 (fun j hj => by
    have hj0 : j = 0 := by simpa using hj
    subst hj0
    rw [Addr.add_lit]
    have := (BoxIn.new w 5 [.int .u8 (48 + (d : Int))]).cell (k := 0) rfl
    simp only [List.getElem_cons_zero, hb]
    exact this)
  exact this

set_option maxRecDepth 100000 in
set_option maxHeartbeats 4000000 in
theorem dec_pos (w : World) (u : Nat) (hu : (u : Int) ≤ 9223372036854775807) : Calls Tryz.prog 57 #[.int .i64 (u : Int)] w fun e w' => e = .returned (.string (ofD (Lib.decDigits u))) ∧ Below w.heap.size w w' := by
  have h1 : ((u : Int) == -9223372036854775808) = false := by rw [beq_eq_false_iff_ne]; omega
  have h2 : ¬ (u : Int) < 0 := by omega
  go_enter Tryz.func57, Tryz.ntmps57
  have hlen : (Lib.decDigits u).length ≤ 21 := by
    have := Lib.itoa_length_le (u : Int) (by omega) hu
    unfold Lib.itoa at this
    rw [if_neg h2] at this
    simpa using this
  go_wp2_with fail
  go_loopg [0, 3] u (fun g v0 v3 wr => ∃ (k : Nat) (l : List UInt8), g = k ∧ v0 = .int .i64 k ∧ v3 = .string (ofD l) ∧ k ≤ u ∧ l.length ≤ 21 ∧ Hid (Lib.decDigits u = Lib.decDigits k ++ l) ∧ Hid (Below w.heap.size w wr))
  case atStart => exact ⟨u, [], rfl, rfl, rfl, Nat.le_refl _, by simp, by show _ = _; simp, Below.refl _ _⟩
  case round =>
    obtain ⟨k, l, hgk, rfl, rfl, hku, hll, hdd, hbel⟩ := hrel
    have hsz := hbel.out.size
    have hls : (ofD l).size = l.length := by simp [ofD, ByteArray.size]
    by_cases hk9 : 9 < k
    · have hk9' : (9 : Int) < (k : Int) := by omega
      have hcv := conv_byte wr (k % 10) (by omega)
      rw [show (((k % 10 : Nat)) : Int) = (k : Int) % 10 by omega] at hcv
      have hnx : Hid (Lib.decDigits u = Lib.decDigits (k / 10) ++ ((48 + UInt8.ofNat (k % 10)) :: l)) := by
        show _ = _
        rw [hdd.out]
        conv => lhs; rw [Lib.decDigits, dif_neg (show ¬ k < 10 by omega)]
        rw [ofNat_add48]
        simp
      have hl2 : l.length + 1 ≤ 21 := by
        have := congrArg List.length hnx.out
        simp at this
        omega
      go_wp2_with fail
      go_roundg (k / 10)
      case measure => omega
      case rel => exact ⟨k / 10, (48 + UInt8.ofNat (k % 10)) :: l, rfl, by go_num, by rw [ofD_cons], by omega, by simpa using hl2, hnx, hbel.out.alloc hsz _⟩
    · have hk9' : ¬ (9 : Int) < (k : Int) := by omega
      have hcv := conv_byte wr k (by omega)
      have hend : Hid (Lib.decDigits u = (48 + UInt8.ofNat k) :: l) := by
        show _ = _
        rw [hdd.out, Lib.decDigits_one (by omega), ofNat_add48]
        rfl
      go_wp2_with fail
      go_ret
      rw [hend.out]
      exact ⟨by rw [← ofD_cons]; rfl, hbel.out.alloc hsz _⟩

set_option maxRecDepth 100000 in
set_option maxHeartbeats 4000000 in
theorem dec_neg (w : World) (u : Nat) (hu : 0 < u) (hu2 : (u : Int) ≤ 9223372036854775807) (ds : BA) (hlen : ds.size ≤ 21) (HD : Hid (Calls Tryz.prog 57 #[.int .i64 (u : Int)] w fun e w' => e = .returned (.string ds) ∧ Below w.heap.size w w')) :
    Calls Tryz.prog 57 #[.int .i64 (-(u : Int))] w fun e w' => e = .returned (.string ((⟨#[45]⟩ : BA) ++ ds)) ∧ Below w.heap.size w w' := by
  have hb : (-(u : Int) == -9223372036854775808) = false := by rw [beq_eq_false_iff_ne]; omega
  have hneg : -(u : Int) < 0 := by omega
  go_enter Tryz.func57, Tryz.ntmps57
  go_wp2_with (first | (go_at_call 57; refine HD.out.mono ?_; rintro e w1 ⟨rfl, hb1⟩; have HB1 : Hid (Below w.heap.size w w1) := hb1; clear hb1))
  go_ret
  exact ⟨rfl, HB1.out⟩

set_option maxRecDepth 100000 in
set_option maxHeartbeats 4000000 in
theorem dec_min (w : World) : Calls Tryz.prog 57 #[.int .i64 (-9223372036854775808)] w fun e w' => e = .returned (.string ⟨#[45, 57, 50, 50, 51, 51, 55, 50, 48, 51, 54, 56, 53, 52, 55, 55, 53, 56, 48, 56]⟩) ∧ w' = w := by
  go_enter Tryz.func57, Tryz.ntmps57
  go_wp2_with fail
  go_ret
  exact ⟨rfl, rfl⟩

theorem dd_step (u : Nat) (h : ¬ u < 10) : Lib.decDigits u = Lib.decDigits (u / 10) ++ [UInt8.ofNat (48 + u % 10)] := by
  rw [Lib.decDigits, dif_neg h]
theorem itoa_neg (u : Nat) (hu : 0 < u) : Lib.itoa (-(u : Int)) = 45 :: Lib.decDigits u := by
  unfold Lib.itoa
  rw [if_pos (by omega), Int.natAbs_neg, Int.natAbs_natCast]
theorem dd_min : Lib.decDigits 9223372036854775808 = [57, 50, 50, 51, 51, 55, 50, 48, 51, 54, 56, 53, 52, 55, 55, 53, 56, 48, 56] := by
  iterate 18 (rw [dd_step _ (by decide)]; simp only [Nat.reduceDiv, Nat.reduceMod, Nat.reduceAdd])
  rw [Lib.decDigits_one (by decide)]
  simp

theorem decimal_any (w : World) (n : Int) (hn : fits64 n) : Calls Tryz.prog 57 #[.int .i64 n] w fun e w' => e = .returned (.string (ofD (Lib.itoa n))) ∧ Below w.heap.size w w' := by
  rcases (by omega : 0 ≤ n ∨ n < 0) with h0 | h0
  · obtain ⟨u, rfl⟩ : ∃ u : Nat, n = u := ⟨n.toNat, by omega⟩
    have e : Lib.itoa (u : Int) = Lib.decDigits u := by
      unfold Lib.itoa
      rw [if_neg (by omega), Int.toNat_natCast]
    rw [e]
    exact dec_pos w u hn.2
  · obtain ⟨u, rfl⟩ : ∃ u : Nat, n = -(u : Int) := ⟨n.natAbs, by omega⟩
    have hu : 0 < u := by omega
    rw [itoa_neg u hu, ofD_cons]
    by_cases hm : u = 9223372036854775808
    · rw [hm, dd_min]
      refine (dec_min w).mono ?_
      rintro e w' ⟨rfl, rfl⟩
      exact ⟨by rw [← ofD_cons]; rfl, Below.refl _ _⟩
    · have hlt : (u : Int) ≤ 9223372036854775807 := by have := hn.1; omega
      have hl : (Lib.decDigits u).length ≤ 21 := by
        have := Lib.itoa_length_le (u : Int) (by omega) hlt
        unfold Lib.itoa at this
        rw [if_neg (by omega)] at this
        simpa using this
      exact dec_neg w u hu hlt (ofD (Lib.decDigits u)) (by simpa [ofD, ByteArray.size] using hl) (dec_pos w u hlt)

end Go.Proofs.YtbddcodljmglfaaGreatDoor
