/- The document's phiFits. And what follows on it. -/
import Derived.Test.YtbddcodljmglfaaGreatDoorDocB
set_option linter.unusedSimpArgs false
set_option linter.unusedVariables false
namespace Go.Proofs.YtbddcodljmglfaaGreatDoor
open Go.RowKit

theorem aheadTo_split (L : List (Nat × Nat)) (b a : Nat) (h : (a, b) ∈ L) : ∀ n, a < n → ∃ r, aheadTo L b n = aheadTo L b a ++ a :: r
  | 0, hn => absurd hn (by omega)
  | n + 1, hn => by
    rw [aheadTo_succ]
    by_cases e : a = n
    · subst e
      rw [if_pos h]
      exact ⟨[], rfl⟩
    · obtain ⟨r, hr⟩ := aheadTo_split L b a h n (by omega)
      rw [hr]
      exact ⟨r ++ if (n, b) ∈ L then [n] else [], by simp⟩
/-- A phi's choices, of which so many are kept, and all of them. -/
theorem fits_take {l : List (Nat × Ver)} {A : List Nat} (hA : A.length ≤ 40) : (((l.take 41).map (·.1)) == A) = (l.map (·.1) == A) := by
  rw [Bool.eq_iff_iff, beq_iff_eq, beq_iff_eq]
  by_cases h : l.length ≤ 41
  · rw [List.take_of_length_le h]
  · constructor
    · intro e
      have := congrArg List.length e
      simp at this
      omega
    · intro e
      have := congrArg List.length e
      simp at this
      omega

/-- What phiFits hands back: of a phi, whether it fits. -/
def FitsOut (ws : List BA) (E : List (Nat × Nat)) (b N : Nat) (e : Ending) : Prop := ∃ r : Bool, e = .returned (.bool r) ∧ ∀ p, phiOf ws = some p → r = (decide (0 < b) && (p.choices.map (·.1) == aheadTo E b N))
theorem phi_two {ws : List BA} {p : PhiG} (h : phiOf ws = some p) : 2 ≤ ws.length := by
  match ws, h with
  | [], h => simp [phiOf] at h
  | [a], h => simp [phiOf] at h
  | a :: b :: r, h => simp

section
variable (w : World) (tb : Nat) (T : List BA) (lv bv : Value) (bs : List BlockG) (hT : TextO w tb T lv bv) (hF : FormT T bs) (gp : Nat) (D : List Bool)
include hT hF
set_option maxRecDepth 100000 in
set_option maxHeartbeats 4000000 in
theorem fitsO (hG : RefIn w gp bs.length (edgesG 0 [] bs) D) (i : Nat) (x : BA) (hx : T[i]? = some x) (b : Nat) (hb : b < bs.length) (hbi : bCnt (blkIdx 0 T) i = b + 1) :
    Calls Tryz.prog 48 #[.pointer (some ⟨tb, 0, none⟩), .pointer (some ⟨gp, 0, none⟩), .int .i64 (i : Int)] w fun e w' => FitsOut (cuts 32 x) (edgesG 0 [] bs) b bs.length e ∧ ∃ n, w' = w.drewN n := by
  have hn := hF.n40
  have hlen := hF.len
  have hi := (List.getElem?_eq_some_iff.1 hx).1
  have HBL : Hid (Calls Tryz.prog 77 #[.pointer (some ⟨tb, 0, none⟩), .int .i64 (i : Int)] w fun e w' => e = .returned (.int .i64 (b : Int)) ∧ w' = w) := (blockO w tb T lv bv bs hT hF i hi).mono (by rintro e w' ⟨h1, h2⟩; rw [hbi] at h1; refine ⟨?_, h2⟩; rw [h1]; congr 2; omega)
  obtain ⟨gL, oL, cL, vw, rfl, hcap, t0, -, hgL, ci, hw, -⟩ := hT.line hx
  obtain ⟨gw, ow, cw, rfl, hgw, c00⟩ := hw.at
  have hW1 := hw.pos
  have hW2 := hw.len
  have HSM : Hid (∀ z ∈ cuts 32 x, z.size ≤ 4294967280) := hw.small
  have HWC : Hid (∀ (j : Nat) (z : BA), (cuts 32 x)[j]? = some z → ∀ m, (w.drewN m).cell? ⟨gw, ow + j, none⟩ = some (.string z)) := by
    intro j z hz m
    obtain ⟨ao, cp, h1, -, h2⟩ := hw.row.cell
    obtain ⟨g, off, h3, h4, h5⟩ := h2 hW1
    injection h1 with h1 _ _
    rw [← h1] at h3
    injection h3 with h3
    injection h3 with h3 h6 _
    subst h3 h6
    exact h5 j _ (by simp [strs, hz])
  have g0 := hG.c0
  have HCE : Hid (∀ a c, a < 40 → c < 40 → ∀ m, (w.drewN m).cell? ⟨gp, 1 + a * 40 + c, none⟩ = some (.bool (decide ((a, c) ∈ edgesG 0 [] bs)))) := fun a c ha hc m => (hG.cE ha hc).1
  have HPH : Hid (∀ p, phiOf (cuts 32 x) = some p → ∃ l, choicesOf ((cuts 32 x).drop 2) = some l ∧ (p.choices.map (·.1) == aheadTo (edgesG 0 [] bs) b bs.length) = (l.map (·.1) == aheadTo (edgesG 0 [] bs) b bs.length)) := by
    intro p hp
    obtain ⟨l, h1, h2⟩ := phi_full hp
    refine ⟨l, h1, ?_⟩
    rw [h2]
    exact fits_take (by have := aheadTo_le (edgesG 0 [] bs) b bs.length; omega)
  clear hw hT hF hG hx hbi
  generalize edgesG 0 [] bs = E at *
  generalize cuts 32 x = ws at *
  obtain ⟨N, hN⟩ : ∃ N, N = bs.length := ⟨_, rfl⟩
  rw [← hN] at hb hn g0 HPH ⊢
  clear hN
  obtain ⟨M, hM⟩ : ∃ M, M = T.length := ⟨_, rfl⟩
  rw [← hM] at hlen hi hcap t0
  clear hM
  obtain ⟨K, hK⟩ : ∃ K, K = ws.length := ⟨_, rfl⟩
  have HK : Hid (K = ws.length) := hK
  rw [← hK] at ci hW1 hW2
  clear hK c00
  -- what it comes to
  have HFALSE : Hid ((∀ l, choicesOf (ws.drop 2) = some l → l.map (·.1) ≠ aheadTo E b N) → ∀ p, phiOf ws = some p → false = (decide (0 < b) && (p.choices.map (·.1) == aheadTo E b N))) := by
    intro h p hp
    obtain ⟨l, h1, h2⟩ := HPH.out p hp
    rw [h2, beq_eq_false_iff_ne.2 (h l h1)]
    simp
  have HTRUE : Hid (∀ q : Bool, (∀ l, 2 ≤ ws.length → choicesOf (ws.drop 2) = some l → (l.map (·.1) == aheadTo E b N) = q) → ∀ p, phiOf ws = some p → (decide (0 < b) && q) = (decide (0 < b) && (p.choices.map (·.1) == aheadTo E b N))) := by
    intro q h p hp
    obtain ⟨l, h1, h2⟩ := HPH.out p hp
    rw [h2, h l (phi_two hp) h1]
  clear HPH
  have hb40 : b < 40 := by omega
  go_enter Tryz.func48, Tryz.ntmps48
  go_wp2_with (first | (go_at_call 77; refine Calls.mono HBL.out ?_; rintro e w1 ⟨rfl, hw1⟩; replace hw1 := hw1.symm; subst hw1))
  go_loopg [9, 10] N (fun g v9 v10 wr => ∃ (a k : Nat), a + g = N ∧ v10 = .int .i64 a ∧ v9 = .int .i64 k ∧ k ≤ 2 + a ∧ 2 ≤ k ∧ Hid (k = 2 + (aheadTo E b a).length) ∧ Hid (∀ l, choicesOf (ws.drop 2) = some l → (l.map (·.1)).take (k - 2) = aheadTo E b a) ∧ Hid (∃ n, wr = w.drewN n))
  case atStart => exact ⟨0, 2, by omega, rfl, rfl, by omega, by omega, rfl, (fun l hl => by simp [aheadTo]), ⟨0, rfl⟩⟩
  case round =>
    obtain ⟨a, k, hag, rfl, rfl, hka, hk2, hk, hpre, hwr⟩ := hrel
    obtain ⟨n0, rfl⟩ := hwr.out
    clear hwr
    have g0' : (w.drewN n0).cell? ⟨gp, 0, none⟩ = some (.int .i64 (N : Int)) := g0
    by_cases haN : a < N
    · have haN' : (a : Int) < (N : Int) := by omega
      have cE := HCE.out a b (by omega) hb40 n0
      have HAS := aheadTo_succ E b a
      by_cases hE : (a, b) ∈ E
      · rw [decide_eq_true hE] at cE
        have HSP := aheadTo_split E b a hE N haN
        rw [if_pos hE] at HAS
        obtain ⟨rest, hrest⟩ := HSP
        by_cases hkK : k < K
        · have hkK' : ¬ (K : Int) ≤ (k : Int) := by omega
          have hkK2 : (k : Int) < (K : Int) := by omega
          obtain ⟨z, hz⟩ : ∃ z, ws[k]? = some z := ⟨_, List.getElem?_eq_getElem (by have := HK.out; omega)⟩
          have cz := HWC.out k z hz n0
          have hzs := HSM.out z (List.mem_of_getElem? hz)
          have hhz := headSize 58 z
          have HCU : Hid (∀ m, Calls Tryz.prog 92 #[.string z, .int .u8 58] (w.drewN m) fun e w' => e = .returned (.tuple #[.string (cutHead 58 z), .string (cutTail 58 z), .bool (cutAt 58 z).isSome]) ∧ ∃ n, w' = w.drewN n) := fun m => (cut_any (w.drewN m) z 58 hzs).mono (by rintro e w' ⟨h1, n, rfl⟩; exact ⟨h1, _, World.drewN_drewN _ _ _⟩)
          have HNU : Hid (∀ W, Calls Tryz.prog 94 #[.string (cutHead 58 z), .int .i64 0, .int .i64 1000000000] W fun e w' => (∃ (n : Int) (ok : Bool), e = .returned (.tuple #[.int .i64 n, .bool ok]) ∧ ∀ c, blkB (cutHead 58 z) = some c → n = (c : Int)) ∧ w' = W) := fun W => (rNumber_any W _ _ _ (by omega) (by omega) (by omega) (by omega) (by omega)).mono (by
            rintro e w' ⟨n, h1, h3, h2⟩
            refine ⟨⟨n, _, h1, fun c hc => ?_⟩, h2⟩
            have := numR_blk (cutHead 58 z)
            rw [hc] at this
            exact h3 _ (by simpa using this))
          have HCH : Hid (∀ l, choicesOf (ws.drop 2) = some l → ∃ c, l[k - 2]? = some c ∧ blkB (cutHead 58 z) = some c.1) := by
            intro l hl
            obtain ⟨h1, h2⟩ := choices_at _ l hl
            obtain ⟨c, h3, h4⟩ := h2 (k - 2) z (by rw [List.getElem?_drop, show 2 + (k - 2) = k by omega]; exact hz)
            exact ⟨c, h3, (choice_what h4).1⟩
          have HFIN : Hid (∀ n : Int, (∀ c, blkB (cutHead 58 z) = some c → n = (c : Int)) → n ≠ (a : Int) → ∀ p, phiOf ws = some p → false = (decide (0 < b) && (p.choices.map (·.1) == aheadTo E b N))) := by
            intro n hnc hna
            refine HFALSE.out (fun l hl e => ?_)
            obtain ⟨c, h1, h2⟩ := HCH.out l hl
            have h3 := congrArg (·[k - 2]?) e
            have h4 := hk.out
            simp only [List.getElem?_map, h1, hrest] at h3
            rw [List.getElem?_append_right (by omega), show k - 2 - (aheadTo E b a).length = 0 by omega] at h3
            simp at h3
            have := hnc _ h2
            omega
          have HNX : Hid (∀ n : Int, (∀ c, blkB (cutHead 58 z) = some c → n = (c : Int)) → n = (a : Int) → ∀ l, choicesOf (ws.drop 2) = some l → (l.map (·.1)).take (k + 1 - 2) = aheadTo E b (a + 1)) := by
            intro n hnc hna l hl
            obtain ⟨c, h1, h2⟩ := HCH.out l hl
            have h3 := hnc _ h2
            rw [HAS, show k + 1 - 2 = k - 2 + 1 by omega, List.take_add_one, hpre.out l hl]
            simp [h1]
            omega
          have HK1 : Hid (k + 1 = 2 + (aheadTo E b (a + 1)).length) := by
            show _ = _
            rw [HAS]
            have := hk.out
            simp
            omega
          generalize cutHead 58 z = zh at *
          generalize cutTail 58 z = zt at *
          generalize (cutAt 58 z).isSome = zb at *
          generalize blkB zh = bz at *
          clear hE hrest HAS hz HCH hpre hk hhz hzs
          go_wp2_with (first
            | (go_at_call 92; refine Calls.mono (HCU.out _) ?_; rintro e w1 ⟨rfl, n1, rfl⟩)
            | (go_at_call 94; refine Calls.mono (HNU.out _) ?_; rintro e w2 ⟨⟨n, ok, rfl, hnc⟩, rfl⟩; have HNC : Hid (∀ c, bz = some c → n = (c : Int)) := hnc; clear hnc; rcases Classical.em (n = (a : Int)) with hna | hna))
          · have HN1 : Hid (n = (a : Int)) := hna
            have hq : (n != (a : Int)) = false := by simp [hna]
            clear hna
            go_wp2_with fail
            go_roundg (N - (a + 1))
            case measure => omega
            case rel => exact ⟨a + 1, k + 1, by omega, by go_num, by go_num, by omega, by omega, HK1, HNX.out n HNC.out HN1.out, ⟨_, rfl⟩⟩
          · have HN1 : Hid (n ≠ (a : Int)) := hna
            have hq : (n != (a : Int)) = true := by simp [hna]
            clear hna
            go_wp2_with fail
            go_ret
            exact ⟨⟨_, rfl, HFIN.out n HNC.out HN1.out⟩, _, rfl⟩
        · have hkK' : (K : Int) ≤ (k : Int) := by omega
          have HFIN : Hid (∀ p, phiOf ws = some p → false = (decide (0 < b) && (p.choices.map (·.1) == aheadTo E b N))) := by
            refine HFALSE.out (fun l hl e => ?_)
            have h1 := (choices_at _ l hl).1
            have h3 := congrArg List.length e
            have h4 := hk.out
            have h5 := HK.out
            rw [hrest] at h3
            simp at h1 h3
            omega
          clear hE hrest HAS hpre hk
          go_wp2_with fail
          go_ret
          exact ⟨⟨_, rfl, HFIN.out⟩, _, rfl⟩
      · rw [decide_eq_false hE] at cE
        rw [if_neg hE, List.append_nil] at HAS
        have HK1 : Hid (k = 2 + (aheadTo E b (a + 1)).length) := by show _ = _; rw [HAS]; exact hk.out
        have HNX : Hid (∀ l, choicesOf (ws.drop 2) = some l → (l.map (·.1)).take (k - 2) = aheadTo E b (a + 1)) := by rw [HAS]; exact hpre
        clear hE HAS hpre hk
        go_wp2_with fail
        go_roundg (N - (a + 1))
        case measure => omega
        case rel => exact ⟨a + 1, k, by omega, by go_num, by go_num, by omega, by omega, HK1, HNX, ⟨_, rfl⟩⟩
    · have haN' : ¬ (a : Int) < (N : Int) := by omega
      have haE : a = N := by omega
      have HEND : Hid (∀ l, 2 ≤ ws.length → choicesOf (ws.drop 2) = some l → (l.map (·.1) == aheadTo E b N) = decide (k = K)) := by
        intro l htwo hl
        have h1 := (choices_at _ l hl).1
        have h2 := hpre.out l hl
        have h4 := hk.out
        have h5 := HK.out
        rw [haE] at h2 h4
        rw [← h2, Bool.eq_iff_iff, beq_iff_eq, decide_eq_true_eq]
        have h6 := congrArg List.length h2
        simp at h1 h6
        constructor
        · intro e
          have := congrArg List.length e
          simp at this
          omega
        · intro e
          rw [List.take_of_length_le (by simp; omega)]
      have HFIN : Hid (∀ p, phiOf ws = some p → (decide (0 < b) && decide (k = K)) = (decide (0 < b) && (p.choices.map (·.1) == aheadTo E b N))) := HTRUE.out _ HEND.out
      clear haE HEND hpre hk
      by_cases hb0 : 0 < b
      · have hb0' : (0 : Int) < (b : Int) := by omega
        by_cases hkK : k = K
        · have hkK' : ((k : Int) == (K : Int)) = true := by simp [hkK]
          have HR : Hid ((decide (0 < b) && decide (k = K)) = true) := by show _ = _; simp [hb0, hkK]
          clear hkK hb0
          go_wp2_with fail
          go_ret
          exact ⟨⟨_, rfl, by rw [HR.out] at HFIN; exact HFIN.out⟩, _, rfl⟩
        · have hkK' : ((k : Int) == (K : Int)) = false := by simp; omega
          have HR : Hid ((decide (0 < b) && decide (k = K)) = false) := by show _ = _; simp [hkK]
          clear hkK hb0
          go_wp2_with fail
          go_ret
          exact ⟨⟨_, rfl, by rw [HR.out] at HFIN; exact HFIN.out⟩, _, rfl⟩
      · have hb0' : ¬ (0 : Int) < (b : Int) := by omega
        have HR : Hid ((decide (0 < b) && decide (k = K)) = false) := by show _ = _; simp [hb0]
        clear hb0
        go_wp2_with fail
        go_ret
        exact ⟨⟨_, rfl, by rw [HR.out] at HFIN; exact HFIN.out⟩, _, rfl⟩
end

end Go.Proofs.YtbddcodljmglfaaGreatDoor

namespace Go.Proofs.YtbddcodljmglfaaGreatDoor
open Go.RowKit

section
variable (w : World) (tb : Nat) (T : List BA) (lv bv : Value) (bs : List BlockG) (hT : TextO w tb T lv bv) (hF : FormT T bs) (gp : Nat) (D : List Bool)
include hT hF
set_option maxRecDepth 100000 in
set_option maxHeartbeats 4000000 in
theorem usesO_away (S : List Bool) (hS : S.length = 40) (i : Nat) (hi : i < T.length) (b : Nat) (hb : b < bs.length) (hbi : bCnt (blkIdx 0 T) i = b + 1) (hno : S.getD b false = false) :
    Calls Tryz.prog 50 #[.pointer (some ⟨tb, 0, none⟩), .pointer (some ⟨gp, 0, none⟩), .agg (bits S).toArray, .int .i64 (i : Int)] w fun e w' => e = .returned (.bool true) ∧ Below w.heap.size w w' := by
  have hn := hF.n40
  have HBL : Hid (∀ W, Below w.heap.size w W → Calls Tryz.prog 77 #[.pointer (some ⟨tb, 0, none⟩), .int .i64 (i : Int)] W fun e w' => e = .returned (.int .i64 (b : Int)) ∧ w' = W) := fun W hW => (blockO W tb T lv bv bs (hT.below hW) hF i hi).mono (by rintro e w' ⟨h1, h2⟩; rw [hbi] at h1; refine ⟨?_, h2⟩; rw [h1]; congr 2; omega)
  have HNO : Hid (S.getD b false = false) := hno
  have hb0 : ¬ (b : Int) < 0 := by omega
  have hb40 : (b : Int) < 40 := by omega
  have hb1 : b < 40 := by omega
  clear hT hF hbi hno
  go_enter Tryz.func50, Tryz.ntmps50
  go_wp2_with (first
    | (go_at_call 77; refine Calls.mono (HBL.out w1 HB1.out) ?_; rintro e w2 ⟨rfl, hw2⟩; replace hw2 := hw2.symm; subst hw2)
    | (refine wpList_box_arr rfl _ rfl S hS rfl ?_; intro w1 hA1 hB1 hS1; have cb := (hA1.cell hb1).1; rw [HNO.out] at cb; have HB1 : Hid (Below w.heap.size w w1) := hB1; clear hA1 hB1 hS1))
  go_ret
  exact ⟨rfl, HB1.out⟩

set_option maxRecDepth 100000 in
set_option maxHeartbeats 4000000 in
theorem usesO_line (hG : RefIn w gp bs.length (edgesG 0 [] bs) D) (V : List (Ver × (Nat × Nat))) (hV : Known (itsFrom 0 bs) V) (S : List Bool) (hS : S.length = 40) (i : Nat) (x : BA) (hx : T[i]? = some x) (b : Nat) (hb : b < bs.length) (hbi : bCnt (blkIdx 0 T) i = b + 1) (hyes : S.getD b false = true)
    (hph : isPhi (hd (cuts 32 x)) = false) (vs : List Ver) (hvs : (takesR (hd (cuts 32 x)) (cuts 32 x)).map (readVer 1) = vs.map some) :
    Calls Tryz.prog 50 #[.pointer (some ⟨tb, 0, none⟩), .pointer (some ⟨gp, 0, none⟩), .agg (bits S).toArray, .int .i64 (i : Int)] w fun e w' => e = .returned (.bool (vs.all fun v => atB V (heldB (edgesG 0 [] bs)) v b i)) ∧ Below w.heap.size w w' := by
  have hn := hF.n40
  have hlen := hF.len
  have hi := (List.getElem?_eq_some_iff.1 hx).1
  have HBL : Hid (∀ W, Below w.heap.size w W → Calls Tryz.prog 77 #[.pointer (some ⟨tb, 0, none⟩), .int .i64 (i : Int)] W fun e w' => e = .returned (.int .i64 (b : Int)) ∧ w' = W) := fun W hW => (blockO W tb T lv bv bs (hT.below hW) hF i hi).mono (by rintro e w' ⟨h1, h2⟩; rw [hbi] at h1; refine ⟨?_, h2⟩; rw [h1]; congr 2; omega)
  have HTK : Hid (∀ W, Below w.heap.size w W → Calls Tryz.prog 40 #[.pointer (some ⟨tb, 0, none⟩), .int .i64 (i : Int)] W fun e w' => (∃ v, e = .returned v ∧ OwnS w' W.heap.size 9 1 v (takesR (hd (cuts 32 x)) (cuts 32 x)).length (strs (takesR (hd (cuts 32 x)) (cuts 32 x)))) ∧ Below W.heap.size W w') := fun W hW => takesO W tb T lv bv bs (hT.below hW) hF i x hx
  obtain ⟨gL, oL, cL, vw, rfl, hcap, t0, -, hgL, ci, hw, -⟩ := hT.line hx
  obtain ⟨gw, ow, cw, rfl, hgw, c00⟩ := hw.at
  have hW1 := hw.pos
  have hW2 := hw.len
  have htb : tb < w.heap.size := World.block_lt_of_cell? w _ t0
  have HC : Hid (∀ W, Below w.heap.size w W → W.cell? ⟨tb, 0, none⟩ = some (.slice (some ⟨gL, oL, none⟩) T.length cL) ∧ W.cell? ⟨gL, oL + i, none⟩ = some (.slice (some ⟨gw, ow, none⟩) (cuts 32 x).length cw) ∧ W.cell? ⟨gw, ow, none⟩ = some (.string (hd (cuts 32 x)))) := fun W hW => ⟨(hW.cell (p := ⟨tb, 0, none⟩) htb).trans t0, (hW.cell (p := ⟨gL, oL + i, none⟩) hgL).trans ci, (hW.cell (p := ⟨gw, ow, none⟩) hgw).trans c00⟩
  have HMA : Hid (∀ W, Below w.heap.size w W → ∀ (s : BA) (u : Ver), readVer 1 s = some u → s.size ≤ 4294967280 → Calls Tryz.prog 95 #[.pointer (some ⟨tb, 0, none⟩), .pointer (some ⟨gp, 0, none⟩), .string s, .int .i64 (i : Int), .bool false] W fun e w' => e = .returned (.bool (atB V (heldB (edgesG 0 [] bs)) u b i)) ∧ Below W.heap.size W w') := fun W hW s u hu hs => (mayO W tb T _ bv bs (hT.below hW) hF gp D (hG.below hW) s u hu hs b i hi hb hbi false).mono (by rintro e w' ⟨h1, h2⟩; rw [mayD_at hV] at h1; exact ⟨h1, h2⟩)
  have HSM : Hid (∀ s ∈ takesR (hd (cuts 32 x)) (cuts 32 x), s.size ≤ 4294967280) := by
    intro s hs
    refine hw.small s ?_
    unfold takesR at hs
    split at hs
    · have aux : ∀ (ps : List Nat) (l : List BA), ∀ q ∈ takesG ps l, q ∈ l := by
        intro ps
        induction ps with
        | nil => intro l q hq; simp [takesG] at hq
        | cons p ps ih =>
          intro l q hq
          cases l with
          | nil => simp [takesG] at hq
          | cons a l =>
            simp only [takesG] at hq
            split at hq
            · rcases List.mem_cons.1 hq with rfl | hq
              · simp
              · simp [ih l q hq]
            · simp [ih l q hq]
      exact List.mem_of_mem_drop (aux _ _ s hs)
    · simp at hs
  have HYES : Hid (S.getD b false = true) := hyes
  have hph' : (ByteArray.toList (hd (cuts 32 x)) == [112, 104, 105]) = false := hph
  have hb0 : ¬ (b : Int) < 0 := by omega
  have hb40 : (b : Int) < 40 := by omega
  have hb1 : b < 40 := by omega
  have hkl : (takesR (hd (cuts 32 x)) (cuts 32 x)).length ≤ 3 := by
    unfold takesR
    split
    · rename_i kd hk
      have aux : ∀ (ps : List Nat) (l : List BA), (takesG ps l).length ≤ ps.length := by
        intro ps
        induction ps with
        | nil => intro l; simp [takesG]
        | cons p ps ih =>
          intro l
          cases l with
          | nil => simp [takesG]
          | cons a l =>
            simp only [takesG]
            split
            · simp [ih l]
            · have := ih l; simp; omega
      have := aux (partsOf kd) ((cuts 32 x).drop 1)
      have h3 : ∀ k : Fin 10, (partsOf k.val).length ≤ 3 := by decide
      have := h3 ⟨kd, kindOf_lt hk⟩
      simp only at this
      omega
    · simp
  generalize edgesG 0 [] bs = E at *
  generalize heldB E = H at *
  obtain ⟨ks, hks⟩ : ∃ ks, ks = takesR (hd (cuts 32 x)) (cuts 32 x) := ⟨_, rfl⟩
  rw [← hks] at HTK HSM hvs hkl
  generalize hd (cuts 32 x) = x0 at *
  obtain ⟨NW, hNW⟩ : ∃ NW, NW = (cuts 32 x).length := ⟨_, rfl⟩
  rw [← hNW] at HC ci hW1 hW2
  obtain ⟨M, hM⟩ : ∃ M, M = T.length := ⟨_, rfl⟩
  rw [← hM] at HC t0 hlen hi hcap
  obtain ⟨K, hK⟩ : ∃ K, K = ks.length := ⟨_, rfl⟩
  have HK : Hid (K = ks.length) := hK
  rw [← hK] at HTK hkl
  have HVS : Hid (ks.map (readVer 1) = vs.map some) := hvs
  clear hT hF hbi hyes hph hG hV hx hw hks hNW hM hK hvs t0 ci c00
  go_enter Tryz.func50, Tryz.ntmps50
  go_wp2_with (first
    | (go_at_call 40; refine Calls.mono (HTK.out w1 HB1.out) ?_; rintro e w3 ⟨⟨v, rfl, hv⟩, hb3⟩; obtain ⟨aoT, cpT, rfl⟩ := hv.len; have HO3 : Hid (OwnS w3 _ _ _ _ _ _) := hv; have HB3 : Hid (Below w.heap.size w w3) := HB1.out.trans (hb3.mono HB1.out.size); clear hv hb3)
    | (go_at_call 77; refine Calls.mono (HBL.out w1 HB1.out) ?_; rintro e w2 ⟨rfl, hw2⟩; replace hw2 := hw2.symm; subst hw2)
    | (refine wpList_box_arr rfl _ rfl S hS rfl ?_; intro w1 hA1 hB1 hS1; have cb := (hA1.cell hb1).1; rw [HYES.out] at cb; obtain ⟨d1, d2, d3⟩ := HC.out w1 hB1; have HB1 : Hid (Below w.heap.size w w1) := hB1; clear hA1 hB1 hS1))
  clear d1 d2 d3 cb HTK HBL HC
  go_loopg [19] K (fun g v19 wr => ∃ k : Nat, k + g = K ∧ v19 = .int .i64 k ∧ Hid (Below w3.heap.size w3 wr) ∧ Hid ((vs.all fun v => atB V H v b i) = ((vs.drop k).all fun v => atB V H v b i)))
  case atStart => exact ⟨0, by omega, rfl, Below.refl _ _, (by show _ = _; simp)⟩
  case round =>
    obtain ⟨k, hkg, rfl, hbel3, hall⟩ := hrel
    have hvl : vs.length = K := by have := congrArg List.length HVS.out; simp at this; rw [HK.out]; exact this.symm
    have hbel : Hid (Below w.heap.size w wr) := HB3.out.trans (hbel3.out.mono HB3.out.size)
    by_cases hkK : k < K
    · have hkK' : (k : Int) < (K : Int) := by omega
      obtain ⟨z, hz⟩ : ∃ z, ks[k]? = some z := ⟨_, List.getElem?_eq_getElem (HK.out ▸ hkK)⟩
      obtain ⟨u, hu⟩ : ∃ u, vs[k]? = some u := ⟨_, List.getElem?_eq_getElem (by omega)⟩
      have hzu : readVer 1 z = some u := by
        have := congrArg (·[k]?) HVS.out
        simpa [hz, hu] using this
      obtain ⟨gl, ol, rfl, hgl, hcl⟩ := (HO3.out.rdT.below hbel3.out).at (by omega)
      have cz : wr.cell? ⟨gl, ol + k, none⟩ = some (.string z) := hcl k _ (by simp [strs, hz])
      have HM : Hid (Calls Tryz.prog 95 #[.pointer (some ⟨tb, 0, none⟩), .pointer (some ⟨gp, 0, none⟩), .string z, .int .i64 (i : Int), .bool false] wr fun e w' => e = .returned (.bool (atB V H u b i)) ∧ Below wr.heap.size wr w') := HMA.out wr hbel.out z u hzu (HSM.out z (List.mem_of_getElem? hz))
      have HST : Hid ((vs.all fun v => atB V H v b i) = (atB V H u b i && ((vs.drop (k + 1)).all fun v => atB V H v b i))) := by
        show _ = _
        rw [hall.out, drop_some hu]
        rfl
      clear hcl hz hu hzu hall
      cases ha : atB V H u b i with
      | true =>
        rw [ha] at HM HST
        rw [Bool.true_and] at HST
        clear ha
        go_wp2_with (first | (go_at_call 95; refine Calls.mono HM.out ?_; rintro e w4 ⟨rfl, hb4⟩; have HB4 : Hid (Below w3.heap.size w3 w4) := hbel3.out.trans (hb4.mono hbel3.out.size); clear hb4))
        go_roundg (K - (k + 1))
        case measure => omega
        case rel => exact ⟨k + 1, by omega, by go_num, HB4, HST⟩
      | false =>
        rw [ha] at HM HST
        rw [Bool.false_and] at HST
        clear ha
        go_wp2_with (first | (go_at_call 95; refine Calls.mono HM.out ?_; rintro e w4 ⟨rfl, hb4⟩; have HB4 : Hid (Below w3.heap.size w3 w4) := hbel3.out.trans (hb4.mono hbel3.out.size); clear hb4))
        go_ret
        exact ⟨by rw [HST.out]; rfl, HB3.out.trans (HB4.out.mono HB3.out.size)⟩
    · have hkK' : ¬ (k : Int) < (K : Int) := by omega
      have HE : Hid ((vs.all fun v => atB V H v b i) = true) := by
        show _ = _
        rw [hall.out, List.drop_of_length_le (by omega)]
        rfl
      clear hall
      go_wp2_with fail
      go_ret
      exact ⟨by rw [HE.out]; rfl, hbel.out⟩

set_option maxRecDepth 100000 in
set_option maxHeartbeats 4000000 in
theorem usesO_phi (hG : RefIn w gp bs.length (edgesG 0 [] bs) D) (V : List (Ver × (Nat × Nat))) (hV : Known (itsFrom 0 bs) V) (S : List Bool) (hS : S.length = 40) (hSt : ∀ y, S.getD y false = heldB (edgesG 0 [] bs) 0 y) (i : Nat) (x : BA) (hx : T[i]? = some x) (b : Nat) (hb : b < bs.length) (hbi : bCnt (blkIdx 0 T) i = b + 1) (hyes : S.getD b false = true)
    (hph : isPhi (hd (cuts 32 x)) = true) (cs : List (Nat × Ver)) (hcs : choicesOf ((cuts 32 x).drop 2) = some cs) (hcN : ∀ c ∈ cs, c.1 < bs.length) (hcl : 2 ≤ (cuts 32 x).length) (hc40 : cs.length ≤ 40) :
    Calls Tryz.prog 50 #[.pointer (some ⟨tb, 0, none⟩), .pointer (some ⟨gp, 0, none⟩), .agg (bits S).toArray, .int .i64 (i : Int)] w fun e w' => e = .returned (.bool (!(cs.any fun c => heldB (edgesG 0 [] bs) 0 c.1 && !behindB V (heldB (edgesG 0 [] bs)) c.2 c.1))) ∧ Below w.heap.size w w' := by
  have hn := hF.n40
  have hlen := hF.len
  have hi := (List.getElem?_eq_some_iff.1 hx).1
  have HBL : Hid (∀ W, Below w.heap.size w W → Calls Tryz.prog 77 #[.pointer (some ⟨tb, 0, none⟩), .int .i64 (i : Int)] W fun e w' => e = .returned (.int .i64 (b : Int)) ∧ w' = W) := fun W hW => (blockO W tb T lv bv bs (hT.below hW) hF i hi).mono (by rintro e w' ⟨h1, h2⟩; rw [hbi] at h1; refine ⟨?_, h2⟩; rw [h1]; congr 2; omega)
  obtain ⟨gL, oL, cL, vw, rfl, hcap, t0, -, hgL, ci, hw, -⟩ := hT.line hx
  obtain ⟨gw, ow, cw, rfl, hgw, c00⟩ := hw.at
  have hW2 := hw.len
  have htb : tb < w.heap.size := World.block_lt_of_cell? w _ t0
  have HC : Hid (∀ W, Below w.heap.size w W → W.cell? ⟨tb, 0, none⟩ = some (.slice (some ⟨gL, oL, none⟩) T.length cL) ∧ W.cell? ⟨gL, oL + i, none⟩ = some (.slice (some ⟨gw, ow, none⟩) (cuts 32 x).length cw) ∧ W.cell? ⟨gw, ow, none⟩ = some (.string (hd (cuts 32 x)))) := fun W hW => ⟨(hW.cell (p := ⟨tb, 0, none⟩) htb).trans t0, (hW.cell (p := ⟨gL, oL + i, none⟩) hgL).trans ci, (hW.cell (p := ⟨gw, ow, none⟩) hgw).trans c00⟩
  have HWC : Hid (∀ (j : Nat) (z : BA), (cuts 32 x)[j]? = some z → ∀ W, Below w.heap.size w W → W.cell? ⟨gw, ow + j, none⟩ = some (.string z)) := by
    intro j z hz W hW
    refine (hW.cell (p := ⟨gw, ow + j, none⟩) hgw).trans ?_
    obtain ⟨ao, cp, h1, -, h2⟩ := hw.row.cell
    obtain ⟨g, off, h3, h4, h5⟩ := h2 hw.pos
    injection h1 with h1 _ _
    rw [← h1] at h3
    injection h3 with h3
    injection h3 with h3 h6 _
    subst h3 h6
    exact h5 j _ (by simp [strs, hz])
  have HSM : Hid (∀ z ∈ cuts 32 x, z.size ≤ 4294967280) := hw.small
  have HLA : Hid (∀ W, Below w.heap.size w W → ∀ a : Nat, a < bs.length → Calls Tryz.prog 93 #[.pointer (some ⟨tb, 0, none⟩), .int .i64 (a : Int)] W fun e w' => e = .returned (.int .i64 (lastD T a : Int)) ∧ w' = W) := fun W hW a ha => lastO W tb T _ bv bs (hT.below hW) hF a ha
  have HMA : Hid (∀ W, Below w.heap.size w W → ∀ (s : BA) (u : Ver) (a : Nat), a < bs.length → readVer 1 s = some u → s.size ≤ 4294967280 → Calls Tryz.prog 95 #[.pointer (some ⟨tb, 0, none⟩), .pointer (some ⟨gp, 0, none⟩), .string s, .int .i64 (lastD T a : Int), .bool true] W fun e w' => (∃ r : Bool, e = .returned (.bool r) ∧ (heldB (edgesG 0 [] bs) 0 a = true → r = behindB V (heldB (edgesG 0 [] bs)) u a)) ∧ Below W.heap.size W w') := fun W hW s u a ha hu hs => (mayO W tb T _ bv bs (hT.below hW) hF gp D (hG.below hW) s u hu hs a (lastD T a) (hF.last a ha).1 ha (hF.last a ha).2.1 true).mono (by rintro e w' ⟨h1, h2⟩; exact ⟨⟨_, h1, fun h => mayD_behind hV _ u a _ h⟩, h2⟩)
  have HYES : Hid (S.getD b false = true) := hyes
  have HST : Hid (∀ y, S.getD y false = heldB (edgesG 0 [] bs) 0 y) := hSt
  have hph' : (ByteArray.toList (hd (cuts 32 x)) == [112, 104, 105]) = true := hph
  have hb0 : ¬ (b : Int) < 0 := by omega
  have hb40 : (b : Int) < 40 := by omega
  have hb1 : b < 40 := by omega
  have HCA : Hid ((cuts 32 x).length = cs.length + 2 ∧ ∀ (k : Nat) (z : BA), (cuts 32 x)[k]? = some z → 2 ≤ k → ∃ c, cs[k - 2]? = some c ∧ blkB (cutHead 58 z) = some c.1 ∧ readVer 1 (cutTail 58 z) = some c.2) := by
    obtain ⟨h1, h2⟩ := choices_at _ cs hcs
    refine ⟨by simp at h1; omega, fun k z hz hk => ?_⟩
    obtain ⟨c, h3, h4⟩ := h2 (k - 2) z (by rw [List.getElem?_drop, show 2 + (k - 2) = k by omega]; exact hz)
    exact ⟨c, h3, choice_what h4⟩
  have HCN : Hid (∀ c ∈ cs, c.1 < bs.length) := hcN
  have HLL : Hid (∀ a, a < bs.length → lastD T a < T.length) := fun a ha => (hF.last a ha).1
  generalize edgesG 0 [] bs = E at *
  generalize heldB E = H at *
  generalize hd (cuts 32 x) = x0 at *
  generalize cuts 32 x = ws at *
  obtain ⟨K, hK⟩ : ∃ K, K = ws.length := ⟨_, rfl⟩
  have HK : Hid (K = ws.length) := hK
  rw [← hK] at HC HCA hW2 hcl
  obtain ⟨M, hM⟩ : ∃ M, M = T.length := ⟨_, rfl⟩
  rw [← hM] at HC hlen hi hcap HLL
  obtain ⟨N, hN⟩ : ∃ N, N = bs.length := ⟨_, rfl⟩
  rw [← hN] at HLA HMA hb hn HCN HLL
  clear hT hF hbi hyes hph hG hV hx hw hSt hcs hcN t0 ci c00 hK hM hN
  go_enter Tryz.func50, Tryz.ntmps50
  go_wp2_with (first
    | (go_at_call 77; refine Calls.mono (HBL.out w1 HB1.out) ?_; rintro e w2 ⟨rfl, hw2⟩; replace hw2 := hw2.symm; subst hw2)
    | (refine wpList_box_arr rfl _ rfl S hS rfl ?_; intro w1 hA1 hB1 hS1; have cb := (hA1.cell hb1).1; rw [HYES.out] at cb; obtain ⟨d1, d2, d3⟩ := HC.out w1 hB1; have HA1 : Hid (ArrIn w1 w.heap.size S) := hA1; have HB1 : Hid (Below w.heap.size w w1) := hB1; clear hA1 hB1 hS1))
  clear d1 d2 d3 cb HBL HC
  go_loopg [11] (K - 2) (fun g v11 wr => ∃ k : Nat, k + g = K ∧ 2 ≤ k ∧ v11 = .int .i64 k ∧ Hid (Below w1.heap.size w1 wr) ∧ Hid ((cs.any fun c => H 0 c.1 && !behindB V H c.2 c.1) = ((cs.drop (k - 2)).any fun c => H 0 c.1 && !behindB V H c.2 c.1)))
  case atStart => exact ⟨2, by omega, by omega, rfl, Below.refl _ _, (by show _ = _; simp)⟩
  case round =>
    obtain ⟨k, hkg, hk2, rfl, hbel1, hany⟩ := hrel
    have hbel : Hid (Below w.heap.size w wr) := HB1.out.trans (hbel1.out.mono HB1.out.size)
    by_cases hkK : k < K
    · have hkK' : (k : Int) < (K : Int) := by omega
      obtain ⟨z, hz⟩ : ∃ z, ws[k]? = some z := ⟨_, List.getElem?_eq_getElem (HK.out ▸ hkK)⟩
      obtain ⟨c, hc, hc1, hc2⟩ := HCA.out.2 k z hz hk2
      have hcm := HCN.out c (List.mem_of_getElem? hc)
      have cz := HWC.out k z hz wr hbel.out
      have hzs := HSM.out z (List.mem_of_getElem? hz)
      have hhz := headSize 58 z
      have htz := cutTail_size 58 z
      have HCU : Hid (∀ W, Calls Tryz.prog 92 #[.string z, .int .u8 58] W fun e w' => e = .returned (.tuple #[.string (cutHead 58 z), .string (cutTail 58 z), .bool (cutAt 58 z).isSome]) ∧ ∃ n, w' = W.drewN n) := fun W => cut_any W z 58 hzs
      have HNU : Hid (∀ W, Calls Tryz.prog 94 #[.string (cutHead 58 z), .int .i64 0, .int .i64 1000000000] W fun e w' => e = .returned (.tuple #[.int .i64 (c.1 : Int), .bool true]) ∧ w' = W) := fun W => (rNumber_any W _ _ _ (by omega) (by omega) (by omega) (by omega) (by omega)).mono (by
        rintro e w' ⟨n, h1, h3, h2⟩
        have := numR_blk (cutHead 58 z)
        rw [hc1] at this
        have h4 := h3 _ (by simpa using this)
        rw [this] at h1
        subst h4
        exact ⟨h1, h2⟩)
      have HM : Hid (∀ W, Below w.heap.size w W → Calls Tryz.prog 95 #[.pointer (some ⟨tb, 0, none⟩), .pointer (some ⟨gp, 0, none⟩), .string (cutTail 58 z), .int .i64 (lastD T c.1 : Int), .bool true] W fun e w' => (∃ r : Bool, e = .returned (.bool r) ∧ (H 0 c.1 = true → r = behindB V H c.2 c.1)) ∧ Below W.heap.size W w') := fun W hW => HMA.out W hW _ c.2 c.1 hcm hc2 (by omega)
      have HL : Hid (∀ W, Below w.heap.size w W → Calls Tryz.prog 93 #[.pointer (some ⟨tb, 0, none⟩), .int .i64 (c.1 : Int)] W fun e w' => e = .returned (.int .i64 (lastD T c.1 : Int)) ∧ w' = W) := fun W hW => HLA.out W hW c.1 hcm
      have HSTEP : Hid ((cs.any fun c => H 0 c.1 && !behindB V H c.2 c.1) = ((H 0 c.1 && !behindB V H c.2 c.1) || ((cs.drop (k + 1 - 2)).any fun c => H 0 c.1 && !behindB V H c.2 c.1))) := by
        show _ = _
        rw [hany.out, drop_some hc, show k - 2 + 1 = k + 1 - 2 by omega]
        rfl
      have HAL : Hid (∀ W, Below w1.heap.size w1 W → W.cell? ⟨w.heap.size, c.1, none⟩ = some (.bool (H 0 c.1))) := fun W hW => by
        have := ((HA1.out.below hW).cell (k := c.1) (by omega)).1
        rw [HST.out] at this
        exact this
      have hc40' : (c.1 : Int) < 40 := by omega
      have hlm := HLL.out c.1 hcm
      generalize H 0 c.1 = h0 at HM HSTEP HAL
      generalize behindB V H c.2 c.1 = r0 at HM HSTEP
      generalize lastD T c.1 = la at *
      generalize cutHead 58 z = zh at *
      generalize cutTail 58 z = zt at *
      generalize (cutAt 58 z).isSome = zb at *
      generalize c.1 = c1 at *
      clear hc hc1 hc2 hz hany hhz htz hzs HMA HLA
      go_wp2_with (first
        | (go_at_call 92; refine Calls.mono (HCU.out wr) ?_; rintro e w4 ⟨rfl, n4, rfl⟩; have HB4 : Hid (Below w1.heap.size w1 (wr.drewN n4)) := hbel1.out.trans ((below_drewN (Below.refl _ _) n4).mono hbel1.out.size); have HB4' : Hid (Below w.heap.size w (wr.drewN n4)) := HB1.out.trans (HB4.out.mono HB1.out.size))
        | (go_at_call 94; refine Calls.mono (HNU.out _) ?_; rintro e w5 ⟨rfl, rfl⟩)
        | (go_at_call 93; refine Calls.mono (HL.out _ HB4'.out) ?_; rintro e w6 ⟨rfl, rfl⟩)
        | (go_at_call 95; refine Calls.mono (HM.out _ HB4'.out) ?_; rintro e w7 ⟨⟨r, rfl, hr⟩, hb7⟩; have HR7 : Hid (h0 = true → r = r0) := hr; have HB7 : Hid (Below w1.heap.size w1 w7) := HB4.out.trans (hb7.mono HB4.out.size); have ca := HAL.out w7 HB7.out; clear hr hb7; cases h0 <;> cases r))
      · have HS2 : Hid ((cs.any fun c => H 0 c.1 && !behindB V H c.2 c.1) = ((cs.drop (k + 1 - 2)).any fun c => H 0 c.1 && !behindB V H c.2 c.1)) := by show _ = _; rw [HSTEP.out]; simp
        go_wp2_with fail
        go_roundg (K - (k + 1))
        case measure => omega
        case rel => exact ⟨k + 1, by omega, by omega, by go_num, HB7, HS2⟩
      · have HS2 : Hid ((cs.any fun c => H 0 c.1 && !behindB V H c.2 c.1) = ((cs.drop (k + 1 - 2)).any fun c => H 0 c.1 && !behindB V H c.2 c.1)) := by show _ = _; rw [HSTEP.out]; simp
        go_wp2_with fail
        go_roundg (K - (k + 1))
        case measure => omega
        case rel => exact ⟨k + 1, by omega, by omega, by go_num, HB7, HS2⟩
      · have HS2 : Hid ((cs.any fun c => H 0 c.1 && !behindB V H c.2 c.1) = true) := by show _ = _; rw [HSTEP.out]; have h7 := HR7.out; revert h7; cases r0 <;> simp
        go_wp2_with fail
        go_ret
        exact ⟨by rw [HS2.out]; rfl, HB1.out.trans (HB7.out.mono HB1.out.size)⟩
      · have HS2 : Hid ((cs.any fun c => H 0 c.1 && !behindB V H c.2 c.1) = ((cs.drop (k + 1 - 2)).any fun c => H 0 c.1 && !behindB V H c.2 c.1)) := by show _ = _; rw [HSTEP.out]; have h7 := HR7.out; revert h7; cases r0 <;> simp
        go_wp2_with fail
        go_roundg (K - (k + 1))
        case measure => omega
        case rel => exact ⟨k + 1, by omega, by omega, by go_num, HB7, HS2⟩
    · have hkK' : ¬ (k : Int) < (K : Int) := by omega
      have HE : Hid ((cs.any fun c => H 0 c.1 && !behindB V H c.2 c.1) = false) := by
        show _ = _
        rw [hany.out, List.drop_of_length_le (by have := HCA.out.1; omega)]
        rfl
      clear hany
      go_wp2_with fail
      go_ret
      exact ⟨by rw [HE.out]; rfl, hbel.out⟩
end

end Go.Proofs.YtbddcodljmglfaaGreatDoor
