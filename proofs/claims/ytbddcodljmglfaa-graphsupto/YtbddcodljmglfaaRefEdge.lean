/- The document's own edge, listed, Edge. -/
import Derived.Test.YtbddcodljmglfaaRefLast
import Derived.Test.YtbddcodljmglfaaEdgeAsk
import Derived.Test.YtbddcodljmglfaaMeetMath
set_option linter.unusedSimpArgs false
set_option linter.unusedVariables false
namespace Go.Proofs.Ytbddcodljmglfaa
open Go.RowKit

def Good (L : List (Nat × Nat)) (a x y : Nat) : Prop := HeldF L a x ∧ (x, y) ∈ L ∧ (y = a ∨ Fwd L a y)

theorem onEdge_good {L : List (Nat × Nat)} {n a y : Nat} (hL : ∀ z ∈ L, z.1 < n ∧ z.2 < n) : OnEdge L a y ↔ ∃ x, x < n ∧ Good L a x y := by
  unfold OnEdge Good
  constructor
  · rintro ⟨h1, x, h2, h3⟩
    refine ⟨x, (hL _ h3).1, h2, h3, ?_⟩
    rcases h1 with h1 | h1
    · right
      have hr : Fwd L (-1) y := Reach.step h2.1 ⟨h3, by omega⟩
      by_cases hf : Fwd L a y
      · exact hf
      · exact absurd ⟨hr, hf⟩ h1
    · exact .inl h1
  · rintro ⟨x, _, h2, h3, h1⟩
    refine ⟨?_, x, h2, h3⟩
    rcases h1 with h1 | h1
    · exact .inr h1
    · exact .inl fun h => h.2 h1

structure EgW (w wr : World) (b4 b5 b6 b7 : Nat) (S1 S2 T : List Bool) : Prop where
  res : ArrIn wr b4 (List.replicate 40 false)
  out : ArrIn wr b5 T
  all : ArrIn wr b6 S1
  less : ArrIn wr b7 S2
  bel : Below w.heap.size w wr
  o4 : w.heap.size ≤ b4
  o5 : b4 < b5
  o6 : b5 < b6
  o7 : b6 < b7

theorem EgW.set {w wr : World} {b4 b5 b6 b7 : Nat} {S1 S2 T : List Bool} (h : EgW w wr b4 b5 b6 b7 S1 S2 T) (y : Nat) : EgW w (wr.setCell ⟨b5, y, none⟩ (.bool true)) b4 b5 b6 b7 S1 S2 (T.set y true) := by
  have h4 := h.o4
  have h5 := h.o5
  have h6 := h.o6
  have h7 := h.o7
  exact ⟨h.res.of_block (Below.heap_setCell _ _ _ _ (by simp; omega)), h.out.set y true, h.all.of_block (Below.heap_setCell _ _ _ _ (by simp; omega)), h.less.of_block (Below.heap_setCell _ _ _ _ (by simp; omega)), h.bel.setCell (by simp; omega) _, h4, h5, h6, h7⟩

set_option maxRecDepth 100000 in
set_option maxHeartbeats 4000000 in
theorem refEdge_in (w : World) (g n : Nat) (L : List (Nat × Nat)) (D : List Bool) (h : RefIn w g n L D) (a : Nat) (ha : a < n) :
    Calls Try.prog 71 #[.pointer (some ⟨g, 0, none⟩), .int .i64 a] w fun e w' => ∃ S : List Bool, e = .returned (.agg (bits S).toArray) ∧ S.length = 40 ∧ (∀ y, S.getD y false = true ↔ OnEdge L a y) ∧ Below w.heap.size w w' := by
  have HR : Hid (RefIn w g n L D) := h
  have hle := h.le
  clear h
  go_enter Try.func71, Try.ntmps71
  go_wp2_with (first
    | (have hq := hA1; refine wpList_alloc_arr rfl rfl ?_; intro w2 hA2 hB2 hS2; rw [hS1] at hA2; have hA12 := hA1.below hB2)
    | (refine wpList_alloc_arr rfl rfl ?_; intro w1 hA1 hB1 hS1))
  have HB2 : Hid (Below w.heap.size w w2) := hB1.trans (hB2.mono hB1.size)
  have hs2 : w2.heap.size = w.heap.size + 2 := by omega
  refine (refFrom_any w2 g n L D (HR.out.below HB2.out) 0 HR.out.pos (-1)).mono ?_
  rintro e w3 ⟨S1, rfl, hl1, hs1, hB3⟩
  have hA13 := hA12.below hB3
  have hA23 := hA2.below hB3
  have HB3 : Hid (Below w.heap.size w w3) := HB2.out.trans (hB3.mono HB2.out.size)
  have hs3 := hB3.size
  clear hA1 hA2 hA12 hB1 hB2 hB3 hS1 hS2 hq
  go_wp2_with (first | (refine wpList_keep_arr rfl rfl rfl _ _ rfl S1 hl1 rfl rfl ?_; intro w4 hA4 hB4 hS4))
  have HB4 : Hid (Below w.heap.size w w4) := HB3.out.trans (hB4.mono HB3.out.size)
  refine (refFrom_any w4 g n L D (HR.out.below HB4.out) 0 HR.out.pos a).mono ?_
  rintro e w5 ⟨S2, rfl, hl2, hs2', hB5⟩
  have hA15 := (hA13.below hB4).below hB5
  have hA25 := (hA23.below hB4).below hB5
  have hA45 := hA4.below hB5
  have HB5 : Hid (Below w.heap.size w w5) := HB4.out.trans (hB5.mono HB4.out.size)
  have hs5 := hB5.size
  have HH : Hid (∀ x, HeldF L a x ↔ (S1.getD x false && !S2.getD x false) = true) := by
    intro x
    unfold HeldF
    rw [show Fwd L (-1) x ↔ S1.getD x false = true from (hs1 x).symm, show Fwd L a x ↔ S2.getD x false = true from (hs2' x).symm]
    simp only [Bool.and_eq_true, Bool.not_eq_true', Bool.not_eq_true]
  have HL2 : Hid (∀ y, S2.getD y false = true ↔ Fwd L a y) := hs2'
  clear hA13 hA23 hA4 hB4 hB5 hs1 hs2'
  go_wp2_with (first | (refine wpList_keep_arr rfl rfl rfl _ _ rfl S2 hl2 rfl rfl ?_; intro w6 hA6 hB6 hS6))
  have HE0 : Hid (EgW w w6 w.heap.size (w.heap.size + 1) w3.heap.size w5.heap.size S1 S2 (List.replicate 40 false)) :=
    ⟨hA15.below hB6, hA25.below hB6, hA45.below hB6, hA6, HB5.out.trans (hB6.mono HB5.out.size), by omega, by omega, by omega, by omega⟩
  clear hA15 hA25 hA45 hA6 hB6 hS6 hs5 hs3 hs2 hS4 HB2 HB3 HB4 HB5
  generalize w3.heap.size = b6 at HE0 ⊢
  generalize w5.heap.size = b7 at HE0 ⊢
  generalize w.heap.size + 1 = b5 at HE0 ⊢
  go_loopg [8] n (fun gk s8 wr => ∃ (k : Nat) (T : List Bool), k + gk = n ∧ s8 = .int .i64 k ∧ Hid (EgW w wr w.heap.size b5 b6 b7 S1 S2 T) ∧ Hid (∀ y, T.getD y false = true ↔ ∃ x, x < k ∧ Good L a x y))
  case atStart => exact ⟨0, _, by omega, rfl, HE0.out, fun y => by rw [getD_falses]; simp⟩
  case round =>
    clear HE0
    obtain ⟨k, T, hkg, rfl, he, hT⟩ := hrel
    have HRR : Hid (RefIn wr g n L D) := HR.out.below he.out.bel
    have c0 := HRR.out.c0
    by_cases hlt : k < n
    · have c1 := (he.out.all.cell (k := k) (by omega)).1
      have c2 := (he.out.less.cell (k := k) (by omega)).1
      have HHk := HH.out k
      generalize S1.getD k false = r1 at c1 HHk
      generalize S2.getD k false = r2 at c2 HHk
      have HK : Hid (HeldF L a k ↔ (r1 && !r2) = true) := HHk
      clear HHk
      have hskip : Hid ((r1 && !r2) = false → ∀ y, T.getD y false = true ↔ ∃ x, x < k + 1 ∧ Good L a x y) := by
        intro hno y
        rw [hT.out y]
        constructor
        · rintro ⟨x, hx, hg⟩
          exact ⟨x, by omega, hg⟩
        · rintro ⟨x, hx, hg⟩
          by_cases e : x = k
          · subst e
            have := HK.out.1 hg.1
            rw [hno] at this
            simp at this
          · exact ⟨x, by omega, hg⟩
      cases r1
      · go_wp2_with fail
        go_roundg (n - (k + 1))
        case measure => omega
        case rel => exact ⟨k + 1, T, by omega, by go_num, he, hskip.out rfl⟩
      · cases r2
        · have HKH : Hid (HeldF L a k) := HK.out.2 rfl
          clear hskip HK
          go_wp2_with fail
          clear c1 c2
          go_loopg [9] n (fun g2 s9 wy => ∃ (j : Nat) (T' : List Bool), j + g2 = n ∧ s9 = .int .i64 j ∧ Hid (EgW w wy w.heap.size b5 b6 b7 S1 S2 T') ∧ Hid (∀ y, T'.getD y false = true ↔ (∃ x, x < k ∧ Good L a x y) ∨ (y < j ∧ Good L a k y)))
          case atStart => exact ⟨0, T, by omega, rfl, he, fun y => by rw [hT.out y]; simp⟩
          case round =>
            clear he hT c0 HRR
            obtain ⟨j, T', hjg, rfl, he, hT⟩ := hrel
            have HRR : Hid (RefIn wr g n L D) := HR.out.below he.out.bel
            have c0 := HRR.out.c0
            by_cases hjn : j < n
            · have cE := (HRR.out.cE (x := k) (y := j) (by omega) (by omega)).1
              have c2 := (he.out.less.cell (k := j) (by omega)).1
              obtain ⟨cT, fT⟩ := he.out.out.cell (k := j) (by omega)
              have hTl := he.out.out.len
              have hstay : Hid (¬ Good L a k j → ∀ y, T'.getD y false = true ↔ (∃ x, x < k ∧ Good L a x y) ∨ (y < j + 1 ∧ Good L a k y)) := by
                intro hno y
                rw [hT.out y]
                constructor
                · rintro (h | ⟨h1, h2⟩)
                  · exact .inl h
                  · exact .inr ⟨by omega, h2⟩
                · rintro (h | ⟨h1, h2⟩)
                  · exact .inl h
                  · by_cases e : y = j
                    · subst e; exact absurd h2 hno
                    · exact .inr ⟨by omega, h2⟩
              have hput : Hid (Good L a k j → ∀ y, (T'.set j true).getD y false = true ↔ (∃ x, x < k ∧ Good L a x y) ∨ (y < j + 1 ∧ Good L a k y)) := by
                intro hyes y
                rw [getD_set (by omega), Bool.or_eq_true, hT.out y, decide_eq_true_eq]
                constructor
                · rintro ((h | ⟨h1, h2⟩) | h)
                  · exact .inl h
                  · exact .inr ⟨by omega, h2⟩
                  · subst h; exact .inr ⟨by omega, hyes⟩
                · rintro (h | ⟨h1, h2⟩)
                  · exact .inl (.inl h)
                  · by_cases e : y = j
                    · exact .inr e
                    · exact .inl (.inr ⟨by omega, h2⟩)
              generalize hcT : T'.getD j false = rT at cT
              clear hcT hTl
              by_cases hE : (k, j) ∈ L
              · have hE1 : decide ((k, j) ∈ L) = true := by simp [hE]
                rw [hE1] at cE
                have HE : Hid ((k, j) ∈ L) := hE
                clear hE1 hE
                by_cases hja : j = a
                · have hgood : Hid (Good L a k j) := ⟨HKH.out, HE.out, .inl hja⟩
                  subst hja
                  go_wp2_with fail
                  go_roundg (n - (j + 1))
                  case measure => omega
                  case rel => exact ⟨j + 1, _, by omega, by go_num, he.out.set j, hput.out hgood.out⟩
                · have q1 : ((j : Int) == (a : Int)) = false := by rw [beq_eq_false_iff_ne]; omega
                  have q2 : ¬ (j : Int) = (a : Int) := by omega
                  have HJA : Hid (j ≠ a) := hja
                  have HLj : Hid (S2.getD j false = true ↔ Fwd L a j) := HL2.out j
                  generalize S2.getD j false = r2 at c2 HLj
                  clear hja
                  cases r2
                  · have hbad : Hid (¬ Good L a k j) := by
                      rintro ⟨_, _, h | h⟩
                      · exact HJA.out h
                      · have := HLj.out.2 h
                        simp at this
                    go_wp2_with fail
                    go_roundg (n - (j + 1))
                    case measure => omega
                    case rel => exact ⟨j + 1, T', by omega, by go_num, he, hstay.out hbad.out⟩
                  · have hgood : Hid (Good L a k j) := ⟨HKH.out, HE.out, .inr (HLj.out.1 rfl)⟩
                    go_wp2_with fail
                    go_roundg (n - (j + 1))
                    case measure => omega
                    case rel => exact ⟨j + 1, _, by omega, by go_num, he.out.set j, hput.out hgood.out⟩
              · have hE1 : decide ((k, j) ∈ L) = false := by simp [hE]
                rw [hE1] at cE
                have hbad : Hid (¬ Good L a k j) := fun h => hE h.2.1
                clear hE1 hE
                go_wp2_with fail
                go_roundg (n - (j + 1))
                case measure => omega
                case rel => exact ⟨j + 1, T', by omega, by go_num, he, hstay.out hbad.out⟩
            · have hT2 : Hid (∀ y, T'.getD y false = true ↔ ∃ x, x < k + 1 ∧ Good L a x y) := by
                intro y
                rw [hT.out y]
                constructor
                · rintro (⟨x, h1, h2⟩ | ⟨h1, h2⟩)
                  · exact ⟨x, by omega, h2⟩
                  · exact ⟨k, by omega, h2⟩
                · rintro ⟨x, h1, h2⟩
                  by_cases e : x = k
                  · subst e
                    exact .inr ⟨by have := (HRR.out.lt _ h2.2.1).2; omega, h2⟩
                  · exact .inl ⟨x, by omega, h2⟩
              go_wp2_with fail
              go_roundg (n - (k + 1))
              case measure => omega
              case rel => exact ⟨k + 1, T', by omega, by go_num, he, hT2⟩
        · go_wp2_with fail
          go_roundg (n - (k + 1))
          case measure => omega
          case rel => exact ⟨k + 1, T, by omega, by go_num, he, hskip.out rfl⟩
    · obtain rfl : k = n := by omega
      have hout := he.out.out
      have hres := he.out.res
      have hTl := hout.len
      have HB : Hid (Below w.heap.size w wr) := he.out.bel
      have HTF : Hid (∀ y, T.getD y false = true ↔ OnEdge L a y) := fun y => (hT.out y).trans (onEdge_good HRR.out.lt).symm
      go_wp2_with (first
        | (refine wpList_load_arr rfl _ rfl _ rfl _ hout ?_)
        | (refine wpList_store_arr rfl _ _ rfl _ rfl _ _ rfl hres hTl ?_; intro w9 hA9 hG9 hS9))
      refine ⟨rfl, _, results_arr rfl rfl hA9, _, rfl, hTl, HTF.out, ?_⟩
      exact HB.out.trans (hG9.below HB.out.size (fun k hk => by omega))

end Go.Proofs.Ytbddcodljmglfaa
