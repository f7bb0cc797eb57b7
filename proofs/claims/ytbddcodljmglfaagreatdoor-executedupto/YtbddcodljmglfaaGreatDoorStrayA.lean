/- forms.strayPhi. And what follows on it. -/
import Derived.Test.YtbddcodljmglfaaGreatDoorSetFn
import Derived.Test.YtbddcodljmglfaaGreatDoorGraphFn
set_option linter.unusedSimpArgs false
set_option linter.unusedVariables false
namespace Go.Proofs.YtbddcodljmglfaaGreatDoor
open Go.RowKit

/-- The first item of which f is true: its line. -/
def firstBad (f : It → Bool) : List It → Option Nat
  | [] => none
  | y :: r => if f y = true then some y.at_ else firstBad f r
/-- A phi that has other blocks than those ahead, or stands in block 0. -/
def phiBad (L : List (Nat × Nat)) (N : Nat) (y : It) : Bool := match y.it with
  | .phi p => decide (y.blk = 0) || !(p.choices.map (·.1) == aheadTo L y.blk N)
  | .line _ => false
theorem firstBad_lines (L : List (Nat × Nat)) (N k : Nat) : ∀ (ls : List LineG) (n : Nat) (r : List It), firstBad (phiBad L N) (lineIts k n ls ++ r) = firstBad (phiBad L N) r
  | [], n, r => rfl
  | l :: ls, n, r => by
    simp only [lineIts, List.cons_append, firstBad]
    rw [if_neg (by simp [phiBad])]
    exact firstBad_lines L N k ls (n + 1) r

set_option maxRecDepth 100000 in
set_option maxHeartbeats 2000000 in
theorem eqlit_any (w : World) (a : Int) (s : BA) (n b : Int) : Calls Tryz.prog 152 #[.agg #[.int .i64 a, .string s, .int .i64 n], .int .i64 b] w fun e w' => e = .returned (.bool (a == b)) ∧ Below w.heap.size w w' := by
  go_enter Tryz.func152, Tryz.ntmps152
  go_wp2_with fail
  go_ret
  exact ⟨rfl, (Below.refl _ _).alloc (Nat.le_refl _) _⟩

theorem map_beq_cons {cs : List (Nat × Ver)} {is : List Nat} {k : Nat} (h1 : cs.length = is.length) (hall : ∀ j (h : j < cs.length) (h' : j < is.length), cs[j].1 = is[j]) : (cs.map (·.1) == is) = true := by
  rw [beq_iff_eq]
  apply List.ext_getElem
  · simpa using h1
  · intro j hj hj'
    simp at hj
    simp [hall j hj hj']
theorem map_beq_no {cs : List (Nat × Ver)} {is : List Nat} {j : Nat} (h : j < cs.length) (h' : j < is.length) (hne : cs[j].1 ≠ is[j]) : (cs.map (·.1) == is) = false := by
  rw [beq_eq_false_iff_ne]
  intro e
  apply hne
  have := congrArg (·[j]?) e
  simpa [h, h'] using this

set_option maxRecDepth 100000 in
set_option maxHeartbeats 4000000 in
theorem equalFunc_any (w : World) (cv iv : Value) (cs : List (Nat × Ver)) (is : List Nat) (hc : RdT w 163 3 cv cs.length (choiceCells cs)) (hi : RdT w 3 1 iv is.length (nums is)) (h1 : cs.length ≤ 1000) (h2 : is.length ≤ 1000) :
    Calls Tryz.prog 151 #[cv, iv, .func (.func 152) #[] #[]] w fun e w' => e = .returned (.bool (cs.map (·.1) == is)) ∧ Below w.heap.size w w' := by
  have HC : Hid (RdT w 163 3 cv cs.length (choiceCells cs)) := hc
  have HI : Hid (RdT w 3 1 iv is.length (nums is)) := hi
  have HEQ : Hid (∀ W (a : Int) (s : BA) (n b : Int), Calls Tryz.prog 152 #[.agg #[.int .i64 a, .string s, .int .i64 n], .int .i64 b] W fun e w' => e = .returned (.bool (a == b)) ∧ Below W.heap.size W w') := fun W a s n b => eqlit_any W a s n b
  obtain ⟨ao1, cp1, rfl⟩ := hc.form
  obtain ⟨ao2, cp2, rfl⟩ := hi.form
  clear hc hi
  obtain ⟨N, hN⟩ : ∃ N, N = cs.length := ⟨_, rfl⟩
  have HN : Hid (N = cs.length) := hN
  obtain ⟨M, hM⟩ : ∃ M, M = is.length := ⟨_, rfl⟩
  have HM : Hid (M = is.length) := hM
  rw [← hN] at h1 HC ⊢
  rw [← hM] at h2 HI ⊢
  clear hN hM
  by_cases hne : N = M
  · have hne' : ((N : Int) != (M : Int)) = false := by simp; omega
    have HNM : Hid (N = M) := hne
    clear hne
    go_enter Tryz.func151, Tryz.ntmps151
    go_wp2_with fail
    go_loopg [17] N (fun g v17 wr => ∃ k : Nat, k + g = N ∧ v17 = .int .i64 k ∧ Hid (Below w.heap.size w wr) ∧ Hid (∀ j (h : j < cs.length) (h' : j < is.length), j < k → cs[j].1 = is[j]))
    case atStart => exact ⟨0, by omega, rfl, Below.refl _ _, fun j _ _ h => absurd h (by omega)⟩
    case round =>
      obtain ⟨k, hkg, rfl, hbel, hall⟩ := hrel
      by_cases hkN : k < N
      · have hl1 : k < cs.length := HN.out ▸ hkN
        have hl2 : k < is.length := by rw [← HM.out, ← HNM.out]; exact hkN
        obtain ⟨g1, o1, rfl, hg1, hx1⟩ := HC.out.at (by omega)
        obtain ⟨g2, o2, rfl, hg2, hx2⟩ := HI.out.at (by have := HNM.out; omega)
        have d0 : wr.cell? ⟨g1, o1 + k * 3, none⟩ = some (.int .i64 (cs[k].1 : Int)) := (hbel.out.cell (p := ⟨g1, o1 + k * 3, none⟩) hg1).trans (hx1 (k * 3 + 0) _ (by rw [choice_get hl1 (by omega)]; rfl))
        have d1 : wr.cell? ⟨g1, o1 + k * 3 + 1, none⟩ = some (.string cs[k].2.1) := (hbel.out.cell (p := ⟨g1, o1 + k * 3 + 1, none⟩) hg1).trans (by rw [Nat.add_assoc]; exact hx1 (k * 3 + 1) _ (by rw [choice_get hl1 (by omega)]; rfl))
        have d2 : wr.cell? ⟨g1, o1 + k * 3 + 2, none⟩ = some (.int .i64 (cs[k].2.2 : Int)) := (hbel.out.cell (p := ⟨g1, o1 + k * 3 + 2, none⟩) hg1).trans (by rw [Nat.add_assoc]; exact hx1 (k * 3 + 2) _ (by rw [choice_get hl1 (by omega)]; rfl))
        have d3 : ∀ o, (wr.alloc o).cell? ⟨g2, o2 + k, none⟩ = some (.int .i64 (is[k] : Int)) := fun o => ((hbel.out.alloc hbel.out.size o).cell (p := ⟨g2, o2 + k, none⟩) hg2).trans (hx2 k _ (by simp [nums, hl2]))
        have hk1 : (0 : Int) ≤ (k : Int) := by omega
        have hk2 : (k : Int) < (N : Int) := by omega
        have hk3 : (k : Int) < (M : Int) := by have := HNM.out; omega
        have hszr := hbel.out.size
        clear hx1 hx2
        by_cases heq : cs[k].1 = is[k]
        · have HQ : Hid (∀ j (h : j < cs.length) (h' : j < is.length), j < k + 1 → cs[j].1 = is[j]) := fun j h h' hj => by
            rcases Nat.lt_or_eq_of_le (Nat.le_of_lt_succ hj) with h'' | h''
            · exact hall.out j h h' h''
            · subst h''; exact heq
          have hq' : (((cs[k].1 : Nat) : Int) == ((is[k] : Nat) : Int)) = true := by rw [beq_iff_eq]; omega
          generalize cs[k] = cc at *
          generalize is[k] = ii at *
          clear heq
          go_wp2_with (first
            | (go_at_call 152; refine (HEQ.out _ _ _ _ _).mono ?_; rintro e w5 ⟨rfl, hb5⟩; rw [hq']; have HB5 : Hid (Below w.heap.size w w5) := (hbel.out.alloc hszr _).trans (hb5.mono (by simp; omega)); clear hb5))
          go_roundg (N - (k + 1))
          case measure => omega
          case rel => exact ⟨k + 1, by omega, by go_num, HB5, HQ⟩
        · have HQ : Hid ((cs.map (·.1) == is) = false) := map_beq_no hl1 hl2 heq
          have hq' : (((cs[k].1 : Nat) : Int) == ((is[k] : Nat) : Int)) = false := by rw [beq_eq_false_iff_ne]; omega
          generalize cs[k] = cc at *
          generalize is[k] = ii at *
          clear heq
          go_wp2_with (first
            | (go_at_call 152; refine (HEQ.out _ _ _ _ _).mono ?_; rintro e w5 ⟨rfl, hb5⟩; rw [hq']; have HB5 : Hid (Below w.heap.size w w5) := (hbel.out.alloc hszr _).trans (hb5.mono (by simp; omega)); clear hb5))
          go_ret
          exact ⟨by rw [HQ.out]; rfl, HB5.out⟩
      · have HQ : Hid ((cs.map (·.1) == is) = true) := map_beq_cons (k := 0) (by rw [← HN.out, ← HM.out]; exact HNM.out) (fun j h h' => hall.out j h h' (by have := HN.out; omega))
        go_wp2_with fail
        go_ret
        exact ⟨by rw [HQ.out]; rfl, hbel.out⟩
  · have hne' : ((N : Int) != (M : Int)) = true := by simp; omega
    have HQ : Hid ((cs.map (·.1) == is) = false) := by
      show _ = _
      rw [beq_eq_false_iff_ne]
      intro e
      have := congrArg List.length e
      simp at this
      have h3 := HN.out
      have h4 := HM.out
      omega
    clear hne
    go_enter Tryz.func151, Tryz.ntmps151
    go_wp2_with fail
    go_ret
    exact ⟨by rw [HQ.out]; rfl, Below.refl _ _⟩

end Go.Proofs.YtbddcodljmglfaaGreatDoor

namespace Go.Proofs.YtbddcodljmglfaaGreatDoor
open Go.RowKit

set_option maxRecDepth 100000 in
set_option maxHeartbeats 8000000 in
theorem strayPhi_any (w : World) (pb gp m q : Nat) (L : List (Nat × Nat)) (D : List Bool) (av bv : Value) (A : List Ver) (B : List BV) (hP : ProgIn w av bv A B) (hb : BoxIn w pb 52 [av, bv]) (hG : GraphIn w gp m q B.length L D) (hF : ∀ b ∈ B, b.first ≤ 100000 ∧ b.phis.length ≤ 100000 ∧ b.lines.length ≤ 100000) :
    Calls Tryz.prog 118 #[.pointer (some ⟨pb, 0, none⟩), .pointer (some ⟨gp, 0, none⟩)] w fun e w' => (∃ i : Nat, e = .returned (.tuple #[.int .i64 (i : Int), .bool (firstBad (phiBad L B.length) (itsFrom 0 (B.map BV.g))).isSome]) ∧ ∀ k, firstBad (phiBad L B.length) (itsFrom 0 (B.map BV.g)) = some k → i = k) ∧ Below w.heap.size w w' := by
  have HP : Hid (ProgIn w av bv A B) := hP
  have HF : Hid (∀ b ∈ B, b.first ≤ 100000 ∧ b.phis.length ≤ 100000 ∧ b.lines.length ≤ 100000) := hF
  have HPB : Hid (BoxIn w pb 52 [av, bv]) := hb
  have hN := hG.le
  obtain ⟨aoB, cpB, rfl⟩ := hP.rows.form
  obtain ⟨N, hNN⟩ : ∃ N, N = B.length := ⟨_, rfl⟩
  have HNN : Hid (N = B.length) := hNN
  rw [← hNN] at hN HP HPB hG ⊢
  have HAH : Hid (∀ W (b : Nat), Below w.heap.size w W → Calls Tryz.prog 108 #[.pointer (some ⟨gp, 0, none⟩), .int .i64 (b : Int)] W fun e w' => (∃ v, e = .returned v ∧ OwnS w' W.heap.size 3 1 v (aheadTo L b N).length (nums (aheadTo L b N))) ∧ Below W.heap.size W w') := fun W b hb => ahead_any W gp m q N L D (hG.below hb) b
  have hpb : pb < w.heap.size := HPB.out.lt
  have c1 : w.cell? ⟨pb, 1, none⟩ = some (.slice aoB N cpB) := HPB.out.cell rfl
  clear hP hb hF hNN hG
  go_enter Tryz.func118, Tryz.ntmps118
  go_wp2_with fail
  go_loopg [17] N (fun g v17 wr => ∃ (j : Nat), j + g = N ∧ v17 = .int .i64 j ∧ Hid (Below w.heap.size w wr) ∧ Hid (firstBad (phiBad L N) (itsFrom 0 (B.map BV.g)) = firstBad (phiBad L N) (itsFrom j ((B.drop j).map BV.g))))
  case atStart => exact ⟨0, by omega, rfl, Below.refl _ _, rfl⟩
  case round =>
    obtain ⟨j, hjg, rfl, hbel, hed⟩ := hrel
    by_cases hjN : j < N
    · have hlt' : j < B.length := HNN.out ▸ hjN
      obtain ⟨b, hb⟩ : ∃ b, B[j] = b := ⟨_, rfl⟩
      have hmem : b ∈ B := by rw [← hb]; exact List.getElem_mem hlt'
      have hdrop : B.drop j = b :: B.drop (j + 1) := by rw [List.drop_eq_getElem_cons hlt', hb]
      have hst : Hid (firstBad (phiBad L N) (itsFrom 0 (B.map BV.g)) = firstBad (phiBad L N) (phiIts j b.first (b.phis.map (·.p)) ++ (lineIts j (b.first + b.phis.length) (b.lines.map (·.l)) ++ itsFrom (j + 1) ((B.drop (j + 1)).map BV.g)))) := by
        show _ = _
        rw [hed.out, hdrop]
        simp [itsFrom, blkIts, BV.g]
      have hrows : RdT w 109 3 (.slice aoB N cpB) N (cellsB B) := by have := HP.out.rows; rw [← HNN.out] at this; exact this
      obtain ⟨gB, offB, rfl, hgB, hcell⟩ := hrows.at (by omega)
      clear hrows
      have d0 := hcell (j * 3 + 0) _ (by rw [cellsB_get hlt' (by omega), hb]; rfl)
      have d1 := hcell (j * 3 + 1) _ (by rw [cellsB_get hlt' (by omega), hb]; rfl)
      have d2 := hcell (j * 3 + 2) _ (by rw [cellsB_get hlt' (by omega), hb]; rfl)
      have hok := HP.out.blocks b hmem
      obtain ⟨f1, f2, f3⟩ := HF.out b hmem
      obtain ⟨first, phis, lns, pv, blv⟩ := b
      obtain ⟨aoP, cpP, hpv⟩ := hok.phis.1.form
      obtain ⟨aoL, cpL, hblv⟩ := hok.lines.1.form
      simp only at hpv hblv f1 f2 f3 hst
      subst hpv
      subst hblv
      have HOK : Hid (BV.ok w w.heap.size ⟨first, phis, lns, .slice aoP phis.length cpP, .slice aoL lns.length cpL⟩) := hok
      have e0 : wr.cell? ⟨gB, offB + j * 3, none⟩ = some (.int .i64 (first : Int)) := (hbel.out.cell hgB).trans d0
      have e1 : wr.cell? ⟨gB, offB + j * 3 + 1, none⟩ = some (.slice aoP phis.length cpP) := (hbel.out.cell hgB).trans (by rw [Nat.add_assoc]; exact d1)
      have e2 : wr.cell? ⟨gB, offB + j * 3 + 2, none⟩ = some (.slice aoL lns.length cpL) := (hbel.out.cell hgB).trans (by rw [Nat.add_assoc]; exact d2)
      have hj1 : (0 : Int) ≤ (j : Int) := by omega
      have hj2 : (j : Int) < (N : Int) := by omega
      have hszr := hbel.out.size
      clear hb hdrop hed hcell d0 d1 d2 hok
      obtain ⟨Q, hQ'⟩ : ∃ Q, Q = phis.length := ⟨_, rfl⟩
      have HQQ : Hid (Q = phis.length) := hQ'
      have HPN : Hid (RdT w 114 3 (.slice aoP Q cpP) Q (cellsP phis)) := by
        have := HOK.out.phis.1
        rw [hQ']
        exact this
      have HPV : Hid (∀ x ∈ phis, x.ok w) := HOK.out.phi
      rw [← hQ'] at e1 f2 hst
      clear hmem HOK hQ'
      obtain ⟨bb, hbb⟩ : ∃ bb, bb = wr.heap.size := ⟨_, rfl⟩
      have hbbw : w.heap.size ≤ bb := by omega
      have HBB : Hid (bb = wr.heap.size) := hbb
      have HAH1 : Hid (∀ W, Below w.heap.size w W → Calls Tryz.prog 108 #[.pointer (some ⟨gp, 0, none⟩), .int .i64 (j : Int)] W fun e w' => (∃ v, e = .returned v ∧ OwnS w' W.heap.size 3 1 v (aheadTo L j N).length (nums (aheadTo L j N))) ∧ Below W.heap.size W w') := fun W hb => HAH.out W j hb
      have hal := aheadTo_le L j N
      have HPB1 : Hid (∀ y, phiBad L N ⟨j, y, .line ⟨0, noVer, [], 0, []⟩⟩ = false) := fun _ => rfl
      have HPHI : Hid (∀ y ph, phiBad L N ⟨j, y, .phi ph⟩ = (decide (j = 0) || !(ph.choices.map (·.1) == aheadTo L j N))) := fun _ _ => rfl
      generalize aheadTo L j N = AH at *
      go_wp2_with (first
        | (go_at_call 108; refine (HAH1.out _ (hbel.out.alloc hszr _)).mono ?_; rintro e w2 ⟨⟨va, rfl, hva⟩, hb2⟩; obtain ⟨aoA, cpA, rfl⟩ := hva.len; have HVA : Hid (RdT w2 3 1 (.slice aoA AH.length cpA) AH.length (nums AH)) := hva.rdT; have HB2 : Hid (Below w.heap.size w w2) := (hbel.out.alloc hszr _).trans (hb2.mono (by simp; omega)); have HX2 : Hid (BoxIn w2 bb 109 [.int .i64 (first : Int), .slice aoP Q cpP, .slice aoL lns.length cpL]) := (by rw [HBB.out]; exact (BoxIn.new wr 109 [.int .i64 (first : Int), .slice aoP Q cpP, .slice aoL lns.length cpL]).below hb2); have c2 : w2.cell? ⟨wr.heap.size, 1, none⟩ = some (.slice aoP Q cpP) := (by rw [← HBB.out]; exact HX2.out.cell rfl); clear hva hb2))
      rw [← hbb]
      clear hbb c2
      go_loopg [28] Q (fun g v28 wr2 => ∃ (i : Nat), i + g = Q ∧ v28 = .int .i64 i ∧ Hid (Below w2.heap.size w2 wr2) ∧ Hid (firstBad (phiBad L N) (itsFrom 0 (B.map BV.g)) = firstBad (phiBad L N) (phiIts j (first + i) ((phis.drop i).map (·.p)) ++ (lineIts j (first + Q) (lns.map (·.l)) ++ itsFrom (j + 1) ((B.drop (j + 1)).map BV.g)))))
      case atStart => exact ⟨0, by omega, rfl, Below.refl _ _, hst⟩
      case round =>
        obtain ⟨i, hig, rfl, hbel2, hlb⟩ := hrel
        clear hst
        have hs2 := hbel2.out.size
        have hBW : Hid (Below w.heap.size w wr) := HB2.out.trans (hbel2.out.mono HB2.out.size)
        by_cases hiQ : i < Q
        · have hltP : i < phis.length := HQQ.out ▸ hiQ
          obtain ⟨x, hx⟩ : ∃ x, phis[i] = x := ⟨_, rfl⟩
          have hxm : x ∈ phis := by rw [← hx]; exact List.getElem_mem hltP
          have hdl : phis.drop i = x :: phis.drop (i + 1) := by rw [List.drop_eq_getElem_cons hltP, hx]
          have hstl : Hid (firstBad (phiBad L N) (itsFrom 0 (B.map BV.g)) = if (decide (j = 0) || !(x.p.choices.map (·.1) == AH)) = true then some (first + i) else firstBad (phiBad L N) (phiIts j (first + (i + 1)) ((phis.drop (i + 1)).map (·.p)) ++ (lineIts j (first + Q) (lns.map (·.l)) ++ itsFrom (j + 1) ((B.drop (j + 1)).map BV.g)))) := by
            show _ = _
            rw [hlb.out, hdl]
            show firstBad (phiBad L N) (⟨j, first + i, .phi x.p⟩ :: _) = _
            rw [firstBad, HPHI.out]
            rfl
          obtain ⟨gP, offP, rfl, hgP, hcellP⟩ := HPN.out.at (by omega)
          have hxo := HPV.out x hxm
          have hc : ∀ t, t < 3 → ∀ u, x.cells[t]? = some u → wr.cell? ⟨gP, offP + i * 3 + t, none⟩ = some u := fun t ht u hu => (hBW.out.cell (p := ⟨gP, offP + i * 3 + t, none⟩) hgP).trans (by rw [Nat.add_assoc]; exact hcellP (i * 3 + t) u (by rw [cellsP_get hltP ht, hx]; exact hu))
          obtain ⟨ph, cv⟩ := x
          obtain ⟨aoC, cpC, hcv⟩ := hxo.1.form
          have h41 := hxo.2
          have HCH : Hid (RdT w 163 3 cv ph.choices.length (choiceCells ph.choices)) := hxo.1
          simp only at hcv hstl h41
          subst hcv
          have g0 := hc 0 (by omega) _ rfl
          have g1 := hc 1 (by omega) _ rfl
          have g2 := hc 2 (by omega) _ rfl
          rw [Nat.add_zero] at g0
          have hi1 : (0 : Int) ≤ (i : Int) := by omega
          have hi2 : (i : Int) < (Q : Int) := by omega
          simp only at g0 g1 g2
          have HPA : Hid (∀ W, Below wr.heap.size wr W → Calls Tryz.prog 149 #[.pointer (some ⟨bb, 0, none⟩), .int .i64 (i : Int)] W fun e w' => e = .returned (.int .i64 ((first + i : Nat) : Int)) ∧ ∃ n, w' = W.drewN n) := fun W hW => phiAt_any W bb first i _ _ ((HX2.out.below hbel2.out).below hW) (by omega) (by omega)
          have HEF : Hid (∀ W, Below wr.heap.size wr W → Calls Tryz.prog 151 #[.slice aoC ph.choices.length cpC, .slice aoA AH.length cpA, .func (.func 152) #[] #[]] W fun e w' => e = .returned (.bool (ph.choices.map (·.1) == AH)) ∧ Below W.heap.size W w') := fun W hW => equalFunc_any W _ _ ph.choices AH ((HCH.out.below hBW.out).below hW) ((HVA.out.below hbel2.out).below hW) (by omega) (by omega)
          clear hx hdl hlb hcellP hxo hc hxm
          generalize (ph.choices.map (·.1) == AH) = ev at *
          have hszw := hBW.out.size
          by_cases hbad : (decide (j = 0) || !ev) = true
          · rw [if_pos hbad] at hstl
            by_cases hj0 : j = 0
            · have hj0' : ((j : Int) == 0) = true := by rw [beq_iff_eq]; omega
              clear hbad hj0
              go_wp2_with (first
                | (go_at_call 151; refine (HEF.out _ ((Below.refl _ _).alloc (Nat.le_refl _) _)).mono ?_; rintro e w5 ⟨rfl, hb5⟩; have HB5 : Hid (Below wr.heap.size wr w5) := ((Below.refl _ _).alloc (Nat.le_refl _) _).trans (hb5.mono (by simp)); clear hb5)
                | (go_at_call 149; refine (HPA.out _ HB5.out).mono ?_; rintro e w6 ⟨rfl, n6, rfl⟩))
              go_ret2
              exact ⟨⟨first + i, by rw [hstl.out]; rfl, fun k h => by rw [hstl.out] at h; injection h⟩, below_drewN (hBW.out.trans (HB5.out.mono hszw)) _⟩
            · have hj0' : ((j : Int) == 0) = false := by rw [beq_eq_false_iff_ne]; omega
              obtain rfl : ev = false := by
                cases ev with
                | false => rfl
                | true => simp [hj0] at hbad
              clear hbad hj0
              go_wp2_with (first
                | (go_at_call 151; refine (HEF.out _ ((Below.refl _ _).alloc (Nat.le_refl _) _)).mono ?_; rintro e w5 ⟨rfl, hb5⟩; have HB5 : Hid (Below wr.heap.size wr w5) := ((Below.refl _ _).alloc (Nat.le_refl _) _).trans (hb5.mono (by simp)); clear hb5)
                | (go_at_call 149; refine (HPA.out _ HB5.out).mono ?_; rintro e w6 ⟨rfl, n6, rfl⟩))
              go_ret2
              exact ⟨⟨first + i, by rw [hstl.out]; rfl, fun k h => by rw [hstl.out] at h; injection h⟩, below_drewN (hBW.out.trans (HB5.out.mono hszw)) _⟩
          · rw [if_neg hbad] at hstl
            have hj0 : ¬ j = 0 := fun h => hbad (by simp [h])
            have hj0' : ((j : Int) == 0) = false := by rw [beq_eq_false_iff_ne]; omega
            obtain rfl : ev = true := by
              cases ev with
              | true => rfl
              | false => exact absurd (by simp) hbad
            clear hbad hj0
            go_wp2_with (first
              | (go_at_call 151; refine (HEF.out _ ((Below.refl _ _).alloc (Nat.le_refl _) _)).mono ?_; rintro e w5 ⟨rfl, hb5⟩; have HB5 : Hid (Below wr.heap.size wr w5) := ((Below.refl _ _).alloc (Nat.le_refl _) _).trans (hb5.mono (by simp)); clear hb5))
            go_roundg (Q - (i + 1))
            case measure => omega
            case rel => exact ⟨i + 1, by omega, by go_num, hbel2.out.trans (HB5.out.mono hs2), hstl⟩
        · have hend : Hid (firstBad (phiBad L N) (itsFrom 0 (B.map BV.g)) = firstBad (phiBad L N) (itsFrom (j + 1) ((B.drop (j + 1)).map BV.g))) := by
            show _ = _
            rw [hlb.out, List.drop_eq_nil_of_le (by have := HQQ.out; omega)]
            show firstBad (phiBad L N) (lineIts j (first + Q) (lns.map (·.l)) ++ _) = _
            rw [firstBad_lines]
          go_wp2_with fail
          go_roundg (N - (j + 1))
          case measure => omega
          case rel => exact ⟨j + 1, by omega, by go_num, hBW, hend⟩
    · have hend : Hid (firstBad (phiBad L N) (itsFrom 0 (B.map BV.g)) = none) := by
        show _ = _
        rw [hed.out, List.drop_eq_nil_of_le (by have := HNN.out; omega)]
        rfl
      go_wp2_with fail
      go_ret2
      exact ⟨⟨0, by rw [hend.out]; rfl, fun k h => by rw [hend.out] at h; cases h⟩, hbel.out⟩

end Go.Proofs.YtbddcodljmglfaaGreatDoor

namespace Go.Proofs.YtbddcodljmglfaaGreatDoor
open Go.RowKit

/-- An item that takes what it may not, in a block that is reached. -/
def useBad (V : List (Ver × (Nat × Nat))) (H : Nat → Nat → Bool) (y : It) : Bool := H 0 y.blk && match y.it with
  | .phi p => p.choices.any fun c => H 0 c.1 && !behindB V H c.2 c.1
  | .line l => l.takes.any fun v => !atB V H v y.blk y.at_
theorem firstBad_away {V : List (Ver × (Nat × Nat))} {H : Nat → Nat → Bool} {k : Nat} (h : H 0 k = false) : ∀ (l r : List It), (∀ y ∈ l, y.blk = k) → firstBad (useBad V H) (l ++ r) = firstBad (useBad V H) r
  | [], r, _ => rfl
  | y :: l, r, hl => by
    simp only [List.cons_append, firstBad]
    have hy := hl y (by simp)
    rw [if_neg (by simp [useBad, hy, h])]
    exact firstBad_away h l r (fun z hz => hl z (by simp [hz]))
theorem phiIts_blk (k : Nat) : ∀ (L : List PhiG) (n : Nat), ∀ y ∈ phiIts k n L, y.blk = k
  | [], n, y, hy => by simp [phiIts] at hy
  | a :: L, n, y, hy => by
    simp only [phiIts] at hy
    rcases List.mem_cons.1 hy with rfl | hy
    · rfl
    · exact phiIts_blk k L (n + 1) y hy
theorem lineIts_blk (k : Nat) : ∀ (L : List LineG) (n : Nat), ∀ y ∈ lineIts k n L, y.blk = k
  | [], n, y, hy => by simp [lineIts] at hy
  | a :: L, n, y, hy => by
    simp only [lineIts] at hy
    rcases List.mem_cons.1 hy with rfl | hy
    · rfl
    · exact lineIts_blk k L (n + 1) y hy

set_option maxRecDepth 100000 in
set_option maxHeartbeats 8000000 in
theorem strayUse_any (w : World) (pb gp m q sm : Nat) (L : List (Nat × Nat)) (D : List Bool) (V : List (Ver × (Nat × Nat))) (av bv : Value) (A : List Ver) (B : List BV) (hP : ProgIn w av bv A B) (hb : BoxIn w pb 52 [av, bv]) (hG : GraphIn w gp m q B.length L D) (hM : PMap w sm V) (hV : ∀ v p, findP V v = some p → p.1 < B.length) (hF : ∀ b ∈ B, b.first ≤ 100000 ∧ b.phis.length ≤ 100000 ∧ b.lines.length ≤ 100000) (hch : ∀ b ∈ B, ∀ x ∈ b.phis, ∀ c ∈ x.p.choices, c.1 < B.length) :
    Calls Tryz.prog 119 #[.pointer (some ⟨pb, 0, none⟩), .pointer (some ⟨gp, 0, none⟩), .map (some sm)] w fun e w' => ∃ H : Nat → Nat → Bool, (∀ a c, a < B.length → c < B.length → (H a c = true ↔ HeldF L a c)) ∧ (∃ i : Nat, e = .returned (.tuple #[.int .i64 (i : Int), .bool (firstBad (useBad V H) (itsFrom 0 (B.map BV.g))).isSome]) ∧ ∀ k, firstBad (useBad V H) (itsFrom 0 (B.map BV.g)) = some k → i = k) ∧ Below w.heap.size w w' := by
  have HP : Hid (ProgIn w av bv A B) := hP
  have HF : Hid (∀ b ∈ B, b.first ≤ 100000 ∧ b.phis.length ≤ 100000 ∧ b.lines.length ≤ 100000) := hF
  have HPB : Hid (BoxIn w pb 52 [av, bv]) := hb
  have hN := hG.le
  have hN1 := hG.pos
  obtain ⟨aoB, cpB, rfl⟩ := hP.rows.form
  obtain ⟨N, hNN⟩ : ∃ N, N = B.length := ⟨_, rfl⟩
  have HNN : Hid (N = B.length) := hNN
  rw [← hNN] at hN hN1 HP HPB hG hV hch ⊢
  have HCH : Hid (∀ b ∈ B, ∀ x ∈ b.phis, ∀ c ∈ x.p.choices, c.1 < N) := hch
  have HV : Hid (∀ v p, findP V v = some p → p.1 < N) := hV
  have HM : Hid (PMap w sm V) := hM
  have HAO : Hid (Calls Tryz.prog 153 #[.pointer (some ⟨gp, 0, none⟩)] w fun e w' => ∃ (hh : Nat) (gs : List Nat) (H : Nat → Nat → Bool), e = .returned (.slice (some ⟨hh, 0, none⟩) N N) ∧ TabIn w' hh N N gs H (fun i c => HeldF L (i : Int) c) ∧ Below w.heap.size w w') := allOver_any w gp m q N L D hG
  have hpb : pb < w.heap.size := HPB.out.lt
  clear hP hb hF hNN hG hV hch hM
  go_enter Tryz.func119, Tryz.ntmps119
  go_wp2_with (first
    | (go_at_call 153; refine Calls.mono HAO.out ?_; rintro e w1 ⟨hh, gs, H, rfl, htab, hb1⟩; have HT1 : Hid (TabIn w1 hh N N gs H (fun i c => HeldF L (i : Int) c)) := htab; have HB1 : Hid (Below w.heap.size w w1) := hb1; have c1 : w1.cell? ⟨pb, 1, none⟩ = some (.slice aoB N cpB) := (HPB.out.below hb1).cell rfl; clear htab hb1))
  have HFIN : Hid (∀ a c : Nat, a < N → c < N → (H a c = true ↔ HeldF L (a : Int) c)) := fun a c ha hc => HT1.out.tells a c ha hc
  have HTC : Hid (∀ W (a b : Nat), Below w1.heap.size w1 W → a < N → b < N → ∃ g, W.cell? ⟨hh, a, none⟩ = some (.slice (some ⟨g, 0, none⟩) N N) ∧ W.cell? ⟨g, b, none⟩ = some (.bool (H a b))) := fun W a b hb ha hb' => tab_cells HT1.out hb ha hb'
  have HCB : Hid (∀ W (v : Ver) (b : Nat), Below w1.heap.size w1 W → b < N → Calls Tryz.prog 154 #[.map (some sm), .agg #[.string v.1, .int .i64 (v.2 : Int)], .int .i64 (b : Int), .slice (some ⟨hh, 0, none⟩) N N] W fun e w' => e = .returned (.bool (behindB V H v b)) ∧ Below W.heap.size W w') := fun W v b hb hbn => cbehind_any W sm V v b hh N gs H _ ((HM.out.below HB1.out).below hb) (HT1.out.of_blocks hb) hbn hN (HV.out v)
  have HCA : Hid (∀ W (v : Ver) (b a : Nat), Below w1.heap.size w1 W → b < N → Calls Tryz.prog 155 #[.map (some sm), .agg #[.string v.1, .int .i64 (v.2 : Int)], .agg #[.int .i64 (b : Int), .int .i64 (a : Int)], .slice (some ⟨hh, 0, none⟩) N N] W fun e w' => e = .returned (.bool (atB V H v b a)) ∧ Below W.heap.size W w') := fun W v b a hb hbn => cat_any W sm V v b a hh N gs H _ ((HM.out.below HB1.out).below hb) (HT1.out.of_blocks hb) hbn hN (HV.out v)
  clear HAO HM HV HT1
  go_loopg [27] N (fun g v27 wr => ∃ (j : Nat), j + g = N ∧ v27 = .int .i64 j ∧ Hid (Below w1.heap.size w1 wr) ∧ Hid (firstBad (useBad V H) (itsFrom 0 (B.map BV.g)) = firstBad (useBad V H) (itsFrom j ((B.drop j).map BV.g))))
  case atStart => exact ⟨0, by omega, rfl, Below.refl _ _, rfl⟩
  case round =>
    obtain ⟨j, hjg, rfl, hbel1, hed⟩ := hrel
    have hbel : Hid (Below w.heap.size w wr) := HB1.out.trans (hbel1.out.mono HB1.out.size)
    by_cases hjN : j < N
    · have hlt' : j < B.length := HNN.out ▸ hjN
      obtain ⟨b, hb⟩ : ∃ b, B[j] = b := ⟨_, rfl⟩
      have hmem : b ∈ B := by rw [← hb]; exact List.getElem_mem hlt'
      have hdrop : B.drop j = b :: B.drop (j + 1) := by rw [List.drop_eq_getElem_cons hlt', hb]
      have hst : Hid (firstBad (useBad V H) (itsFrom 0 (B.map BV.g)) = firstBad (useBad V H) (phiIts j b.first (b.phis.map (·.p)) ++ (lineIts j (b.first + b.phis.length) (b.lines.map (·.l)) ++ itsFrom (j + 1) ((B.drop (j + 1)).map BV.g)))) := by
        show _ = _
        rw [hed.out, hdrop]
        simp [itsFrom, blkIts, BV.g]
      have hrows : RdT w 109 3 (.slice aoB N cpB) N (cellsB B) := by have := HP.out.rows; rw [← HNN.out] at this; exact this
      obtain ⟨gB, offB, rfl, hgB, hcell⟩ := hrows.at (by omega)
      clear hrows
      have d0 := hcell (j * 3 + 0) _ (by rw [cellsB_get hlt' (by omega), hb]; rfl)
      have d1 := hcell (j * 3 + 1) _ (by rw [cellsB_get hlt' (by omega), hb]; rfl)
      have d2 := hcell (j * 3 + 2) _ (by rw [cellsB_get hlt' (by omega), hb]; rfl)
      have hok := HP.out.blocks b hmem
      have hchb := HCH.out b hmem
      obtain ⟨f1, f2, f3⟩ := HF.out b hmem
      obtain ⟨first, phis, lns, pv, blv⟩ := b
      obtain ⟨aoP, cpP, hpv⟩ := hok.phis.1.form
      obtain ⟨aoL, cpL, hblv⟩ := hok.lines.1.form
      simp only at hpv hblv f1 f2 f3 hst hchb
      subst hpv
      subst hblv
      have HCHB : Hid (∀ x ∈ phis, ∀ c ∈ x.p.choices, c.1 < N) := hchb
      have HOK : Hid (BV.ok w w.heap.size ⟨first, phis, lns, .slice aoP phis.length cpP, .slice aoL lns.length cpL⟩) := hok
      have e0 : wr.cell? ⟨gB, offB + j * 3, none⟩ = some (.int .i64 (first : Int)) := (hbel.out.cell hgB).trans d0
      have e1 : wr.cell? ⟨gB, offB + j * 3 + 1, none⟩ = some (.slice aoP phis.length cpP) := (hbel.out.cell hgB).trans (by rw [Nat.add_assoc]; exact d1)
      have e2 : wr.cell? ⟨gB, offB + j * 3 + 2, none⟩ = some (.slice aoL lns.length cpL) := (hbel.out.cell hgB).trans (by rw [Nat.add_assoc]; exact d2)
      have hj1 : (0 : Int) ≤ (j : Int) := by omega
      have hj2 : (j : Int) < (N : Int) := by omega
      have hszr := hbel1.out.size
      have h0N : (0 : Int) < (N : Int) := by omega
      have h0N' : 0 < N := by omega
      clear hb hdrop hed hcell d0 d1 d2 hok hchb
      obtain ⟨M, hM'⟩ : ∃ M, M = lns.length := ⟨_, rfl⟩
      have HMM : Hid (M = lns.length) := hM'
      obtain ⟨Q, hQ'⟩ : ∃ Q, Q = phis.length := ⟨_, rfl⟩
      have HQQ : Hid (Q = phis.length) := hQ'
      have HLN : Hid (RdT w 117 6 (.slice aoL M cpL) M (cellsL lns)) := by
        have := HOK.out.lines.1
        rw [hM']
        exact this
      have HPN : Hid (RdT w 114 3 (.slice aoP Q cpP) Q (cellsP phis)) := by
        have := HOK.out.phis.1
        rw [hQ']
        exact this
      have HLV : Hid (∀ x ∈ lns, x.ok w) := HOK.out.line
      have HPV : Hid (∀ x ∈ phis, x.ok w) := HOK.out.phi
      rw [← hM'] at e2 f3
      rw [← hQ'] at e1 f2 hst
      clear hmem HOK hM' hQ'
      obtain ⟨bb, hbb⟩ : ∃ bb, bb = wr.heap.size := ⟨_, rfl⟩
      have HBB : Hid (bb = wr.heap.size) := hbb
      obtain ⟨g0j, t1, t2⟩ := HTC.out (wr.alloc (.cells #[.int .i64 (first : Int), .slice aoP Q cpP, .slice aoL M cpL] 109)) 0 j (hbel1.out.alloc hszr _) (by omega) hjN
      cases hHj : H 0 j with
      | false =>
        rw [hHj] at t2
        have hend : Hid (firstBad (useBad V H) (itsFrom 0 (B.map BV.g)) = firstBad (useBad V H) (itsFrom (j + 1) ((B.drop (j + 1)).map BV.g))) := by
          show _ = _
          rw [hst.out, firstBad_away hHj _ _ (phiIts_blk j _ _), firstBad_away hHj _ _ (lineIts_blk j _ _)]
        clear hHj hst
        go_wp2_with fail
        go_roundg (N - (j + 1))
        case measure => omega
        case rel => exact ⟨j + 1, by omega, by go_num, hbel1.out.alloc hszr _, hend⟩
      | true =>
        rw [hHj] at t2
        have HHJ : Hid (H 0 j = true) := hHj
        clear hHj
        go_wp2_with fail
        rw [← hbb]
        clear hbb t1 t2
        go_loopg [42] Q (fun g v42 wr2 => ∃ (i : Nat), i + g = Q ∧ v42 = .int .i64 i ∧ Hid (Below w1.heap.size w1 wr2) ∧ Hid (BoxIn wr2 bb 109 [.int .i64 (first : Int), .slice aoP Q cpP, .slice aoL M cpL]) ∧ Hid (firstBad (useBad V H) (itsFrom 0 (B.map BV.g)) = firstBad (useBad V H) (phiIts j (first + i) ((phis.drop i).map (·.p)) ++ (lineIts j (first + Q) (lns.map (·.l)) ++ itsFrom (j + 1) ((B.drop (j + 1)).map BV.g)))))
        case atStart => exact ⟨0, by omega, rfl, hbel1.out.alloc hszr _, (by rw [HBB.out]; exact BoxIn.new _ _ [_, _, _]), hst⟩
        case round =>
          obtain ⟨i, hig, rfl, hbel2, hbx, hlb⟩ := hrel
          clear hst
          have hs2 := hbel2.out.size
          have hBW : Hid (Below w.heap.size w wr) := HB1.out.trans (hbel2.out.mono HB1.out.size)
          by_cases hiQ : i < Q
          · have hltP : i < phis.length := HQQ.out ▸ hiQ
            obtain ⟨x, hx⟩ : ∃ x, phis[i] = x := ⟨_, rfl⟩
            have hxm : x ∈ phis := by rw [← hx]; exact List.getElem_mem hltP
            have hdl : phis.drop i = x :: phis.drop (i + 1) := by rw [List.drop_eq_getElem_cons hltP, hx]
            have hstl : Hid (firstBad (useBad V H) (itsFrom 0 (B.map BV.g)) = if (x.p.choices.any fun c => H 0 c.1 && !behindB V H c.2 c.1) = true then some (first + i) else firstBad (useBad V H) (phiIts j (first + (i + 1)) ((phis.drop (i + 1)).map (·.p)) ++ (lineIts j (first + Q) (lns.map (·.l)) ++ itsFrom (j + 1) ((B.drop (j + 1)).map BV.g)))) := by
              show _ = _
              rw [hlb.out, hdl]
              show firstBad (useBad V H) (⟨j, first + i, .phi x.p⟩ :: _) = _
              rw [firstBad]
              simp only [useBad, HHJ.out, Bool.true_and]
              rfl
            obtain ⟨gP, offP, rfl, hgP, hcellP⟩ := HPN.out.at (by omega)
            have hxo := HPV.out x hxm
            have hxc := HCHB.out x hxm
            have hc : ∀ t, t < 3 → ∀ u, x.cells[t]? = some u → wr.cell? ⟨gP, offP + i * 3 + t, none⟩ = some u := fun t ht u hu => (hBW.out.cell (p := ⟨gP, offP + i * 3 + t, none⟩) hgP).trans (by rw [Nat.add_assoc]; exact hcellP (i * 3 + t) u (by rw [cellsP_get hltP ht, hx]; exact hu))
            obtain ⟨ph, cv⟩ := x
            obtain ⟨aoC, cpC, hcv⟩ := hxo.1.form
            have h41 := hxo.2
            have HCC : Hid (RdT w 163 3 cv ph.choices.length (choiceCells ph.choices)) := hxo.1
            simp only at hcv hstl h41 hxc
            subst hcv
            have HXC : Hid (∀ c ∈ ph.choices, c.1 < N) := hxc
            have g0 := hc 0 (by omega) _ rfl
            have g1 := hc 1 (by omega) _ rfl
            have g2 := hc 2 (by omega) _ rfl
            rw [Nat.add_zero] at g0
            have hi1 : (0 : Int) ≤ (i : Int) := by omega
            have hi2 : (i : Int) < (Q : Int) := by omega
            simp only at g0 g1 g2
            obtain ⟨C, hC⟩ : ∃ C, C = ph.choices.length := ⟨_, rfl⟩
            have HC' : Hid (C = ph.choices.length) := hC
            rw [← hC] at HCC g2 h41
            clear hx hdl hlb hcellP hxo hc hxm hxc hC
            go_wp2_with fail
            go_loopg [50] C (fun g v50 wr3 => ∃ (k : Nat), k + g = C ∧ v50 = .int .i64 k ∧ Hid (Below w1.heap.size w1 wr3) ∧ Hid (BoxIn wr3 bb 109 [.int .i64 (first : Int), .slice (some ⟨gP, offP, none⟩) Q cpP, .slice aoL M cpL]) ∧ Hid (∀ t c, t < k → ph.choices[t]? = some c → (H 0 c.1 && !behindB V H c.2 c.1) = false))
            case atStart => exact ⟨0, by omega, rfl, hbel2.out.alloc hs2 _, hbx.out.below ((Below.refl _ _).alloc (Nat.le_refl _) _), fun t c ht => absurd ht (by omega)⟩
            case round =>
              clear hbel2 hbx hs2 hBW g0 g1 g2
              obtain ⟨k, hkg, rfl, hbel3, hbx3, hall⟩ := hrel
              have hs3 := hbel3.out.size
              have hBW3 : Hid (Below w.heap.size w wr) := HB1.out.trans (hbel3.out.mono HB1.out.size)
              by_cases hkC : k < C
              · have hltC : k < ph.choices.length := HC'.out ▸ hkC
                obtain ⟨c, hcc⟩ : ∃ c, ph.choices[k] = c := ⟨_, rfl⟩
                have hcm : c ∈ ph.choices := by rw [← hcc]; exact List.getElem_mem hltC
                have hcN := HXC.out c hcm
                obtain ⟨gC, offC, rfl, hgC, hcellC⟩ := HCC.out.at (by omega)
                have d0 : wr.cell? ⟨gC, offC + k * 3, none⟩ = some (.int .i64 (c.1 : Int)) := (hBW3.out.cell (p := ⟨gC, offC + k * 3, none⟩) hgC).trans (hcellC (k * 3 + 0) _ (by rw [choice_get hltC (by omega), hcc]; rfl))
                have d1 : wr.cell? ⟨gC, offC + k * 3 + 1, none⟩ = some (.string c.2.1) := (hBW3.out.cell (p := ⟨gC, offC + k * 3 + 1, none⟩) hgC).trans (by rw [Nat.add_assoc]; exact hcellC (k * 3 + 1) _ (by rw [choice_get hltC (by omega), hcc]; rfl))
                have d2 : wr.cell? ⟨gC, offC + k * 3 + 2, none⟩ = some (.int .i64 (c.2.2 : Int)) := (hBW3.out.cell (p := ⟨gC, offC + k * 3 + 2, none⟩) hgC).trans (by rw [Nat.add_assoc]; exact hcellC (k * 3 + 2) _ (by rw [choice_get hltC (by omega), hcc]; rfl))
                have hk1 : (0 : Int) ≤ (k : Int) := by omega
                have hk2 : (k : Int) < (C : Int) := by omega
                have hcN' : (c.1 : Int) < (N : Int) := by omega
                have HKC : Hid (ph.choices[k]? = some c) := by show _ = _; rw [List.getElem?_eq_getElem hltC, hcc]
                have HALL : Hid ((H 0 c.1 && !behindB V H c.2 c.1) = false → ∀ t c, t < k + 1 → ph.choices[t]? = some c → (H 0 c.1 && !behindB V H c.2 c.1) = false) := fun hf t c' ht hc' => by
                  rcases Nat.lt_or_eq_of_le (Nat.le_of_lt_succ ht) with h' | h'
                  · exact hall.out t c' h' hc'
                  · subst h'; rw [HKC.out] at hc'; injection hc' with hc'; subst hc'; exact hf
                obtain ⟨g0c, t1, t2⟩ := HTC.out (wr.alloc (.cells #[.int .i64 (c.1 : Int), .string c.2.1, .int .i64 (c.2.2 : Int)] 163)) 0 c.1 (hbel3.out.alloc hs3 _) (by omega) hcN
                have hbelA : Hid (Below w1.heap.size w1 (wr.alloc (.cells #[.int .i64 (c.1 : Int), .string c.2.1, .int .i64 (c.2.2 : Int)] 163))) := hbel3.out.alloc hs3 _
                have hbxA : Hid (BoxIn (wr.alloc (.cells #[.int .i64 (c.1 : Int), .string c.2.1, .int .i64 (c.2.2 : Int)] 163)) bb 109 [.int .i64 (first : Int), .slice (some ⟨gP, offP, none⟩) Q cpP, .slice aoL M cpL]) := hbx3.out.below ((Below.refl _ _).alloc (Nat.le_refl _) _)
                clear hcc hcellC hcm
                have HXB : Hid (BoxIn (wr.alloc (.cells #[.int .i64 (c.1 : Int), .string c.2.1, .int .i64 (c.2.2 : Int)] 163)) wr.heap.size 163 [.int .i64 (c.1 : Int), .string c.2.1, .int .i64 (c.2.2 : Int)]) := BoxIn.new wr 163 [.int .i64 (c.1 : Int), .string c.2.1, .int .i64 (c.2.2 : Int)]
                obtain ⟨bc, hbc⟩ : ∃ bc, bc = wr.heap.size := ⟨_, rfl⟩
                go_wp2_with fail
                rw [← hbc] at HXB ⊢
                clear hbc d0 d1 d2
                generalize wr.alloc (.cells #[.int .i64 (c.1 : Int), .string c.2.1, .int .i64 (c.2.2 : Int)] 163) = Wc at *
                have b0 : Wc.cell? ⟨bc, 0, none⟩ = some (.int .i64 (c.1 : Int)) := HXB.out.cell rfl
                have b1 : Wc.cell? ⟨bc, 1, none⟩ = some (.string c.2.1) := HXB.out.cell rfl
                have b2 : Wc.cell? ⟨bc, 2, none⟩ = some (.int .i64 (c.2.2 : Int)) := HXB.out.cell rfl
                cases hH0 : H 0 c.1 with
                | false =>
                  rw [hH0] at t2
                  have hok' : Hid (∀ t c, t < k + 1 → ph.choices[t]? = some c → (H 0 c.1 && !behindB V H c.2 c.1) = false) := HALL.out (by rw [hH0]; rfl)
                  have T1 : ∀ n, (Wc.drewN n).cell? ⟨hh, 0, none⟩ = some (.slice (some ⟨g0c, 0, none⟩) N N) := fun _ => t1
                  have T2 : ∀ n, (Wc.drewN n).cell? ⟨g0c, c.1, none⟩ = some (.bool false) := fun _ => t2
                  have T3 : ∀ n, (Wc.drewN n).cell? ⟨bc, 0, none⟩ = some (.int .i64 (c.1 : Int)) := fun _ => b0
                  clear hH0 HALL
                  go_quiet (fail)
                  go_wp2_with fail
                  go_roundg (C - (k + 1))
                  case measure => omega
                  case rel => exact ⟨k + 1, by omega, by go_num, below_drewN hbelA.out _, hbxA.out.below (below_drewN (Below.refl _ _) _), hok'⟩
                | true =>
                  rw [hH0] at t2
                  have HKEEP : Hid (∀ w', Below Wc.heap.size Wc w' → w'.cell? ⟨hh, 0, none⟩ = some (.slice (some ⟨g0c, 0, none⟩) N N) ∧ w'.cell? ⟨g0c, c.1, none⟩ = some (.bool true) ∧ w'.cell? ⟨bc, 0, none⟩ = some (.int .i64 (c.1 : Int)) ∧ w'.cell? ⟨bc, 1, none⟩ = some (.string c.2.1) ∧ w'.cell? ⟨bc, 2, none⟩ = some (.int .i64 (c.2.2 : Int))) := fun w' hb => ⟨(World.cell?_of_block (hb.block _ (World.block_lt_of_cell? Wc _ t1))).trans t1, (World.cell?_of_block (hb.block _ (World.block_lt_of_cell? Wc _ t2))).trans t2, (HXB.out.below hb).cell rfl, (HXB.out.below hb).cell rfl, (HXB.out.below hb).cell rfl⟩
                  have HCB1 : Hid (∀ W, Below Wc.heap.size Wc W → Calls Tryz.prog 154 #[.map (some sm), .agg #[.string c.2.1, .int .i64 (c.2.2 : Int)], .int .i64 (c.1 : Int), .slice (some ⟨hh, 0, none⟩) N N] W fun e w' => e = .returned (.bool (behindB V H c.2 c.1)) ∧ Below Wc.heap.size Wc w') := fun W hb => (HCB.out W c.2 c.1 (hbelA.out.trans (hb.mono hbelA.out.size)) hcN).mono (by rintro e w' ⟨h1, h2⟩; exact ⟨h1, hb.trans (h2.mono hb.size)⟩)
                  cases hbh : behindB V H c.2 c.1 with
                  | true =>
                    rw [hbh] at HCB1
                    have hok' : Hid (∀ t c, t < k + 1 → ph.choices[t]? = some c → (H 0 c.1 && !behindB V H c.2 c.1) = false) := HALL.out (by rw [hH0, hbh]; rfl)
                    clear hH0 HALL hbh
                    go_region_held3 (fun w' => w'.cell? ⟨hh, 0, none⟩ = some (.slice (some ⟨g0c, 0, none⟩) N N) ∧ w'.cell? ⟨g0c, c.1, none⟩ = some (.bool true) ∧ w'.cell? ⟨bc, 0, none⟩ = some (.int .i64 (c.1 : Int)) ∧ w'.cell? ⟨bc, 1, none⟩ = some (.string c.2.1) ∧ w'.cell? ⟨bc, 2, none⟩ = some (.int .i64 (c.2.2 : Int)))
                      (first | exact HKEEP.out _ HB5.out | exact HKEEP.out _ (Below.refl _ _).drew | go_keep)
                      (first | (go_at_call 154; refine (HCB1.out _ ?_).mono ?_; (repeat (first | assumption | exact Below.refl _ _ | apply Below.drew)); rintro e w5 ⟨rfl, hb5⟩; have HB5 : Hid (Below Wc.heap.size Wc w5) := hb5; clear hb5))
                    go_wp2_with fail
                    go_roundg (C - (k + 1))
                    case measure => omega
                    case rel => exact ⟨k + 1, by omega, by go_num, hbelA.out.trans (HB5.out.mono hbelA.out.size), hbxA.out.below HB5.out, hok'⟩
                  | false =>
                    rw [hbh] at HCB1
                    have hfound : Hid (firstBad (useBad V H) (itsFrom 0 (B.map BV.g)) = some (first + i)) := by
                      show _ = _
                      rw [hstl.out, if_pos]
                      rw [List.any_eq_true]
                      exact ⟨c, List.mem_of_getElem? HKC.out, by rw [hH0, hbh]; rfl⟩
                    have HPA : Hid (∀ W, Below Wc.heap.size Wc W → Calls Tryz.prog 149 #[.pointer (some ⟨bb, 0, none⟩), .int .i64 (i : Int)] W fun e w' => e = .returned (.int .i64 ((first + i : Nat) : Int)) ∧ ∃ n, w' = W.drewN n) := fun W hW => phiAt_any W bb first i _ _ (hbxA.out.below hW) (by omega) (by omega)
                    clear hH0 HALL hbh
                    go_region_held3 (fun w' => w'.cell? ⟨hh, 0, none⟩ = some (.slice (some ⟨g0c, 0, none⟩) N N) ∧ w'.cell? ⟨g0c, c.1, none⟩ = some (.bool true) ∧ w'.cell? ⟨bc, 0, none⟩ = some (.int .i64 (c.1 : Int)) ∧ w'.cell? ⟨bc, 1, none⟩ = some (.string c.2.1) ∧ w'.cell? ⟨bc, 2, none⟩ = some (.int .i64 (c.2.2 : Int)))
                      (first | exact HKEEP.out _ HB5.out | exact HKEEP.out _ (Below.refl _ _).drew | go_keep)
                      (first | (go_at_call 154; refine (HCB1.out _ ?_).mono ?_; (repeat (first | assumption | exact Below.refl _ _ | apply Below.drew)); rintro e w5 ⟨rfl, hb5⟩; have HB5 : Hid (Below Wc.heap.size Wc w5) := hb5; clear hb5))
                    go_wp2_with (first
                      | (go_at_call 149; refine (HPA.out _ HB5.out).mono ?_; rintro e w6 ⟨rfl, n6, rfl⟩))
                    go_ret2
                    exact ⟨H, HFIN.out, ⟨first + i, by rw [hfound.out]; rfl, fun k h => by rw [hfound.out] at h; injection h⟩, below_drewN (HB1.out.trans ((hbelA.out.trans (HB5.out.mono hbelA.out.size)).mono HB1.out.size)) _⟩
              · have hnext : Hid (firstBad (useBad V H) (itsFrom 0 (B.map BV.g)) = firstBad (useBad V H) (phiIts j (first + (i + 1)) ((phis.drop (i + 1)).map (·.p)) ++ (lineIts j (first + Q) (lns.map (·.l)) ++ itsFrom (j + 1) ((B.drop (j + 1)).map BV.g)))) := by
                  show _ = _
                  rw [hstl.out, if_neg]
                  intro h
                  rw [List.any_eq_true] at h
                  obtain ⟨z, hz, hzN⟩ := h
                  obtain ⟨t, ht, hz⟩ := List.getElem_of_mem hz
                  have := hall.out t z (by have := HC'.out; omega) (by rw [List.getElem?_eq_getElem ht, hz])
                  rw [this] at hzN
                  cases hzN
                go_wp2_with fail
                go_roundg (Q - (i + 1))
                case measure => omega
                case rel => exact ⟨i + 1, by omega, by go_num, hbel3, hbx3, hnext⟩
          · have hlb2 : Hid (firstBad (useBad V H) (itsFrom 0 (B.map BV.g)) = firstBad (useBad V H) (lineIts j (first + Q + 0) ((lns.drop 0).map (·.l)) ++ itsFrom (j + 1) ((B.drop (j + 1)).map BV.g))) := by
              show _ = _
              rw [hlb.out, List.drop_eq_nil_of_le (by have := HQQ.out; omega)]
              rfl
            clear hlb HPN HPV HCHB
            have c2 : wr.cell? ⟨bb, 2, none⟩ = some (.slice aoL M cpL) := hbx.out.cell rfl
            go_wp2_with fail
            go_loopg [78] M (fun g v78 wr2 => ∃ (i : Nat), i + g = M ∧ v78 = .int .i64 i ∧ Hid (Below w1.heap.size w1 wr2) ∧ Hid (BoxIn wr2 bb 109 [.int .i64 (first : Int), .slice aoP Q cpP, .slice aoL M cpL]) ∧ Hid (firstBad (useBad V H) (itsFrom 0 (B.map BV.g)) = firstBad (useBad V H) (lineIts j (first + Q + i) ((lns.drop i).map (·.l)) ++ itsFrom (j + 1) ((B.drop (j + 1)).map BV.g))))
            case atStart => exact ⟨0, by omega, rfl, hbel2, hbx, hlb2⟩
            case round =>
              clear hbel2 hbx hlb2 c2 hs2 hBW
              obtain ⟨i, hig, rfl, hbel3, hbx3, hlb3⟩ := hrel
              have hs3 := hbel3.out.size
              have hBW3 : Hid (Below w.heap.size w wr) := HB1.out.trans (hbel3.out.mono HB1.out.size)
              by_cases hiM : i < M
              · have hltL : i < lns.length := HMM.out ▸ hiM
                obtain ⟨x, hx⟩ : ∃ x, lns[i] = x := ⟨_, rfl⟩
                have hxm : x ∈ lns := by rw [← hx]; exact List.getElem_mem hltL
                have hdl : lns.drop i = x :: lns.drop (i + 1) := by rw [List.drop_eq_getElem_cons hltL, hx]
                have hstl : Hid (firstBad (useBad V H) (itsFrom 0 (B.map BV.g)) = if (x.l.takes.any fun v => !atB V H v j (first + Q + i)) = true then some (first + Q + i) else firstBad (useBad V H) (lineIts j (first + Q + (i + 1)) ((lns.drop (i + 1)).map (·.l)) ++ itsFrom (j + 1) ((B.drop (j + 1)).map BV.g))) := by
                  show _ = _
                  rw [hlb3.out, hdl]
                  show firstBad (useBad V H) (⟨j, first + Q + i, .line x.l⟩ :: _) = _
                  rw [firstBad]
                  simp only [useBad, HHJ.out, Bool.true_and]
                  rfl
                obtain ⟨gL, offL, rfl, hgL, hcellL⟩ := HLN.out.at (by omega)
                have hxo := HLV.out x hxm
                have hc : ∀ t, t < 6 → ∀ u, x.cells[t]? = some u → wr.cell? ⟨gL, offL + i * 6 + t, none⟩ = some u := fun t ht u hu => (hBW3.out.cell (p := ⟨gL, offL + i * 6 + t, none⟩) hgL).trans (by rw [Nat.add_assoc]; exact hcellL (i * 6 + t) u (by rw [cellsL_get hltL ht, hx]; exact hu))
                obtain ⟨l, tv, lv⟩ := x
                obtain ⟨aoT, cpT, htv⟩ := hxo.1.form
                obtain ⟨aoE, cpE, hlv⟩ := hxo.2.1.form
                have HTK : Hid (RdT w 111 2 tv l.takes.length (vers l.takes)) := hxo.1
                have hfew := hxo.2.2.1
                simp only at htv hlv hstl hfew
                subst htv
                subst hlv
                have g0 := hc 0 (by omega) _ rfl
                have g1 := hc 1 (by omega) _ rfl
                have g2 := hc 2 (by omega) _ rfl
                have g3 := hc 3 (by omega) _ rfl
                have g4 := hc 4 (by omega) _ rfl
                have g5 := hc 5 (by omega) _ rfl
                rw [Nat.add_zero] at g0
                have hi1 : (0 : Int) ≤ (i : Int) := by omega
                have hi2 : (i : Int) < (M : Int) := by omega
                simp only at g0 g1 g2 g3 g4 g5
                obtain ⟨K, hK⟩ : ∃ K, K = l.takes.length := ⟨_, rfl⟩
                have HK : Hid (K = l.takes.length) := hK
                rw [← hK] at g3 HTK hfew
                clear hx hdl hlb3 hcellL hxo hc hxm hK
                go_wp2_with fail
                go_loopg [86] K (fun g v86 wr3 => ∃ k : Nat, k + g = K ∧ v86 = .int .i64 k ∧ Hid (Below w1.heap.size w1 wr3) ∧ Hid (BoxIn wr3 bb 109 [.int .i64 (first : Int), .slice aoP Q cpP, .slice (some ⟨gL, offL, none⟩) M cpL]) ∧ Hid (∀ t v, t < k → l.takes[t]? = some v → atB V H v j (first + Q + i) = true))
                case atStart => exact ⟨0, by omega, rfl, hbel3.out.alloc hs3 _, hbx3.out.below ((Below.refl _ _).alloc (Nat.le_refl _) _), fun t v ht => absurd ht (by omega)⟩
                case round =>
                  clear hbel3 hbx3 hs3 hBW3 g0 g1 g2 g3 g4 g5
                  obtain ⟨k, hkg, rfl, hbel4, hbx4, hall⟩ := hrel
                  have hs4 := hbel4.out.size
                  have hBW4 : Hid (Below w.heap.size w wr) := HB1.out.trans (hbel4.out.mono HB1.out.size)
                  by_cases hkK : k < K
                  · have hltK : k < l.takes.length := HK.out ▸ hkK
                    obtain ⟨v, hv⟩ : ∃ v, l.takes[k] = v := ⟨_, rfl⟩
                    obtain ⟨gT, offT, rfl, hgT, hcT⟩ := HTK.out.at (by omega)
                    have d0 : wr.cell? ⟨gT, offT + k * 2, none⟩ = some (.string v.1) := (hBW4.out.cell (p := ⟨gT, offT + k * 2, none⟩) hgT).trans (hcT (k * 2) _ (by rw [(vers_get hltK).1, hv]))
                    have d1 : wr.cell? ⟨gT, offT + k * 2 + 1, none⟩ = some (.int .i64 (v.2 : Int)) := (hBW4.out.cell (p := ⟨gT, offT + k * 2 + 1, none⟩) hgT).trans (by rw [Nat.add_assoc]; exact hcT (k * 2 + 1) _ (by rw [(vers_get hltK).2, hv]))
                    have hk1 : (0 : Int) ≤ (k : Int) := by omega
                    have hk2 : (k : Int) < (K : Int) := by omega
                    have HKV : Hid (l.takes[k]? = some v) := by show _ = _; rw [List.getElem?_eq_getElem hltK, hv]
                    have HLA : Hid (∀ W, Below wr.heap.size wr W → Calls Tryz.prog 85 #[.pointer (some ⟨bb, 0, none⟩), .int .i64 (i : Int)] W fun e w' => e = .returned (.int .i64 ((first + Q + i : Nat) : Int)) ∧ ∃ n, w' = W.drewN n) := fun W hW => lineAt_any W bb first Q i aoP cpP _ (hbx4.out.below hW) (by omega) (by omega) (by omega)
                    have HCA1 : Hid (∀ W, Below wr.heap.size wr W → Calls Tryz.prog 155 #[.map (some sm), .agg #[.string v.1, .int .i64 (v.2 : Int)], .agg #[.int .i64 (j : Int), .int .i64 ((first : Int) + (Q : Int) + (i : Int))], .slice (some ⟨hh, 0, none⟩) N N] W fun e w' => e = .returned (.bool (atB V H v j (first + Q + i))) ∧ Below wr.heap.size wr w') := fun W hb => by
                      have := HCA.out W v j (first + Q + i) (hbel4.out.trans (hb.mono hs4)) hjN
                      have e : (((first + Q + i : Nat)) : Int) = (first : Int) + (Q : Int) + (i : Int) := by omega
                      rw [e] at this
                      exact this.mono (by rintro e w' ⟨h1, h2⟩; exact ⟨h1, hb.trans (h2.mono hb.size)⟩)
                    clear hcT hv
                    cases hat : atB V H v j (first + Q + i) with
                    | true =>
                      rw [hat] at HCA1
                      have hok' : Hid (∀ t v, t < k + 1 → l.takes[t]? = some v → atB V H v j (first + Q + i) = true) := fun t v' ht hv' => by
                        rcases Nat.lt_or_eq_of_le (Nat.le_of_lt_succ ht) with h' | h'
                        · exact hall.out t v' h' hv'
                        · subst h'; rw [HKV.out] at hv'; injection hv' with hv'; subst hv'; exact hat
                      clear hat
                      go_wp2_with (first
                        | (go_at_call 85; refine (HLA.out _ ((Below.refl _ _).alloc (Nat.le_refl _) _)).mono ?_; rintro e w5 ⟨rfl, n5, rfl⟩)
                        | (go_at_call 155; refine (HCA1.out _ (below_drewN ((Below.refl _ _).alloc (Nat.le_refl _) _) _)).mono ?_; rintro e w6 ⟨rfl, hb6⟩; have HB6 : Hid (Below wr.heap.size wr w6) := hb6; clear hb6))
                      go_roundg (K - (k + 1))
                      case measure => omega
                      case rel => exact ⟨k + 1, by omega, by go_num, hbel4.out.trans (HB6.out.mono hs4), hbx4.out.below HB6.out, hok'⟩
                    | false =>
                      rw [hat] at HCA1
                      have hfound : Hid (firstBad (useBad V H) (itsFrom 0 (B.map BV.g)) = some (first + Q + i)) := by
                        show _ = _
                        rw [hstl.out, if_pos]
                        rw [List.any_eq_true]
                        exact ⟨v, List.mem_of_getElem? HKV.out, by rw [hat]; rfl⟩
                      clear hat
                      go_wp2_with (first
                        | (go_at_call 85; refine (HLA.out _ ((Below.refl _ _).alloc (Nat.le_refl _) _)).mono ?_; rintro e w5 ⟨rfl, n5, rfl⟩)
                        | (go_at_call 155; refine (HCA1.out _ (below_drewN ((Below.refl _ _).alloc (Nat.le_refl _) _) _)).mono ?_; rintro e w6 ⟨rfl, hb6⟩; have HB6 : Hid (Below wr.heap.size wr w6) := hb6; clear hb6))
                      go_ret2
                      exact ⟨H, HFIN.out, ⟨first + Q + i, by rw [hfound.out]; simp, fun k h => by rw [hfound.out] at h; injection h⟩, hBW4.out.trans (HB6.out.mono hBW4.out.size)⟩
                  · have hnext : Hid (firstBad (useBad V H) (itsFrom 0 (B.map BV.g)) = firstBad (useBad V H) (lineIts j (first + Q + (i + 1)) ((lns.drop (i + 1)).map (·.l)) ++ itsFrom (j + 1) ((B.drop (j + 1)).map BV.g))) := by
                      show _ = _
                      rw [hstl.out, if_neg]
                      intro h
                      rw [List.any_eq_true] at h
                      obtain ⟨z, hz, hzN⟩ := h
                      obtain ⟨t, ht, hz⟩ := List.getElem_of_mem hz
                      have := hall.out t z (by have := HK.out; omega) (by rw [List.getElem?_eq_getElem ht, hz])
                      rw [this] at hzN
                      cases hzN
                    go_wp2_with fail
                    go_roundg (M - (i + 1))
                    case measure => omega
                    case rel => exact ⟨i + 1, by omega, by go_num, hbel4, hbx4, hnext⟩
              · have hend : Hid (firstBad (useBad V H) (itsFrom 0 (B.map BV.g)) = firstBad (useBad V H) (itsFrom (j + 1) ((B.drop (j + 1)).map BV.g))) := by
                  show _ = _
                  rw [hlb3.out, List.drop_eq_nil_of_le (by have := HMM.out; omega)]
                  rfl
                go_wp2_with fail
                go_roundg (N - (j + 1))
                case measure => omega
                case rel => exact ⟨j + 1, by omega, by go_num, hbel3, hend⟩
    · have hend : Hid (firstBad (useBad V H) (itsFrom 0 (B.map BV.g)) = none) := by
        show _ = _
        rw [hed.out, List.drop_eq_nil_of_le (by have := HNN.out; omega)]
        rfl
      go_wp2_with fail
      go_ret2
      exact ⟨H, HFIN.out, ⟨0, by rw [hend.out]; rfl, fun k h => by rw [hend.out] at h; cases h⟩, hbel.out⟩

end Go.Proofs.YtbddcodljmglfaaGreatDoor
