/- forms.settings. -/
import Derived.Test.YtbddcodljmglfaaGreatDoorPlaceA
import Derived.Test.YtbddcodljmglfaaGreatDoorLostFn
import Derived.Test.YtbddcodljmglfaaGreatDoorFormB
set_option linter.unusedSimpArgs false
set_option linter.unusedVariables false
namespace Go.Proofs.YtbddcodljmglfaaGreatDoor
open Go.RowKit

/-- What an item sets. -/
def setOf : Itm → Option Ver
  | .phi p => some p.sets
  | .line l => if l.sets.1.size = 0 then none else some l.sets
/-- Where each version is set; or the first line that sets one that it may not. -/
def settingsG : List (Ver × (Nat × Nat)) → List It → Nat ⊕ List (Ver × (Nat × Nat))
  | S, [] => .inr S
  | S, y :: r => match setOf y.it with
    | none => settingsG S r
    | some v => if mayAdd S v = true then settingsG (S ++ [(v, (y.blk, y.at_))]) r else .inl y.at_

theorem phiAt_any (w : World) (g first i : Nat) (pv lv : Value) (h : BoxIn w g 109 [.int .i64 (first : Int), pv, lv]) (h1 : first ≤ 1000000) (h3 : i ≤ 1000000) :
    Calls Tryz.prog 149 #[.pointer (some ⟨g, 0, none⟩), .int .i64 (i : Int)] w fun e w' => e = .returned (.int .i64 ((first + i : Nat) : Int)) ∧ ∃ n, w' = w.drewN n := by
  have c0 := h.cell (k := 0) rfl
  clear h
  go_enter Tryz.func149, Tryz.ntmps149
  go_wp2_with fail
  go_ret
  refine ⟨?_, 0, rfl⟩
  congr 2

theorem ba_nil2 {x : BA} : ByteArray.toList x = [] ↔ x.size = 0 := by
  rw [ByteArray.toList_eq]
  constructor
  · intro h
    have h2 : x.data.toList.length = 0 := by rw [h]; rfl
    rw [Array.length_toList] at h2
    exact h2
  · intro h
    apply List.eq_nil_of_length_eq_zero
    rw [Array.length_toList]
    exact h

set_option maxRecDepth 100000 in
set_option maxHeartbeats 8000000 in
theorem settings_any (w : World) (pb : Nat) (av bv : Value) (A : List Ver) (B : List BV) (hP : ProgIn w av bv A B) (hb : BoxIn w pb 52 [av, bv]) (hN : B.length ≤ 1000) (hF : ∀ b ∈ B, b.first ≤ 100000 ∧ b.phis.length ≤ 100000 ∧ b.lines.length ≤ 100000) :
    Calls Tryz.prog 117 #[.pointer (some ⟨pb, 0, none⟩)] w fun e w' => (∀ S, settingsG [] (itsFrom 0 (B.map BV.g)) = .inr S → ∃ m, e = .returned (.tuple #[.map (some m), .int .i64 0, .bool true]) ∧ PMap w' m S) ∧ (∀ i, settingsG [] (itsFrom 0 (B.map BV.g)) = .inl i → e = .returned (.tuple #[.map none, .int .i64 (i : Int), .bool false])) ∧ Below w.heap.size w w' := by
  have HP : Hid (ProgIn w av bv A B) := hP
  have HF : Hid (∀ b ∈ B, b.first ≤ 100000 ∧ b.phis.length ≤ 100000 ∧ b.lines.length ≤ 100000) := hF
  have HPB : Hid (BoxIn w pb 52 [av, bv]) := hb
  obtain ⟨aoB, cpB, rfl⟩ := hP.rows.form
  obtain ⟨N, hNN⟩ : ∃ N, N = B.length := ⟨_, rfl⟩
  have HNN : Hid (N = B.length) := hNN
  rw [← hNN] at hN HP HPB
  have hpb : pb < w.heap.size := HPB.out.lt
  have c1 : ∀ o, (w.alloc o).cell? ⟨pb, 1, none⟩ = some (.slice aoB N cpB) := fun o => (HPB.out.below ((Below.refl _ _).alloc (Nat.le_refl _) o)).cell rfl
  have hmm := @run_makeMap Tryz.prog
  clear hP hb hF hNN
  go_enter Tryz.func117, Tryz.ntmps117
  go_wp2_with fail
  have HM0 : Hid (PMap (w.alloc (.map #[] 0)) w.heap.size []) := PMap.new w
  have HB0 : Hid (Below w.heap.size w (w.alloc (.map #[] 0))) := (Below.refl _ _).alloc (Nat.le_refl _) _
  obtain ⟨m, hm⟩ : ∃ m, m = w.heap.size := ⟨_, rfl⟩
  rw [← hm] at HM0 ⊢
  have hmw : w.heap.size ≤ m := by omega
  clear c1 hmm hm
  generalize w.alloc (.map #[] 0) = W1 at HM0 HB0 ⊢
  go_loopg [20] N (fun g v20 wr => ∃ (j : Nat) (S : List (Ver × (Nat × Nat))), j + g = N ∧ v20 = .int .i64 j ∧ Hid (PMap wr m S) ∧ Hid (Below w.heap.size w wr) ∧ Hid (settingsG [] (itsFrom 0 (B.map BV.g)) = settingsG S (itsFrom j ((B.drop j).map BV.g))))
  case atStart => exact ⟨0, [], by omega, rfl, HM0, HB0, rfl⟩
  case round =>
    obtain ⟨j, S, hjg, rfl, hM, hbel, hed⟩ := hrel
    clear HM0 HB0
    by_cases hjN : j < N
    · have hlt' : j < B.length := HNN.out ▸ hjN
      obtain ⟨b, hb⟩ : ∃ b, B[j] = b := ⟨_, rfl⟩
      have hmem : b ∈ B := by rw [← hb]; exact List.getElem_mem hlt'
      have hdrop : B.drop j = b :: B.drop (j + 1) := by rw [List.drop_eq_getElem_cons hlt', hb]
      have hst : Hid (settingsG [] (itsFrom 0 (B.map BV.g)) = settingsG S (phiIts j b.first (b.phis.map (·.p)) ++ (lineIts j (b.first + b.phis.length) (b.lines.map (·.l)) ++ itsFrom (j + 1) ((B.drop (j + 1)).map BV.g)))) := by
        show _ = _
        rw [hed.out, hdrop]
        simp [itsFrom, blkIts, BV.g]
      have hrows : RdT w 109 3 (.slice aoB N cpB) N (cellsB B) := by have := HP.out.rows; rw [← HNN.out] at this; exact this
      obtain ⟨gB, offB, rfl, hgB, hcell⟩ := hrows.at (by omega)
      clear hrows
      have d0 := hcell (j * 3 + 0) _ (by rw [cellsB_get hlt' (by omega), hb]; rfl)
      have d1 := hcell (j * 3 + 1) _ (by rw [cellsB_get hlt' (by omega), hb]; rfl)
      have d2 := hcell (j * 3 + 2) _ (by rw [cellsB_get hlt' (by omega), hb]; rfl)
      have hok := HP.out.blocks b hmem
      obtain ⟨f1, f2, f3⟩ := HF.out b hmem
      obtain ⟨first, phis, lns, pv, blv⟩ := b
      obtain ⟨aoP, cpP, hpv⟩ := hok.phis.1.form
      obtain ⟨aoL, cpL, hblv⟩ := hok.lines.1.form
      simp only at hpv hblv f1 f2 f3 hst
      subst hpv
      subst hblv
      have HOK : Hid (BV.ok w w.heap.size ⟨first, phis, lns, .slice aoP phis.length cpP, .slice aoL lns.length cpL⟩) := hok
      have e0 : wr.cell? ⟨gB, offB + j * 3, none⟩ = some (.int .i64 (first : Int)) := (hbel.out.cell hgB).trans d0
      have e1 : wr.cell? ⟨gB, offB + j * 3 + 1, none⟩ = some (.slice aoP phis.length cpP) := (hbel.out.cell hgB).trans (by rw [Nat.add_assoc]; exact d1)
      have e2 : wr.cell? ⟨gB, offB + j * 3 + 2, none⟩ = some (.slice aoL lns.length cpL) := (hbel.out.cell hgB).trans (by rw [Nat.add_assoc]; exact d2)
      have hj1 : (0 : Int) ≤ (j : Int) := by omega
      have hj2 : (j : Int) < (N : Int) := by omega
      have hszr := hbel.out.size
      clear hb hdrop hed hcell d0 d1 d2 hok
      obtain ⟨M, hM'⟩ : ∃ M, M = lns.length := ⟨_, rfl⟩
      have HMM : Hid (M = lns.length) := hM'
      obtain ⟨Q, hQ'⟩ : ∃ Q, Q = phis.length := ⟨_, rfl⟩
      have HQQ : Hid (Q = phis.length) := hQ'
      have HLN : Hid (RdT w 117 6 (.slice aoL M cpL) M (cellsL lns)) := by
        have := HOK.out.lines.1
        rw [hM']
        exact this
      have HPN : Hid (RdT w 114 3 (.slice aoP Q cpP) Q (cellsP phis)) := by
        have := HOK.out.phis.1
        rw [hQ']
        exact this
      have HLV : Hid (∀ x ∈ lns, x.ok w) := HOK.out.line
      have HPV : Hid (∀ x ∈ phis, x.ok w) := HOK.out.phi
      rw [← hM'] at e2 f3
      rw [← hQ'] at e1 f2 hst
      clear hmem HOK hM' hQ'
      obtain ⟨bb, hbb⟩ : ∃ bb, bb = wr.heap.size := ⟨_, rfl⟩
      have hbbw : w.heap.size ≤ bb := by omega
      go_wp2_with fail
      rw [← hbb]
      have HBB : Hid (bb = wr.heap.size) := hbb
      clear hbb
      go_loopg [28] Q (fun g v28 wr2 => ∃ (i : Nat) (S2 : List (Ver × (Nat × Nat))), i + g = Q ∧ v28 = .int .i64 i ∧ Hid (PMap wr2 m S2) ∧ Hid (Below w.heap.size w wr2) ∧ Hid (BoxIn wr2 bb 109 [.int .i64 (first : Int), .slice aoP Q cpP, .slice aoL M cpL]) ∧ Hid (settingsG [] (itsFrom 0 (B.map BV.g)) = settingsG S2 (phiIts j (first + i) ((phis.drop i).map (·.p)) ++ (lineIts j (first + Q) (lns.map (·.l)) ++ itsFrom (j + 1) ((B.drop (j + 1)).map BV.g)))))
      case atStart => exact ⟨0, S, by omega, rfl, hM.out.below ((Below.refl _ _).alloc (Nat.le_refl _) _), hbel.out.alloc hszr _, (by rw [HBB.out]; exact BoxIn.new _ _ [_, _, _]), hst⟩
      case round =>
        obtain ⟨i, S2, hig, rfl, hM2, hbel2, hbx, hlb⟩ := hrel
        clear hM hst
        have hs2 := hbel2.out.size
        by_cases hiQ : i < Q
        · have hltP : i < phis.length := HQQ.out ▸ hiQ
          obtain ⟨x, hx⟩ : ∃ x, phis[i] = x := ⟨_, rfl⟩
          have hxm : x ∈ phis := by rw [← hx]; exact List.getElem_mem hltP
          have hdl : phis.drop i = x :: phis.drop (i + 1) := by rw [List.drop_eq_getElem_cons hltP, hx]
          have hstl : Hid (settingsG [] (itsFrom 0 (B.map BV.g)) = if mayAdd S2 x.p.sets = true then settingsG (S2 ++ [(x.p.sets, (j, first + i))]) (phiIts j (first + (i + 1)) ((phis.drop (i + 1)).map (·.p)) ++ (lineIts j (first + Q) (lns.map (·.l)) ++ itsFrom (j + 1) ((B.drop (j + 1)).map BV.g))) else .inl (first + i)) := by
            show _ = _
            rw [hlb.out, hdl]
            rfl
          obtain ⟨gP, offP, rfl, hgP, hcellP⟩ := HPN.out.at (by omega)
          have hxo := HPV.out x hxm
          have hc : ∀ t, t < 3 → ∀ u, x.cells[t]? = some u → wr.cell? ⟨gP, offP + i * 3 + t, none⟩ = some u := fun t ht u hu => (hbel2.out.cell (p := ⟨gP, offP + i * 3 + t, none⟩) hgP).trans (by rw [Nat.add_assoc]; exact hcellP (i * 3 + t) u (by rw [cellsP_get hltP ht, hx]; exact hu))
          obtain ⟨ph, cv⟩ := x
          obtain ⟨aoC, cpC, hcv⟩ := hxo.1.form
          simp only at hcv hstl
          subst hcv
          have g0 := hc 0 (by omega) _ rfl
          have g1 := hc 1 (by omega) _ rfl
          have g2 := hc 2 (by omega) _ rfl
          rw [Nat.add_zero] at g0
          have hi1 : (0 : Int) ≤ (i : Int) := by omega
          have hi2 : (i : Int) < (Q : Int) := by omega
          simp only at g0 g1 g2
          have HPA : Hid (∀ W, Below wr.heap.size wr W → Calls Tryz.prog 149 #[.pointer (some ⟨bb, 0, none⟩), .int .i64 (i : Int)] W fun e w' => e = .returned (.int .i64 ((first + i : Nat) : Int)) ∧ ∃ n, w' = W.drewN n) := fun W hW => phiAt_any W bb first i _ _ (hbx.out.below hW) (by omega) (by omega)
          obtain ⟨sv, hsv⟩ : ∃ sv, sv = ph.sets := ⟨_, rfl⟩
          rw [← hsv] at g0 g1 hstl
          clear hx hdl hlb hcellP hxo hc hxm hsv
          cases hma : mayAdd S2 sv with
          | true =>
            have HMA : Hid (mayAdd S2 sv = true) := hma
            have HAD : Hid (∀ W, Below wr.heap.size wr W → Calls Tryz.prog 150 #[.map (some m), .agg #[.string sv.1, .int .i64 (sv.2 : Int)], .agg #[.int .i64 (j : Int), .int .i64 ((first : Int) + (i : Int))]] W fun e w' => e = .returned (.bool true) ∧ PMap w' m (S2 ++ [(sv, (j, first + i))]) ∧ Grew W w' (fun k => k = m)) := fun W hW => by
              have := padd_yes W m S2 sv (j, first + i) (hM2.out.below hW) HMA.out
              simpa using this
            rw [hma, if_pos rfl] at hstl
            clear hma
            go_wp2_with (first
              | (go_at_call 149; refine (HPA.out _ ((Below.refl _ _).alloc (Nat.le_refl _) _)).mono ?_; rintro e w5 ⟨rfl, n5, rfl⟩)
              | (go_at_call 150; refine (HAD.out _ (below_drewN ((Below.refl _ _).alloc (Nat.le_refl _) _) _)).mono ?_; rintro e w6 ⟨rfl, hp6, hg6⟩; have HP6 : Hid _ := hp6; have HG6 : Hid (Grew _ w6 _) := hg6; clear hp6 hg6))
            have hb6 : Hid (Below w.heap.size w w6) := (below_drewN (hbel2.out.alloc hs2 _) _).trans (HG6.out.below (by have := hs2; simp; omega) (fun k hk => by omega))
            have hx6 : Hid (BoxIn w6 bb 109 [.int .i64 (first : Int), .slice (some ⟨gP, offP, none⟩) Q cpP, .slice aoL M cpL]) := by
              have h1 : BoxIn ((wr.alloc (.cells #[.string sv.1, .int .i64 (sv.2 : Int), .slice aoC ph.choices.length cpC] 114)).drewN n5) bb 109 [.int .i64 (first : Int), .slice (some ⟨gP, offP, none⟩) Q cpP, .slice aoL M cpL] := (hbx.out.below ((Below.refl _ _).alloc (Nat.le_refl _) _)).below (below_drewN (Below.refl _ _) _)
              exact h1.of_block (HG6.out.block bb (hM2.out.notcells hbx.out) h1.lt)
            go_roundg (Q - (i + 1))
            case measure => omega
            case rel => exact ⟨i + 1, _, by omega, by go_num, HP6, hb6, hx6, hstl⟩
          | false =>
            have HMA : Hid (mayAdd S2 sv = false) := hma
            have HAD : Hid (∀ W, Below wr.heap.size wr W → Calls Tryz.prog 150 #[.map (some m), .agg #[.string sv.1, .int .i64 (sv.2 : Int)], .agg #[.int .i64 (j : Int), .int .i64 ((first : Int) + (i : Int))]] W fun e w' => e = .returned (.bool false) ∧ Below W.heap.size W w') := fun W hW => by
              have := padd_no W m S2 sv (j, first + i) (hM2.out.below hW) HMA.out
              simpa using this
            rw [hma, if_neg (by decide)] at hstl
            clear hma
            go_wp2_with (first
              | (go_at_call 149; refine (HPA.out _ ((Below.refl _ _).alloc (Nat.le_refl _) _)).mono ?_; rintro e w5 ⟨rfl, n5, rfl⟩)
              | (go_at_call 150; refine (HAD.out _ (below_drewN ((Below.refl _ _).alloc (Nat.le_refl _) _) _)).mono ?_; rintro e w6 ⟨rfl, hb6'⟩; have hb6 : Hid (Below w.heap.size w w6) := (below_drewN (hbel2.out.alloc hs2 _) _).trans (hb6'.mono (by have := hs2; simp; omega)); clear hb6'))
            go_ret3
            exact ⟨fun S' h => (by rw [hstl.out] at h; cases h), fun i' h => (by rw [hstl.out] at h; injection h with h; subst h; simp), hb6.out⟩
        · have hlb2 : Hid (settingsG [] (itsFrom 0 (B.map BV.g)) = settingsG S2 (lineIts j (first + Q + 0) ((lns.drop 0).map (·.l)) ++ itsFrom (j + 1) ((B.drop (j + 1)).map BV.g))) := by
            show _ = _
            rw [hlb.out, List.drop_eq_nil_of_le (by have := HQQ.out; omega)]
            rfl
          clear hlb HPN HPV
          have c2 : wr.cell? ⟨bb, 2, none⟩ = some (.slice aoL M cpL) := hbx.out.cell rfl
          go_wp2_with fail
          go_loopg [48] M (fun g v48 wr2 => ∃ (i : Nat) (S3 : List (Ver × (Nat × Nat))), i + g = M ∧ v48 = .int .i64 i ∧ Hid (PMap wr2 m S3) ∧ Hid (Below w.heap.size w wr2) ∧ Hid (BoxIn wr2 bb 109 [.int .i64 (first : Int), .slice aoP Q cpP, .slice aoL M cpL]) ∧ Hid (settingsG [] (itsFrom 0 (B.map BV.g)) = settingsG S3 (lineIts j (first + Q + i) ((lns.drop i).map (·.l)) ++ itsFrom (j + 1) ((B.drop (j + 1)).map BV.g))))
          case atStart => exact ⟨0, S2, by omega, rfl, hM2, hbel2, hbx, hlb2⟩
          case round =>
            clear hM2 hbel2 hbx hlb2 c2 hs2
            obtain ⟨i, S3, hig, rfl, hM3, hbel3, hbx3, hlb3⟩ := hrel
            have hs3 := hbel3.out.size
            by_cases hiM : i < M
            · have hltL : i < lns.length := HMM.out ▸ hiM
              obtain ⟨x, hx⟩ : ∃ x, lns[i] = x := ⟨_, rfl⟩
              have hxm : x ∈ lns := by rw [← hx]; exact List.getElem_mem hltL
              have hdl : lns.drop i = x :: lns.drop (i + 1) := by rw [List.drop_eq_getElem_cons hltL, hx]
              have hstl : Hid (settingsG [] (itsFrom 0 (B.map BV.g)) = match (if x.l.sets.1.size = 0 then none else some x.l.sets) with
                | none => settingsG S3 (lineIts j (first + Q + (i + 1)) ((lns.drop (i + 1)).map (·.l)) ++ itsFrom (j + 1) ((B.drop (j + 1)).map BV.g))
                | some v => if mayAdd S3 v = true then settingsG (S3 ++ [(v, (j, first + Q + i))]) (lineIts j (first + Q + (i + 1)) ((lns.drop (i + 1)).map (·.l)) ++ itsFrom (j + 1) ((B.drop (j + 1)).map BV.g)) else .inl (first + Q + i)) := by
                show _ = _
                rw [hlb3.out, hdl]
                rfl
              obtain ⟨gL, offL, rfl, hgL, hcellL⟩ := HLN.out.at (by omega)
              have hxo := HLV.out x hxm
              have hc : ∀ t, t < 6 → ∀ u, x.cells[t]? = some u → wr.cell? ⟨gL, offL + i * 6 + t, none⟩ = some u := fun t ht u hu => (hbel3.out.cell (p := ⟨gL, offL + i * 6 + t, none⟩) hgL).trans (by rw [Nat.add_assoc]; exact hcellL (i * 6 + t) u (by rw [cellsL_get hltL ht, hx]; exact hu))
              obtain ⟨l, tv, lv⟩ := x
              obtain ⟨aoT, cpT, htv⟩ := hxo.1.form
              obtain ⟨aoE, cpE, hlv⟩ := hxo.2.1.form
              simp only at htv hlv hstl
              subst htv
              subst hlv
              have g0 := hc 0 (by omega) _ rfl
              have g1 := hc 1 (by omega) _ rfl
              have g2 := hc 2 (by omega) _ rfl
              have g3 := hc 3 (by omega) _ rfl
              have g4 := hc 4 (by omega) _ rfl
              have g5 := hc 5 (by omega) _ rfl
              rw [Nat.add_zero] at g0
              have hi1 : (0 : Int) ≤ (i : Int) := by omega
              have hi2 : (i : Int) < (M : Int) := by omega
              simp only at g0 g1 g2 g3 g4 g5
              have HLA : Hid (∀ W, Below wr.heap.size wr W → Calls Tryz.prog 85 #[.pointer (some ⟨bb, 0, none⟩), .int .i64 (i : Int)] W fun e w' => e = .returned (.int .i64 ((first + Q + i : Nat) : Int)) ∧ ∃ n, w' = W.drewN n) := fun W hW => lineAt_any W bb first Q i aoP cpP _ (hbx3.out.below hW) (by omega) (by omega) (by omega)
              obtain ⟨sv, hsv⟩ : ∃ sv, sv = l.sets := ⟨_, rfl⟩
              rw [← hsv] at g1 g2 hstl
              clear hx hdl hlb3 hcellL hxo hc hxm hsv
              by_cases hsz : sv.1.size = 0
              · rw [if_pos hsz] at hstl
                have hne : (ByteArray.toList sv.1 == []) = true := by rw [beq_iff_eq]; exact ba_nil2.2 hsz
                clear hsz
                go_wp2_with (first
                  | (go_at_call 85; refine (HLA.out _ ((Below.refl _ _).alloc (Nat.le_refl _) _)).mono ?_; rintro e w5 ⟨rfl, n5, rfl⟩))
                go_roundg (M - (i + 1))
                case measure => omega
                case rel => exact ⟨i + 1, S3, by omega, by go_num, (hM3.out.below ((Below.refl _ _).alloc (Nat.le_refl _) _)).below (below_drewN (Below.refl _ _) _), below_drewN (hbel3.out.alloc hs3 _) _, (hbx3.out.below ((Below.refl _ _).alloc (Nat.le_refl _) _)).below (below_drewN (Below.refl _ _) _), hstl⟩
              · rw [if_neg hsz] at hstl
                have hne : (ByteArray.toList sv.1 == []) = false := by rw [beq_eq_false_iff_ne]; exact fun h => hsz (ba_nil2.1 h)
                clear hsz
                simp only at hstl
                cases hma : mayAdd S3 sv with
                | true =>
                  have HMA : Hid (mayAdd S3 sv = true) := hma
                  have HAD : Hid (∀ W, Below wr.heap.size wr W → Calls Tryz.prog 150 #[.map (some m), .agg #[.string sv.1, .int .i64 (sv.2 : Int)], .agg #[.int .i64 (j : Int), .int .i64 ((first : Int) + (Q : Int) + (i : Int))]] W fun e w' => e = .returned (.bool true) ∧ PMap w' m (S3 ++ [(sv, (j, first + Q + i))]) ∧ Grew W w' (fun k => k = m)) := fun W hW => by
                    have := padd_yes W m S3 sv (j, first + Q + i) (hM3.out.below hW) HMA.out
                    simpa using this
                  rw [hma, if_pos rfl] at hstl
                  clear hma
                  go_wp2_with (first
                    | (go_at_call 85; refine (HLA.out _ ((Below.refl _ _).alloc (Nat.le_refl _) _)).mono ?_; rintro e w5 ⟨rfl, n5, rfl⟩)
                    | (go_at_call 150; refine (HAD.out _ (below_drewN ((Below.refl _ _).alloc (Nat.le_refl _) _) _)).mono ?_; rintro e w6 ⟨rfl, hp6, hg6⟩; have HP6 : Hid _ := hp6; have HG6 : Hid (Grew _ w6 _) := hg6; clear hp6 hg6))
                  have hb6 : Hid (Below w.heap.size w w6) := (below_drewN (hbel3.out.alloc hs3 _) _).trans (HG6.out.below (by have := hs3; simp; omega) (fun k hk => by omega))
                  have hx6 : Hid (BoxIn w6 bb 109 [.int .i64 (first : Int), .slice aoP Q cpP, .slice (some ⟨gL, offL, none⟩) M cpL]) := by
                    have h1 : BoxIn ((wr.alloc (.cells #[.int .i64 (l.word : Int), .string sv.1, .int .i64 (sv.2 : Int), .slice aoT l.takes.length cpT, .int .i64 l.number, .slice aoE l.leads.length cpE] 117)).drewN n5) bb 109 [.int .i64 (first : Int), .slice aoP Q cpP, .slice (some ⟨gL, offL, none⟩) M cpL] := (hbx3.out.below ((Below.refl _ _).alloc (Nat.le_refl _) _)).below (below_drewN (Below.refl _ _) _)
                    exact h1.of_block (HG6.out.block bb (hM3.out.notcells hbx3.out) h1.lt)
                  go_roundg (M - (i + 1))
                  case measure => omega
                  case rel => exact ⟨i + 1, _, by omega, by go_num, HP6, hb6, hx6, hstl⟩
                | false =>
                  have HMA : Hid (mayAdd S3 sv = false) := hma
                  have HAD : Hid (∀ W, Below wr.heap.size wr W → Calls Tryz.prog 150 #[.map (some m), .agg #[.string sv.1, .int .i64 (sv.2 : Int)], .agg #[.int .i64 (j : Int), .int .i64 ((first : Int) + (Q : Int) + (i : Int))]] W fun e w' => e = .returned (.bool false) ∧ Below W.heap.size W w') := fun W hW => by
                    have := padd_no W m S3 sv (j, first + Q + i) (hM3.out.below hW) HMA.out
                    simpa using this
                  rw [hma, if_neg (by decide)] at hstl
                  clear hma
                  go_wp2_with (first
                    | (go_at_call 85; refine (HLA.out _ ((Below.refl _ _).alloc (Nat.le_refl _) _)).mono ?_; rintro e w5 ⟨rfl, n5, rfl⟩)
                    | (go_at_call 150; refine (HAD.out _ (below_drewN ((Below.refl _ _).alloc (Nat.le_refl _) _) _)).mono ?_; rintro e w6 ⟨rfl, hb6'⟩; have hb6 : Hid (Below w.heap.size w w6) := (below_drewN (hbel3.out.alloc hs3 _) _).trans (hb6'.mono (by have := hs3; simp; omega)); clear hb6'))
                  go_ret3
                  exact ⟨fun S' h => (by rw [hstl.out] at h; cases h), fun i' h => (by rw [hstl.out] at h; injection h with h; subst h; simp), hb6.out⟩
            · have hend : Hid (settingsG [] (itsFrom 0 (B.map BV.g)) = settingsG S3 (itsFrom (j + 1) ((B.drop (j + 1)).map BV.g))) := by
                show _ = _
                rw [hlb3.out, List.drop_eq_nil_of_le (by have := HMM.out; omega)]
                rfl
              go_wp2_with fail
              go_roundg (N - (j + 1))
              case measure => omega
              case rel => exact ⟨j + 1, S3, by omega, by go_num, hM3, hbel3, hend⟩
    · have hend : Hid (settingsG [] (itsFrom 0 (B.map BV.g)) = .inr S) := by
        show _ = _
        rw [hed.out, List.drop_eq_nil_of_le (by have := HNN.out; omega)]
        rfl
      go_wp2_with fail
      go_ret3
      exact ⟨fun S' h => (by rw [hend.out] at h; injection h with h; subst h; exact ⟨m, rfl, hM.out⟩), fun i h => (by rw [hend.out] at h; cases h), hbel.out⟩

end Go.Proofs.YtbddcodljmglfaaGreatDoor
