/- (*Block).LineAt, (*Program).lost. -/
import Derived.Test.YtbddcodljmglfaaGreatDoorReadC
set_option linter.unusedSimpArgs false
set_option linter.unusedVariables false
namespace Go.Proofs.YtbddcodljmglfaaGreatDoor
open Go.RowKit

theorem lineAt_any (w : World) (g first np i : Nat) (ao : Option Addr) (cp : Nat) (lv : Value) (h : BoxIn w g 109 [.int .i64 (first : Int), .slice ao np cp, lv]) (h1 : first ≤ 1000000) (h2 : np ≤ 1000000) (h3 : i ≤ 1000000) :
    Calls Tryz.prog 85 #[.pointer (some ⟨g, 0, none⟩), .int .i64 (i : Int)] w fun e w' => e = .returned (.int .i64 ((first + np + i : Nat) : Int)) ∧ ∃ n, w' = w.drewN n := by
  have c0 := h.cell (k := 0) rfl
  have c1 := h.cell (k := 1) rfl
  clear h
  go_enter Tryz.func85, Tryz.ntmps85
  go_wp2_with fail
  go_quiet (fail)
  go_wp2_with fail
  go_ret
  refine ⟨?_, _, rfl⟩
  congr 2

/-- The slice's elements, one by one. -/
theorem RdT.at {w : World} {t : TypeId} {size : Nat} {ao : Option Addr} {n cap : Nat} {xs : List Value} (h : RdT w t size (.slice ao n cap) n xs) (hn : 0 < n) : ∃ g off, ao = some ⟨g, off, none⟩ ∧ g < w.heap.size ∧ ∀ j u, xs[j]? = some u → w.cell? ⟨g, off + j, none⟩ = some u := by
  obtain ⟨ao', cap', e, -, hc⟩ := h.cell
  obtain ⟨g, off, e2, h1, h2⟩ := hc hn
  injection e with e
  subst e
  exact ⟨g, off, e2, h1, h2⟩
theorem RdT.form {w : World} {t : TypeId} {size : Nat} {v : Value} {n : Nat} {xs : List Value} (h : RdT w t size v n xs) : ∃ ao cap, v = .slice ao n cap := by
  obtain ⟨-, ao, cap, h, -⟩ := h
  exact ⟨ao, cap, h⟩

set_option maxRecDepth 100000 in
set_option maxHeartbeats 8000000 in
theorem lost_any (w : World) (pb : Nat) (av bv : Value) (A : List Ver) (B : List BV) (hP : ProgIn w av bv A B) (hb : BoxIn w pb 52 [av, bv]) (hN : B.length ≤ 1000000) (hF : ∀ b ∈ B, b.first ≤ 1000000 ∧ b.phis.length ≤ 1000000 ∧ b.lines.length ≤ 1000000) :
    Calls Tryz.prog 82 #[.pointer (some ⟨pb, 0, none⟩)] w fun e w' => (∃ i : Nat, e = .returned (.tuple #[.int .i64 (i : Int), .bool (lostG B.length (B.map BV.g)).isSome]) ∧ ∀ k, lostG B.length (B.map BV.g) = some k → i = k) ∧ Below w.heap.size w w' := by
  have HP : Hid (ProgIn w av bv A B) := hP
  have HF : Hid (∀ b ∈ B, b.first ≤ 1000000 ∧ b.phis.length ≤ 1000000 ∧ b.lines.length ≤ 1000000) := hF
  have HPB : Hid (BoxIn w pb 52 [av, bv]) := hb
  obtain ⟨aoB, cpB, rfl⟩ := hP.rows.form
  obtain ⟨N, hNN⟩ : ∃ N, N = B.length := ⟨_, rfl⟩
  have HNN : Hid (N = B.length) := hNN
  rw [← hNN] at hN HP HPB ⊢
  have c1 : w.cell? ⟨pb, 1, none⟩ = some (.slice aoB N cpB) := HPB.out.cell rfl
  have hpb : pb < w.heap.size := HPB.out.lt
  clear hP hb hF hNN
  go_enter Tryz.func82, Tryz.ntmps82
  go_wp2_with fail
  go_loopg [15] N (fun g v15 wr => ∃ j : Nat, j + g = N ∧ v15 = .int .i64 j ∧ Hid (Below w.heap.size w wr) ∧ Hid (lostG N (B.map BV.g) = lostG N ((B.drop j).map BV.g)))
  case atStart => exact ⟨0, by omega, rfl, Below.refl _ _, rfl⟩
  case round =>
    obtain ⟨j, hjg, rfl, hbel, hlost⟩ := hrel
    by_cases hjN : j < N
    · have hlt' : j < B.length := HNN.out ▸ hjN
      obtain ⟨b, hb⟩ : ∃ b, B[j] = b := ⟨_, rfl⟩
      have hmem : b ∈ B := by rw [← hb]; exact List.getElem_mem hlt'
      have hdrop : B.drop j = b :: B.drop (j + 1) := by rw [List.drop_eq_getElem_cons hlt', hb]
      have hst : Hid (lostG N (B.map BV.g) = match lostB N b.g 0 b.g.lines with | some i => some i | none => lostG N ((B.drop (j + 1)).map BV.g)) := by
        show _ = _
        rw [hlost.out, hdrop]
        rfl
      have hrows : RdT w 109 3 (.slice aoB N cpB) N (cellsB B) := by have := HP.out.rows; rw [← HNN.out] at this; exact this
      obtain ⟨gB, offB, rfl, hgB, hcell⟩ := hrows.at (by omega)
      clear hrows
      have d0 := hcell (j * 3 + 0) _ (by rw [cellsB_get hlt' (by omega), hb]; rfl)
      have d1 := hcell (j * 3 + 1) _ (by rw [cellsB_get hlt' (by omega), hb]; rfl)
      have d2 := hcell (j * 3 + 2) _ (by rw [cellsB_get hlt' (by omega), hb]; rfl)
      have hok := HP.out.blocks b hmem
      obtain ⟨f1, f2, f3⟩ := HF.out b hmem
      obtain ⟨first, phis, lns, pv, blv⟩ := b
      obtain ⟨aoP, cpP, hpv⟩ := hok.phis.1.form
      obtain ⟨aoL, cpL, hblv⟩ := hok.lines.1.form
      simp only at hpv hblv f1 f2 f3
      subst hpv
      subst hblv
      have HOK : Hid (BV.ok w w.heap.size ⟨first, phis, lns, .slice aoP phis.length cpP, .slice aoL lns.length cpL⟩) := hok
      have e0 : wr.cell? ⟨gB, offB + j * 3, none⟩ = some (.int .i64 (first : Int)) := (hbel.out.cell hgB).trans d0
      have e1 : wr.cell? ⟨gB, offB + j * 3 + 1, none⟩ = some (.slice aoP phis.length cpP) := (hbel.out.cell hgB).trans (by rw [Nat.add_assoc]; exact d1)
      have e2 : wr.cell? ⟨gB, offB + j * 3 + 2, none⟩ = some (.slice aoL lns.length cpL) := (hbel.out.cell hgB).trans (by rw [Nat.add_assoc]; exact d2)
      have hj1 : (0 : Int) ≤ (j : Int) := by omega
      have hj2 : (j : Int) < (N : Int) := by omega
      have hszr := hbel.out.size
      clear hb hdrop hlost hcell d0 d1 d2 hok
      obtain ⟨M, hM⟩ : ∃ M, M = lns.length := ⟨_, rfl⟩
      have HM : Hid (M = lns.length) := hM
      obtain ⟨bg, hbg⟩ : ∃ bg, BV.g ⟨first, phis, lns, .slice aoP phis.length cpP, .slice aoL lns.length cpL⟩ = bg := ⟨_, rfl⟩
      have HBG : Hid (bg.first = first ∧ bg.phis.length = phis.length ∧ bg.lines = lns.map (·.l)) := by
        rw [← hbg]
        exact ⟨rfl, by simp [BV.g], rfl⟩
      have HLN : Hid (RdT w 117 6 (.slice aoL M cpL) M (cellsL lns)) := by
        have := HOK.out.lines.1
        rw [hM]
        exact this
      have HLV : Hid (∀ x ∈ lns, x.ok w) := HOK.out.line
      rw [hbg] at hst
      rw [← hM] at e2 f3
      clear hmem HOK hbg hM
      obtain ⟨bb, hbb⟩ : ∃ bb, bb = wr.heap.size := ⟨_, rfl⟩
      have hbbw : w.heap.size ≤ bb := by omega
      go_wp2_with fail
      rw [← hbb]
      have HBB : Hid (bb = wr.heap.size) := hbb
      clear hbb
      go_loopg [22] M (fun g v22 wr2 => ∃ i : Nat, i + g = M ∧ v22 = .int .i64 i ∧ Hid (Below w.heap.size w wr2) ∧ Hid (BoxIn wr2 bb 109 [.int .i64 (first : Int), .slice aoP phis.length cpP, .slice aoL M cpL]) ∧ Hid (lostB N bg 0 bg.lines = lostB N bg i ((lns.drop i).map (·.l))))
      case atStart => exact ⟨0, by omega, rfl, hbel.out.alloc hszr _, (by rw [HBB.out]; exact BoxIn.new _ _ [_, _, _]), by rw [HBG.out.2.2]; rfl⟩
      case round =>
        obtain ⟨i, hig, rfl, hbel2, hbx, hlb⟩ := hrel
        have hs2 := hbel2.out.size
        by_cases hiM : i < M
        · have hltL : i < lns.length := HM.out ▸ hiM
          obtain ⟨x, hx⟩ : ∃ x, lns[i] = x := ⟨_, rfl⟩
          have hxm : x ∈ lns := by rw [← hx]; exact List.getElem_mem hltL
          have hdl : lns.drop i = x :: lns.drop (i + 1) := by rw [List.drop_eq_getElem_cons hltL, hx]
          have hstl : Hid (lostB N bg 0 bg.lines = if x.l.leads.any (fun k => decide (N ≤ k)) = true then some (bg.first + bg.phis.length + i) else lostB N bg (i + 1) ((lns.drop (i + 1)).map (·.l))) := by
            show _ = _
            rw [hlb.out, hdl]
            rfl
          obtain ⟨gL, offL, rfl, hgL, hcellL⟩ := HLN.out.at (by omega)
          have hxo := HLV.out x hxm
          have hc : ∀ t, t < 6 → ∀ u, x.cells[t]? = some u → wr.cell? ⟨gL, offL + i * 6 + t, none⟩ = some u := fun t ht u hu => (hbel2.out.cell (p := ⟨gL, offL + i * 6 + t, none⟩) hgL).trans (by rw [Nat.add_assoc]; exact hcellL (i * 6 + t) u (by rw [cellsL_get hltL ht, hx]; exact hu))
          obtain ⟨l, tv, lv⟩ := x
          obtain ⟨aoT, cpT, htv⟩ := hxo.1.form
          obtain ⟨aoE, cpE, hlv⟩ := hxo.2.1.form
          simp only at htv hlv
          subst htv
          subst hlv
          have g0 := hc 0 (by omega) _ rfl
          have g1 := hc 1 (by omega) _ rfl
          have g2 := hc 2 (by omega) _ rfl
          have g3 := hc 3 (by omega) _ rfl
          have g4 := hc 4 (by omega) _ rfl
          have g5 := hc 5 (by omega) _ rfl
          rw [Nat.add_zero] at g0
          have HLD : Hid (RdT w 3 1 (.slice aoE l.leads.length cpE) l.leads.length (nums l.leads)) := hxo.2.1
          have hfew := hxo.2.2.2
          obtain ⟨K, hK⟩ : ∃ K, K = l.leads.length := ⟨_, rfl⟩
          have HK : Hid (K = l.leads.length) := hK
          have hi1 : (0 : Int) ≤ (i : Int) := by omega
          have hi2 : (i : Int) < (M : Int) := by omega
          simp only at hfew g5
          rw [← hK] at g5 HLD hfew
          clear hx hdl hlb hcellL hxo hc hxm hK
          go_wp2_with fail
          go_loopg [30] K (fun g v30 wr3 => ∃ k : Nat, k + g = K ∧ v30 = .int .i64 k ∧ Hid (Below w.heap.size w wr3) ∧ Hid (BoxIn wr3 bb 109 [.int .i64 (first : Int), .slice aoP phis.length cpP, .slice (some ⟨gL, offL, none⟩) M cpL]) ∧ Hid (∀ t v, t < k → l.leads[t]? = some v → v < N))
          case atStart => exact ⟨0, by omega, rfl, hbel2.out.alloc hs2 _, hbx.out.below ((Below.refl _ _).alloc (Nat.le_refl _) _), fun t v ht => absurd ht (by omega)⟩
          case round =>
            obtain ⟨k, hkg, rfl, hbel3, hbx3, hall⟩ := hrel
            have hs3 := hbel3.out.size
            by_cases hkK : k < K
            · have hltK : k < l.leads.length := HK.out ▸ hkK
              obtain ⟨z, hz⟩ : ∃ z, l.leads[k] = z := ⟨_, rfl⟩
              obtain ⟨gE, offE, rfl, hgE, hcE⟩ := HLD.out.at (by omega)
              have cz : wr.cell? ⟨gE, offE + k, none⟩ = some (.int .i64 (z : Int)) := (hbel3.out.cell (p := ⟨gE, offE + k, none⟩) hgE).trans (hcE k _ (by simp [nums, hltK, hz]))
              have cp1 : wr.cell? ⟨pb, 1, none⟩ = some (.slice (some ⟨gB, offB, none⟩) N cpB) := (hbel3.out.cell (p := ⟨pb, 1, none⟩) hpb).trans c1
              have hk1 : (0 : Int) ≤ (k : Int) := by omega
              have hk2 : (k : Int) < (K : Int) := by omega
              have hzl : Hid (l.leads[k]? = some z) := by show _ = _; rw [List.getElem?_eq_getElem hltK, hz]
              clear hcE hz
              by_cases hzN : N ≤ z
              · have hzN' : (N : Int) ≤ (z : Int) := by omega
                have hfound : Hid (lostG N (B.map BV.g) = some (first + phis.length + i)) := by
                  show _ = _
                  have : lostB N bg 0 bg.lines = some (first + phis.length + i) := by
                    rw [hstl.out, if_pos, HBG.out.1, HBG.out.2.1]
                    rw [List.any_eq_true]
                    exact ⟨z, List.mem_of_getElem? hzl.out, by simpa using hzN⟩
                  rw [hst.out, this]
                have HLA : Hid (∀ W, Below wr.heap.size wr W → Calls Tryz.prog 85 #[.pointer (some ⟨bb, 0, none⟩), .int .i64 (i : Int)] W fun e w' => e = .returned (.int .i64 ((first + phis.length + i : Nat) : Int)) ∧ ∃ n, w' = W.drewN n) := fun W hW => lineAt_any W bb first phis.length i aoP cpP _ (hbx3.out.below hW) f1 f2 (by omega)
                go_wp2_with (first | (go_at_call 85; refine (HLA.out _ (Below.refl _ _)).mono ?_; rintro e w5 ⟨rfl, n5, rfl⟩))
                go_ret2
                exact ⟨⟨first + phis.length + i, by rw [hfound.out]; rfl, fun k h => by rw [hfound.out] at h; injection h⟩, below_drewN hbel3.out _⟩
              · have hzN' : (z : Int) < (N : Int) := by omega
                go_wp2_with fail
                go_roundg (K - (k + 1))
                case measure => omega
                case rel => exact ⟨k + 1, by omega, by go_num, hbel3, hbx3, fun t v ht hv => by
                  rcases Nat.lt_or_eq_of_le (Nat.le_of_lt_succ ht) with h' | h'
                  · exact hall.out t v h' hv
                  · subst h'; rw [hzl.out] at hv; injection hv with hv; omega⟩
            · have hnext : Hid (lostB N bg 0 bg.lines = lostB N bg (i + 1) ((lns.drop (i + 1)).map (·.l))) := by
                show _ = _
                rw [hstl.out, if_neg]
                intro h
                rw [List.any_eq_true] at h
                obtain ⟨z, hz, hzN⟩ := h
                obtain ⟨t, ht, hz⟩ := List.getElem_of_mem hz
                have := hall.out t z (by have := HK.out; omega) (by rw [List.getElem?_eq_getElem ht, hz])
                simp at hzN
                omega
              go_wp2_with fail
              go_roundg (M - (i + 1))
              case measure => omega
              case rel => exact ⟨i + 1, by omega, by go_num, hbel3, hbx3, hnext⟩
        · have hend : Hid (lostG N (B.map BV.g) = lostG N ((B.drop (j + 1)).map BV.g)) := by
            show _ = _
            have : lostB N bg 0 bg.lines = none := by
              rw [hlb.out, List.drop_eq_nil_of_le (by have := HM.out; omega)]
              rfl
            rw [hst.out, this]
          go_wp2_with fail
          go_roundg (N - (j + 1))
          case measure => omega
          case rel => exact ⟨j + 1, by omega, by go_num, hbel2, hend⟩
    · have hend : Hid (lostG N (B.map BV.g) = none) := by
        show _ = _
        rw [hlost.out, List.drop_eq_nil_of_le (by have := HNN.out; omega)]
        rfl
      go_wp2_with fail
      go_ret2
      exact ⟨⟨0, by rw [hend.out]; rfl, fun k h => by rw [hend.out] at h; cases h⟩, hbel.out⟩

end Go.Proofs.YtbddcodljmglfaaGreatDoor
