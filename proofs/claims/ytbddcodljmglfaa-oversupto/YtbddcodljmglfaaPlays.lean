/- plays: a whole script. -/
import Derived.Test.YtbddcodljmglfaaPlayStep
set_option linter.unusedSimpArgs false
set_option linter.unusedVariables false
namespace Go.Proofs.Ytbddcodljmglfaa
open Go.RowKit

/-- A step, as it came in. -/
structure OpV where
  kd : Int
  A : Int
  B : Int
  C : Int
  vL : Value
  y : Bool
  zs : List Int

def ocells (l : List OpV) : List Value := l.flatMap fun o => [.int .i64 o.kd, .int .i64 o.A, .int .i64 o.B, .int .i64 o.C, o.vL, .bool o.y]
theorem ocells_get : ∀ (l : List OpV) (k : Nat) (h : k < l.length), (ocells l)[k * 6]? = some (.int .i64 l[k].kd) ∧ (ocells l)[k * 6 + 1]? = some (.int .i64 l[k].A) ∧ (ocells l)[k * 6 + 2]? = some (.int .i64 l[k].B) ∧ (ocells l)[k * 6 + 3]? = some (.int .i64 l[k].C) ∧ (ocells l)[k * 6 + 4]? = some l[k].vL ∧ (ocells l)[k * 6 + 5]? = some (.bool l[k].y)
  | [], k, h => by simp at h
  | x :: l, 0, h => by simp [ocells]
  | x :: l, k + 1, h => by
    have e : ocells (x :: l) = .int .i64 x.kd :: .int .i64 x.A :: .int .i64 x.B :: .int .i64 x.C :: x.vL :: .bool x.y :: ocells l := by simp [ocells]
    have ih := ocells_get l k (by simpa using h)
    rw [e]
    have e1 : (k + 1) * 6 = k * 6 + 1 + 1 + 1 + 1 + 1 + 1 := by omega
    rw [e1]
    simpa using ih

def OpOk (w : World) (o : OpV) : Prop := RdS w 1 o.vL o.zs.length (o.zs.map (Value.int .i64)) ∧ o.zs.length ≤ 1500000 ∧ fits o.C

theorem plIn_start (w : World) : PlIn w (w.alloc (.cells #[.slice none 0 0, .slice none 0 0, .int .i64 0, .slice none 0 0] 52)) (fun k => if k = w.heap.size then .head else .other) w.heap.size (.slice none 0 0) (.slice none 0 0) (.slice none 0 0) [] 0 [] := by
  refine ⟨heap_new rfl, OwnS.nil _ _ _ _, OwnS.nil _ _ _ _, OwnS.nil _ _ _ _, fun i x hx => by simp at hx, fun i x hx => by simp at hx, fun e he => by simp at he, ⟨by simp, Nat.le_refl _⟩, fun k hk => by simp [Value.ownBlock] at hk, fun k hk => by simp [Value.ownBlock] at hk, fun k hk => by simp [Value.ownBlock] at hk, fun k hl => ?_, (Below.refl _ _).alloc (Nat.le_refl _) _⟩
  have hl' : w.heap.size + 1 ≤ k := by simpa using hl
  show (if k = w.heap.size then Role.head else .other) = .other
  rw [if_neg (by omega)]

theorem SameN.trans {G G' G'' : List GSt} (h : SameN G G') (h' : SameN G' G'') : SameN G G'' := by
  refine ⟨h'.1.trans h.1, fun i x hx => ?_⟩
  obtain ⟨y, hy, hn⟩ := h.2 i x hx
  obtain ⟨z, hz, hm⟩ := h'.2 i y hy
  exact ⟨z, hz, hm.trans hn⟩

structure Pl (w0 wx : World) (bw : Nat) (G : List GSt) (vg vr : Value) (hb nb : Nat) : Prop where
  ex : ∃ κ vh N H, PlIn w0 wx κ bw vg vr vh G N H ∧ H.length ≤ hb ∧ N ≤ nb

set_option maxRecDepth 100000 in
set_option maxHeartbeats 8000000 in
theorem plays_walk (w : World) (vS : Value) (os : List OpV) (hS : RdS w 6 vS os.length (ocells os)) (hok : ∀ o ∈ os, OpOk w o) (hM : os.length ≤ 1048576) (last : Int) :
    Calls Try.prog 8 #[vS, .int .i64 last] w fun e w' => e = .returned (.bool true) ∧ Below w.heap.size w w' := by
  obtain ⟨-, ao, cp, rfl, hr⟩ := hS
  obtain ⟨M, hMe⟩ : ∃ M, M = os.length := ⟨_, rfl⟩
  have HM : Hid (M = os.length) := hMe
  have HOK : Hid (∀ o ∈ os, OpOk w o) := hok
  rw [← hMe] at hr hM ⊢
  have HP0 : Hid (PlIn w (w.alloc (.cells #[.slice none 0 0, .slice none 0 0, .int .i64 0, .slice none 0 0] 52)) (fun k => if k = w.heap.size then .head else .other) w.heap.size (.slice none 0 0) (.slice none 0 0) (.slice none 0 0) [] 0 []) := plIn_start w
  clear hMe hok
  go_enter Try.func8, Try.ntmps8
  go_wp2_with fail
  refine (news_any w _ _ w.heap.size _ _ _ [] 0 [] HP0.out 2 (by simp)).mono ?_
  rintro e w1 ⟨rfl, κ1, vg1, vr1, G1, hP1, -, hG1, hG1'⟩
  have HP1 : Hid (PlIn w w1 κ1 w.heap.size vg1 vr1 (.slice none 0 0) G1 0 []) := hP1
  have HG1 : Hid (1 ≤ G1.length ∧ G1.length ≤ 1) := ⟨hG1' (by omega), by simpa using hG1⟩
  generalize w.heap.size = bw at HP1 ⊢
  clear hP1 hG1 hG1' HP0
  go_wp2_with fail
  go_loopg [7] M (fun gk s7 wr => ∃ (i : Nat) (κ : Nat → Role) (vg vr vh : Value) (G : List GSt) (N : Nat) (H : List HSt), i + gk = M ∧ s7 = .int .i64 i ∧ Hid (PlIn w wr κ bw vg vr vh G N H) ∧ Hid (1 ≤ G.length) ∧ Hid (G.length ≤ i + 1) ∧ Hid (H.length ≤ 8 * i) ∧ Hid (N ≤ 2 * i))
  case atStart => exact ⟨0, κ1, vg1, vr1, _, G1, 0, [], by omega, rfl, HP1.out, HG1.out.1, by have := HG1.out.2; show _ ≤ _; omega, by simp [Hid], by simp [Hid]⟩
  case round =>
    clear HP1 HG1
    obtain ⟨i, κ, vg, vr, vh, G, N, H, hig, rfl, hP, hG1, hG2, hH, hN⟩ := hrel
    by_cases hlt : i < M
    · rcases hr with hr | ⟨gS, oS, rfl, hr⟩
      · omega
      have hlt' : i < os.length := HM.out ▸ hlt
      have hcells := ocells_get os i hlt'
      have hbel := hP.out.bel
      have hc : ∀ j u, (ocells os)[i * 6 + j]? = some u → wr.cell? ⟨gS, oS + i * 6 + j, none⟩ = some u := by
        intro j u hj
        have := hr _ _ hj
        rw [← Nat.add_assoc] at this
        rw [hbel.cell (World.block_lt_of_cell? w _ this)]
        exact this
      have k0 := hc 0 _ hcells.1
      have k1 := hc 1 _ hcells.2.1
      have k2 := hc 2 _ hcells.2.2.1
      have k3 := hc 3 _ hcells.2.2.2.1
      have k4 := hc 4 _ hcells.2.2.2.2.1
      have k5 := hc 5 _ hcells.2.2.2.2.2
      rw [Nat.add_zero] at k0
      have HO : Hid (OpOk w os[i]) := HOK.out _ (List.getElem_mem hlt')
      generalize os[i] = o at k0 k1 k2 k3 k4 k5 HO
      obtain ⟨kd, A, B, C, vL, y, zs⟩ := o
      simp only at k0 k1 k2 k3 k4 k5
      clear hcells hc hlt' hr hbel
      by_cases hkl : last < kd
      · go_wp2_with fail
        go_roundg (M - (i + 1))
        case measure => omega
        case rel => exact ⟨i + 1, κ, vg, vr, vh, G, N, H, by omega, by go_num, hP, hG1, by have := hG2.out; show _ ≤ _; omega, by have := hH.out; show _ ≤ _; omega, by have := hN.out; show _ ≤ _; omega⟩
      · go_wp2_with fail
        refine (step_any w wr κ bw vg vr vh G N H hP.out (by have := hG2.out; omega) (by have := hN.out; omega) (by have := hH.out; omega) kd A B C HO.out.2.2 vL y zs (HO.out.1.below hP.out.bel) HO.out.2.1).mono ?_
        rintro e w2 ⟨rfl, κ', vg', vr', vh', G', N', H', hP', hG1', hG2', hH', hN'⟩
        have HP2 : Hid (PlIn w w2 κ' bw vg' vr' vh' G' N' H') := hP'
        have HG1 : Hid (1 ≤ G'.length) := Nat.le_trans hG1.out hG1'
        have HG2 : Hid (G'.length ≤ i + 1 + 1) := by have := hG2.out; show _ ≤ _; omega
        have HH2 : Hid (H'.length ≤ 8 * (i + 1)) := by have := hH.out; show _ ≤ _; omega
        have HN2 : Hid (N' ≤ 2 * (i + 1)) := by have := hN.out; show _ ≤ _; omega
        clear hP' hG1' hG2' hH' hN' k0 k1 k2 k3 k4 k5 hP hG1 hG2 hH hN HO
        go_wp2_with fail
        refine (dry_any w w2 κ' bw vg' vr' vh' G' N' H' HP2.out (by have := HH2.out; omega)).mono ?_
        rintro e w3 ⟨rfl, hB3⟩
        have HP3 : Hid (PlIn w w3 κ' bw vg' vr' vh' G' N' H') := HP2.out.below hB3
        clear hB3 HP2
        go_wp2_with fail
        go_roundg (M - (i + 1))
        case measure => omega
        case rel => exact ⟨i + 1, κ', vg', vr', vh', G', N', H', by omega, by go_num, HP3, HG1, HG2, HH2, HN2⟩
    · have hGb : G.length ≤ 1048577 := by have := hG2.out; omega
      have HH0 : Hid (H.length ≤ 8 * M) := by have := hH.out; show _ ≤ _; omega
      have HN0 : Hid (N ≤ 2 * M) := by have := hN.out; show _ ≤ _; omega
      obtain ⟨aog, cpg, rfl⟩ := hP.out.gs.len
      have HP5 : Hid (PlIn w wr κ bw (.slice aog G.length cpg) vr vh G N H) := hP
      obtain ⟨vg, hvg⟩ : ∃ vg, vg = Value.slice aog G.length cpg := ⟨_, rfl⟩
      have HVG : Hid (vg = Value.slice aog G.length cpg) := hvg
      rw [← hvg] at HP5
      clear hP hH hN hG1 hG2 hr hvg
      go_wp2_with fail
      go_loopg [10] G.length (fun gk s10 wx => ∃ (k : Nat) (κ : Nat → Role) (vh : Value) (G' : List GSt) (N : Nat) (H : List HSt), k + gk = G.length ∧ s10 = .int .i64 k ∧ Hid (PlIn w wx κ bw vg vr vh G' N H) ∧ Hid (SameN G G') ∧ Hid (H.length ≤ 8 * M + 960 * k) ∧ Hid (N ≤ 2 * M + 240 * k))
      case atStart => exact ⟨0, κ, vh, G, N, H, by omega, rfl, HP5, SameN.refl G, by have := HH0.out; show _ ≤ _; omega, by have := HN0.out; show _ ≤ _; omega⟩
      case round =>
        clear HP5 HH0 HN0
        obtain ⟨k, κ, vh, G', N, H, hkg, rfl, hP, hS, hH, hN⟩ := hrel
        have c0 : wr.cell? ⟨bw, 0, none⟩ = some (.slice aog G.length cpg) := by rw [← HVG.out]; exact hP.out.c0
        by_cases hkl : k < G.length
        · obtain ⟨x, hx⟩ : ∃ x, G[k]? = some x := ⟨_, List.getElem?_eq_getElem hkl⟩
          have HX : Hid (G[k]? = some x) := hx
          have hn40 : x.n ≤ 40 := by
            obtain ⟨x', hx', hn'⟩ := hS.out.2 k x hx
            rw [← hn']
            exact (hP.out.gr k x' hx').2.le
          obtain ⟨n, hn⟩ : ∃ n, n = x.n := ⟨_, rfl⟩
          have HNX : Hid (n = x.n) := hn
          rw [← hn] at hn40
          clear hx hn
          go_wp2_with fail
          clear c0
          go_loopg [11] n (fun g2 s11 wy => ∃ (a : Nat) (κ : Nat → Role) (vh : Value) (G' : List GSt) (N : Nat) (H : List HSt), a + g2 = n ∧ s11 = .int .i64 a ∧ Hid (PlIn w wy κ bw vg vr vh G' N H) ∧ Hid (SameN G G') ∧ Hid (H.length ≤ 8 * M + 960 * k + 24 * a) ∧ Hid (N ≤ 2 * M + 240 * k + 6 * a))
          case atStart => exact ⟨0, κ, vh, G', N, H, by omega, rfl, hP, hS, by have := hH.out; show _ ≤ _; omega, by have := hN.out; show _ ≤ _; omega⟩
          case round =>
            clear hP hS hH hN
            obtain ⟨a, κ, vh, G', N, H, hag, rfl, hP, hS, hH, hN⟩ := hrel
            have c1 := hP.out.c1
            obtain ⟨x', hx', hn'⟩ := hS.out.2 k x HX.out
            have hkl' : k < G'.length := (List.getElem?_eq_some_iff.1 hx').1
            obtain ⟨gr, or, cr, hvr, cR, lR⟩ := hP.out.rs.at hkl' (u := rptr x') (by simp [hx'])
            rw [hvr, hS.out.1] at c1
            simp only [rptr] at cR
            have cN := (hP.out.gr k x' hx').2.c0
            rw [hn', ← HNX.out] at cN
            have HX4 : Hid (G'[k]? = some x') := hx'
            clear hx' hn' hkl' hvr lR
            by_cases han : a < n
            · go_wp2_with fail
              refine (graph_any w wr κ bw vg vr vh G' N H hP.out (by have := hS.out.1; omega) (by have := hN.out; omega) (by have := hH.out; omega) k x' HX4.out 6 a 0 0 (.slice none 0 0) false [] ⟨by simp, none, 0, rfl, .inl rfl⟩ (by simp)).mono ?_
              rintro e w5 ⟨rfl, κ5, vh5, G5, N5, H5, hP5, hS5, hH5, hN5⟩
              have HP5 : Hid (PlIn w w5 κ5 bw vg vr vh5 G5 N5 H5) := hP5
              have HS5 : Hid (SameN G G5) := hS.out.trans hS5
              have HH5 : Hid (H5.length ≤ 8 * M + 960 * k + 24 * a + 8 * 1) := by have := hH.out; show _ ≤ _; omega
              have HN5 : Hid (N5 ≤ 2 * M + 240 * k + 6 * a + 2 * 1) := by have := hN.out; show _ ≤ _; omega
              obtain ⟨x5, hx5, -⟩ := hS5.2 k x' HX4.out
              have HX5 : Hid (G5[k]? = some x5) := hx5
              clear hP5 hS5 hH5 hN5 hx5
              clear c1 cR cN
              go_wp2_with fail
              refine (graph_any w w5 κ5 bw vg vr vh5 G5 N5 H5 HP5.out (by have := HS5.out.1; omega) (by have := HN5.out; omega) (by have := HH5.out; omega) k x5 HX5.out 7 a 0 0 (.slice none 0 0) false [] ⟨by simp, none, 0, rfl, .inl rfl⟩ (by simp)).mono ?_
              rintro e w6 ⟨rfl, κ6, vh6, G6, N6, H6, hP6, hS6, hH6, hN6⟩
              have HP6 : Hid (PlIn w w6 κ6 bw vg vr vh6 G6 N6 H6) := hP6
              have HS6 : Hid (SameN G G6) := HS5.out.trans hS6
              have HH6 : Hid (H6.length ≤ 8 * M + 960 * k + 24 * a + 8 * 2) := by have := HH5.out; show _ ≤ _; omega
              have HN6 : Hid (N6 ≤ 2 * M + 240 * k + 6 * a + 2 * 2) := by have := HN5.out; show _ ≤ _; omega
              obtain ⟨x6, hx6, -⟩ := hS6.2 k x5 HX5.out
              have HX6 : Hid (G6[k]? = some x6) := hx6
              clear hP6 hS6 hH6 hN6 hx6
              by_cases hl10 : last < 10
              · go_wp2_with fail
                go_roundg (n - (a + 1))
                case measure => omega
                case rel => exact ⟨a + 1, κ6, vh6, G6, N6, H6, by omega, by go_num, HP6, HS6, by have := HH6.out; show _ ≤ _; omega, by have := HN6.out; show _ ≤ _; omega⟩
              · have q1 : decide (last < 10) = false := by simp; omega
                have q2 : ¬ last < 10 := hl10
                go_wp2_with fail
                refine (graph_any w w6 κ6 bw vg vr vh6 G6 N6 H6 HP6.out (by have := HS6.out.1; omega) (by have := HN6.out; omega) (by have := HH6.out; omega) k x6 HX6.out 10 a 0 0 (.slice none 0 0) false [] ⟨by simp, none, 0, rfl, .inl rfl⟩ (by simp)).mono ?_
                rintro e w7 ⟨rfl, κ7, vh7, G7, N7, H7, hP7, hS7, hH7, hN7⟩
                have HP7 : Hid (PlIn w w7 κ7 bw vg vr vh7 G7 N7 H7) := hP7
                have HS7 : Hid (SameN G G7) := HS6.out.trans hS7
                have HH7 : Hid (H7.length ≤ 8 * M + 960 * k + 24 * a + 8 * 3) := by have := HH6.out; show _ ≤ _; omega
                have HN7 : Hid (N7 ≤ 2 * M + 240 * k + 6 * a + 2 * 3) := by have := HN6.out; show _ ≤ _; omega
                obtain ⟨x7, hx7, -⟩ := hS7.2 k x6 HX6.out
                have HX7 : Hid (G7[k]? = some x7) := hx7
                clear hP7 hS7 hH7 hN7 hx7
                go_wp2_with fail
                go_roundg (n - (a + 1))
                case measure => omega
                case rel => exact ⟨a + 1, κ7, vh7, G7, N7, H7, by omega, by go_num, HP7, HS7, by have := HH7.out; show _ ≤ _; omega, by have := HN7.out; show _ ≤ _; omega⟩
            · go_wp2_with fail
              go_roundg (G.length - (k + 1))
              case measure => omega
              case rel => exact ⟨k + 1, κ, vh, G', N, H, by omega, by go_num, hP, hS, by have := hH.out; show _ ≤ _; omega, by have := hN.out; show _ ≤ _; omega⟩
        · go_wp2_with fail
          refine (dry_any w wr κ bw vg vr vh G' N H hP.out (by have := hH.out; omega)).mono ?_
          rintro e w9 ⟨rfl, hB9⟩
          have hfin : Hid (Below w.heap.size w w9) := hP.out.bel.trans (hB9.mono hP.out.bel.size)
          clear hB9
          go_wp2_with fail
          go_ret
          exact ⟨rfl, hfin.out⟩

end Go.Proofs.Ytbddcodljmglfaa
