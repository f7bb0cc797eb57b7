/- A program's run. -/
import Derived.Test.YtbddcodljmglfaaGreatDoorRunMem
import Derived.Deep.RegionWith
set_option linter.unusedSimpArgs false
set_option linter.unusedVariables false
namespace Go.Proofs.YtbddcodljmglfaaGreatDoor
open Go.RowKit

theorem next_mem {l : LineG} (h : LineOK l) (hw : l.word = 7 ∨ l.word = 8) (y : Int) : nextG l y ∈ l.leads := by
  unfold nextG
  rcases hw with hw | hw
  · have := h.one hw
    match hl : l.leads, this with
    | [a], _ => simp [hw]
  · have := h.two hw
    match hl : l.leads, this with
    | [a, b], _ => by_cases hy : y = 0 <;> simp [hw, hy]

set_option maxRecDepth 100000 in
set_option maxHeartbeats 8000000 in
theorem run_any (w : World) (base0 pb F : Nat) (av bv : Value) (A : List Ver) (B : List BV) (argv : Value) (xs : List Int) (hE : Env base0 w) (hbx : BoxIn w pb 52 [av, bv]) (hP : ProgIn w av bv A B) (hA : A.length ≤ 1000000) (hB : B.length ≤ 1000000) (hF : F ≤ 2000)
    (hx : RdS w 1 argv xs.length (ints xs)) (hx64 : ∀ x ∈ xs, fits64 x) (hg : ∀ b ∈ B, GoodB b.g) (hpos : 0 < B.length) (hlead : ∀ b ∈ B, ∀ l ∈ b.g.lines, ∀ k ∈ l.leads, k < B.length) (hmany : ∀ b ∈ B, b.lines.length ≤ 1000000) :
    Calls Tryz.prog 44 #[.pointer (some ⟨pb, 0, none⟩), argv, .int .i64 (F : Int)] w fun e w' => e = .returned (resV (runG (B.map BV.g) F (startG A xs) (linesAt (B.map BV.g) 0) [])) ∧ Below w.heap.size w w' := by
  have HST : Hid (∀ W, Below w.heap.size w W → Calls Tryz.prog 86 #[.pointer (some ⟨pb, 0, none⟩), argv] W fun e w' => (∃ m, e = .returned (.map (some m)) ∧ W.heap.size ≤ m ∧ VMap w' m (startG A xs)) ∧ Below W.heap.size W w') := fun W hb => start_any W pb av bv A B argv xs ((hbx.below hb).cell rfl) (hP.below hb) hA (hx.below hb)
  have HE : Hid (Env base0 w) := hE
  have HP : Hid (ProgIn w av bv A B) := hP
  have HBX : Hid (BoxIn w pb 52 [av, bv]) := hbx
  have HG : Hid (∀ b ∈ B, GoodB b.g) := hg
  have HLE : Hid (∀ b ∈ B, ∀ l ∈ b.g.lines, ∀ k ∈ l.leads, k < B.length) := hlead
  have HMA : Hid (∀ b ∈ B, b.lines.length ≤ 1000000) := hmany
  clear hE hP hbx hg hlead hmany hx
  go_enter Tryz.func44, Tryz.ntmps44
  go_wp2_with fail
  go_step3
  go_wp2_with (first
    | (go_at_call 86; refine (HST.out _ ((Below.refl _ _).alloc (Nat.le_refl _) _)).mono ?_; rintro e w1 ⟨⟨m, rfl, hm, hV⟩, hb⟩; have HR1 : Hid (BoxIn w1 w.heap.size 30 [.bool false, .int .i64 0, .string ⟨#[]⟩]) := (BoxIn.new w 30 [.bool false, .int .i64 0, .string ⟨#[]⟩]).below hb; have HB1 : Hid (Below w.heap.size w w1) := ((Below.refl _ _).alloc (Nat.le_refl _) _).trans (hb.mono (by simp)); have HM1 : Hid (w.heap.size + 1 ≤ m) := (by have := hm; simp at this; exact this); have HV1 : Hid (VMap w1 m _) := hV; clear hb hV hm))
  go_step3
  go_wp2_with fail
  obtain ⟨bs, hbs⟩ : ∃ bs, bs = B.map BV.g := ⟨_, rfl⟩
  have HBS : Hid (bs = B.map BV.g) := hbs
  obtain ⟨R, hR⟩ : ∃ R, R = runG bs F (startG A xs) (linesAt bs 0) [] := ⟨_, rfl⟩
  have HRR : Hid (R = runG bs F (startG A xs) (linesAt bs 0) []) := hR
  have HFV : Hid (FitV (startG A xs)) := FitV.start A xs hx64
  obtain ⟨N, hN⟩ : ∃ N, N = B.length := ⟨_, rfl⟩
  have HN : Hid (N = B.length) := hN
  rw [← hN] at hB hpos HLE
  clear hN hbs hR hx64 HST
  go_loopg [2, 8, 9] F (fun g v2 v8 v9 wr => ∃ (f b : Nat) (V : List (Ver × Int)) (tr : List Int), g = f ∧ v2 = .int .i64 f ∧ v9 = .int .i64 b ∧ b < N ∧ tr.length + f ≤ F ∧ Hid (RunIn w wr w.heap.size m V v8 tr) ∧ Hid (R = runG bs f V (linesAt bs b) tr))
  case atStart => exact ⟨F, 0, _, [], rfl, rfl, rfl, hpos, by simp, ⟨HR1.out, HV1.out, HM1.out, OwnS.nil _ _ _ _, HB1.out, HFV.out, by simp⟩, HRR⟩
  case round =>
    obtain ⟨f0, b, V0, tr0, hgf, rfl, rfl, hbN, htr0, hin0, hrun0⟩ := hrel
    have HGF : Hid (gk = f0) := hgf
    clear hgf
    obtain ⟨ao0, cp0, rfl⟩ := hin0.out.trace.len
    have hltB : b < B.length := by rw [← HN.out]; exact hbN
    obtain ⟨bb, hbb⟩ : ∃ bb, B[b] = bb := ⟨_, rfl⟩
    have hbm : bb ∈ B := by rw [← hbb]; exact List.getElem_mem hltB
    have hbw := hin0.out.bel
    have hpbl := HBX.out.lt
    obtain ⟨aoB, cpB, hbv, hcB, hrow⟩ := HP.out.rows.cell
    obtain ⟨gB, offB, haB, hgB, hcell⟩ := hrow (by omega)
    subst haB
    have c1 : wr.cell? ⟨pb, 1, none⟩ = some (.slice (some ⟨gB, offB, none⟩) N cpB) := (hbw.cell (p := ⟨pb, 1, none⟩) hpbl).trans ((HBX.out.cell (k := 1) rfl).trans (by rw [hbv, ← HN.out]))
    have hgood := HG.out bb hbm
    have hlead := HLE.out bb hbm
    have hmany := HMA.out bb hbm
    have hok := HP.out.blocks bb hbm
    obtain ⟨aoL, cpL, hlv, hcL, hlrow⟩ := hok.lines.1.cell
    have d2 : wr.cell? ⟨gB, offB + b * 3 + 2, none⟩ = some (.slice aoL bb.lines.length cpL) := (hbw.cell (p := ⟨gB, offB + b * 3 + 2, none⟩) hgB).trans (by rw [Nat.add_assoc]; exact hcell (b * 3 + 2) _ (by rw [cellsB_get hltB (by omega), hbb, ← hlv]; rfl))
    obtain ⟨M, hM⟩ : ∃ M, M = bb.lines.length := ⟨_, rfl⟩
    have HM : Hid (M = bb.lines.length) := hM
    rw [← hM] at d2 hmany hlrow
    have hlns : Hid (linesAt bs b = bb.lines.map (·.l)) := by
      show _ = _
      unfold linesAt
      rw [HBS.out, List.getElem?_map, List.getElem?_eq_getElem hltB, hbb]
      rfl
    have HGO : Hid (GoodB bb.g) := hgood
    have HLA : Hid (∀ l ∈ bb.g.lines, ∀ k ∈ l.leads, k < N) := hlead
    have HOK : Hid (bb.ok w w.heap.size) := hok
    have HLR : Hid (0 < M → ∃ g off, aoL = some ⟨g, off, none⟩ ∧ g < w.heap.size ∧ ∀ (j : Nat) (u : Value), (cellsL bb.lines)[j]? = some u → w.cell? ⟨g, off + j, none⟩ = some u) := hlrow
    have hb0 : (0 : Int) ≤ (b : Int) := by omega
    have hb1 : (b : Int) < (N : Int) := by omega
    rw [hlns.out] at hrun0
    have HBV : Hid (∀ (ao' : Option Addr) g' o' cp', ao' = some ⟨g', o', none⟩ → bv = .slice ao' B.length cp' → gB = g' ∧ offB = o' ∧ cpB = cp') := by
      intro ao' g' o' cp' h1 h2
      rw [hbv, h1] at h2
      injection h2 with h2 _ h4
      injection h2 with h2
      injection h2 with h2 h3 _
      exact ⟨h2, h3, h4⟩
    clear hgood hlead hok hlrow hcell hrow hbb hM hlv hbv
    go_wp2_with fail
    go_loopg [2, 8, 9, 27] M (fun g v2 v8 v9 v27 wr3 => ∃ (k f : Nat) (V : List (Ver × Int)) (tr : List Int), k + g = M ∧ v27 = .int .i64 k ∧ v9 = .int .i64 b ∧ v2 = .int .i64 f ∧ f + k = f0 ∧ tr.length + f ≤ F ∧ Hid (RunIn w wr3 w.heap.size m V v8 tr) ∧ Hid (R = runG bs f V ((bb.lines.drop k).map (·.l)) tr) ∧ Hid (∀ j x, j < k → bb.lines[j]? = some x → endsK x.l.word = false))
    case atStart => exact ⟨0, f0, V0, tr0, by omega, rfl, rfl, rfl, by omega, htr0, hin0, hrun0, fun j x h => absurd h (by omega)⟩
    case round =>
      clear hin0 hrun0 c1 d2 hbw htr0
      obtain ⟨k, f, V, tr, hkg, rfl, rfl, rfl, hfk, htr, hin, hrun, hnot⟩ := hrel
      obtain ⟨ao, cp, rfl⟩ := hin.out.trace.len
      by_cases hkM : k < M
      · have hltL : k < bb.lines.length := by rw [← HM.out]; exact hkM
        obtain ⟨x, hx⟩ : ∃ x, bb.lines[k] = x := ⟨_, rfl⟩
        have hxm : x ∈ bb.lines := by rw [← hx]; exact List.getElem_mem hltL
        have hdl : bb.lines.drop k = x :: bb.lines.drop (k + 1) := by rw [List.drop_eq_getElem_cons hltL, hx]
        obtain ⟨gL, offL, haL, hgL, hcellL⟩ := HLR.out (by omega)
        subst haL
        have hxo := HOK.out.line x hxm
        have hlo : LineOK x.l := HGO.out.ok x.l (List.mem_map.2 ⟨x, hxm, rfl⟩)
        obtain ⟨l, xtv, xlv⟩ := x
        obtain ⟨aoT, cpT, hxtv⟩ := hxo.1.form
        obtain ⟨aoE, cpE, hxlv⟩ := hxo.2.1.form
        simp only at hxtv hxlv
        subst hxtv
        subst hxlv
        replace hlo : LineOK l := hlo
        have hbel := hin.out.bel
        have hszr := hbel.size
        have hc : ∀ t, t < 6 → ∀ u, (LV.cells ⟨l, .slice aoT l.takes.length cpT, .slice aoE l.leads.length cpE⟩)[t]? = some u → wr.cell? ⟨gL, offL + k * 6 + t, none⟩ = some u := fun t ht u hu => (hbel.cell (p := ⟨gL, offL + k * 6 + t, none⟩) hgL).trans (by rw [Nat.add_assoc]; exact hcellL (k * 6 + t) u (by rw [cellsL_get hltL ht, hx]; exact hu))
        have HXO : Hid (∀ W, Below wr.heap.size wr W → LV.ok W ⟨l, .slice aoT l.takes.length cpT, .slice aoE l.leads.length cpE⟩) := fun W hb => by
          have hk : ∀ t, Keeps t w W := fun t => (Keeps.of_below hbel).trans (Keeps.of_below hb)
          exact hxo.keep (hk _) (hk _)
        have hld : Hid (∀ q ∈ l.leads, q < N) := HLA.out l (List.mem_map.2 ⟨_, hxm, rfl⟩)
        have hxx : Hid (bb.lines[k]? = some ⟨l, .slice aoT l.takes.length cpT, .slice aoE l.leads.length cpE⟩) := by show _ = _; rw [List.getElem?_eq_getElem hltL, hx]
        have hrun' : Hid (R = runG bs f V (l :: (bb.lines.drop (k + 1)).map (·.l)) tr) := by show _ = _; rw [hrun.out, hdl]; rfl
        clear hrun
        have hk0 : (0 : Int) ≤ (k : Int) := by omega
        have hk1 : (k : Int) < (M : Int) := by omega
        have HTA : Hid (∀ W, Below wr.heap.size wr W → Calls Tryz.prog 87 #[.map (some m), .agg (lineCells l (.slice aoT l.takes.length cpT) (.slice aoE l.leads.length cpE))] W fun e w' => e = .returned (.tuple #[.int .i64 (takenG V l).1, .int .i64 (takenG V l).2]) ∧ Below W.heap.size W w') := fun W hb => taken_any W m V ⟨l, .slice aoT l.takes.length cpT, .slice aoE l.leads.length cpE⟩ (hin.out.map.below hb) (HXO.out W hb) hlo
        have hyf := taken_fits hin.out.fits hlo
        have g0 := hc 0 (by omega) _ rfl
        have g1 := hc 1 (by omega) _ rfl
        have g2 := hc 2 (by omega) _ rfl
        have g3 := hc 3 (by omega) _ rfl
        have g4 := hc 4 (by omega) _ rfl
        have g5 := hc 5 (by omega) _ rfl
        rw [Nat.add_zero] at g0
        have HNT : Hid (endsK l.word = false → ∀ j x, j < k + 1 → bb.lines[j]? = some x → endsK x.l.word = false) := by
          intro he j x' hj hx'
          rcases Nat.lt_or_eq_of_le (Nat.le_of_lt_succ hj) with h | h
          · exact hnot.out j x' h hx'
          · subst h
            rw [hxx.out] at hx'
            injection hx' with hx'
            subst hx'
            exact he
        clear hx hdl hcellL hc hxo hnot
        by_cases hf0 : f = 0
        · subst hf0
          have hend : Hid (R = ⟨false, 0, tr⟩) := by show _ = _; rw [hrun'.out]; rfl
          have HJ : Hid (∀ W, Below wr.heap.size wr W → Calls Tryz.prog 66 #[.slice ao tr.length cp, .string ⟨#[32]⟩] W fun e w' => e = .returned (.string (traceB tr)) ∧ Below W.heap.size W w') := fun W hb => join_any W _ _ tr (by omega) hin.out.tfits (hin.out.below hb).trace
          clear hrun' HTA
          go_wp2_with (first
            | (go_at_call 66; refine (HJ.out _ ((Below.refl _ _).alloc (Nat.le_refl _) _)).mono ?_; rintro e w5 ⟨rfl, hb5⟩; have HB5 : Hid (Below wr.heap.size wr w5) := ((Below.refl _ _).alloc (Nat.le_refl _) _).trans (hb5.mono (by simp)); clear hb5)
            | (refine wpList_store_box aggRes rfl _ _ rfl _ rfl _ [.bool false, .int .i64 0, .string (traceB tr)] rfl (hin.out.below HB5.out).res rfl rfl (one_res _ _ _) ?_; intro w8 hb8 hg8 hs8))
          rw [Exit.noGoto_ret]
          refine bodyPost_ret (results_box1 aggRes Tryz.results44 rfl rfl hb8) rfl ?_
          refine ⟨?_, (hin.out.below HB5.out).bel.trans (hg8.below (by have := (hin.out.below HB5.out).hi; omega) (fun q hq => by omega))⟩
          rw [← HBS.out, ← HRR.out, hend.out]
          rfl
        · obtain ⟨f1, rfl⟩ : ∃ f1, f = f1 + 1 := ⟨f - 1, by omega⟩
          have hf0' : (((f1 : Int) + 1) == 0) = false := by rw [beq_eq_false_iff_ne]; omega
          have hyz : ∃ y z, takenG V l = (y, z) := ⟨_, _, rfl⟩
          obtain ⟨y, z, hyz⟩ := hyz
          rw [hyz] at HTA hyf
          have HYZ : Hid (takenG V l = (y, z)) := hyz
          have hY : Hid (fits64 y) := hyf
          have HLO : Hid (LineOK l) := hlo
          have hw10 := hlo.word
          clear hyz hyf hlo hf0
          unfold lineCells at HTA
          -- behind taken
          have H5 : Hid (∀ w5, Below (wr.alloc (.cells #[.int .i64 (l.word : Int), .string l.sets.1, .int .i64 (l.sets.2 : Int), .slice aoT l.takes.length cpT, .int .i64 l.number, .slice aoE l.leads.length cpE] 117)).heap.size (wr.alloc (.cells #[.int .i64 (l.word : Int), .string l.sets.1, .int .i64 (l.sets.2 : Int), .slice aoT l.takes.length cpT, .int .i64 l.number, .slice aoE l.leads.length cpE] 117)) w5 → Below wr.heap.size wr w5 ∧ BoxIn w5 wr.heap.size 117 [.int .i64 (l.word : Int), .string l.sets.1, .int .i64 (l.sets.2 : Int), .slice aoT l.takes.length cpT, .int .i64 l.number, .slice aoE l.leads.length cpE]) := fun w5 hb => ⟨((Below.refl _ _).alloc (Nat.le_refl _) _).trans (hb.mono (by simp)), (BoxIn.new wr 117 [.int .i64 (l.word : Int), .string l.sets.1, .int .i64 (l.sets.2 : Int), .slice aoT l.takes.length cpT, .int .i64 l.number, .slice aoE l.leads.length cpE]).below hb⟩
          rcases (by omega : l.word = 6 ∨ l.word = 7 ∨ l.word = 8 ∨ l.word = 9 ∨ l.word < 6) with hw | hw | hw | hw | hw
          · have hnx : Hid (R = runG bs f1 V ((bb.lines.drop (k + 1)).map (·.l)) (tr ++ [y])) := by
              show _ = _
              rw [hrun'.out]
              conv => lhs; unfold runG
              simp [HYZ.out, hw]
            have HFM : Hid (∀ W, Below wr.heap.size wr W → Calls Tryz.prog 88 #[.int .i64 y, .int .i64 10] W fun e w' => e = .returned (.string ⟨(Lib.itoa y).toArray⟩) ∧ Below W.heap.size W w') := fun W hb => format_any W base0 y hY.out.1 hY.out.2 (HE.out.below (hbel.trans (hb.mono hszr)))
            have hne : Hid (endsK l.word = false) := by show _ = _; rw [hw]; rfl
            have q6 : ((l.word : Int) == 6) = true := by rw [hw]; rfl
            obtain ⟨i0, hi, hz0, hz1, hz2⟩ := info_parts infoString
            clear hrun' hw hw10
            go_wp2_with (first
              | (go_at_call 87; refine (HTA.out _ ((Below.refl _ _).alloc (Nat.le_refl _) _)).mono ?_; rintro e w5 ⟨rfl, hb5⟩; obtain ⟨hb5', hbx5⟩ := H5.out w5 hb5; have HB5 : Hid (Below wr.heap.size wr w5) := hb5'; have HX5 : Hid (BoxIn w5 _ _ _) := hbx5; have e0 := hbx5.cell (k := 0) rfl; have e1 := hbx5.cell (k := 1) rfl; have e2 := hbx5.cell (k := 2) rfl; have e3 := hbx5.cell (k := 3) rfl; have e4 := hbx5.cell (k := 4) rfl; have e5 := hbx5.cell (k := 5) rfl; clear hb5 hb5' hbx5)
              | (go_at_call 88; refine (HFM.out _ HB5.out).mono ?_; rintro e w6 ⟨rfl, hb6⟩; have HB6 : Hid (Below wr.heap.size wr w6) := HB5.out.trans (hb6.mono HB5.out.size); clear hb6)
              | (at_builtin; refine wpList_append_ownS _ rfl _ _ 62 rfl (w.heap.size + 1) 9 i0 (.string ByteArray.empty) 1 16 Tryz.underlying62 hi hz0 hz1 hz2 rfl (by decide) _ _ _ rfl ((hin.out.below HB6.out).trace.alloc _) ⟨w6.heap.size, 0, none⟩ 1 1 [.string ⟨(Lib.itoa y).toArray⟩] rfl rfl (cell_newL _ [_] _ _ rfl) (one1 rfl) (by decide) (by unfold maxLen; omega) (by omega) (by have := (hin.out.below HB6.out).hi; simp; omega) ?_; intro g' off' cap' w7 hown7 hgrow7 hloc7 hlt7; have HR7 : Hid (RunIn w w7 w.heap.size m V (.slice (some ⟨g', off', none⟩) (tr.length + 1) cap') (tr ++ [y])) := (hin.out.below HB6.out).put hown7 hgrow7 hY.out; clear hown7 hgrow7 hloc7))
            go_roundg (M - (k + 1))
            case measure => omega
            case rel => exact ⟨k + 1, f1, V, tr ++ [y], by omega, by go_num, rfl, by go_num, by omega, by simp; omega, HR7, hnx, HNT.out hne.out⟩
          · have hnx : Hid (R = runG bs f1 V (linesAt bs (nextG l y)) tr) := by
              show _ = _
              rw [hrun'.out]
              conv => lhs; unfold runG
              simp [HYZ.out, hw]
            have HNE : Hid (∀ W, Below wr.heap.size wr W → Calls Tryz.prog 89 #[.agg #[.int .i64 (l.word : Int), .string l.sets.1, .int .i64 (l.sets.2 : Int), .slice aoT l.takes.length cpT, .int .i64 l.number, .slice aoE l.leads.length cpE], .int .i64 y] W fun e w' => e = .returned (.int .i64 (nextG l y : Int)) ∧ Below W.heap.size W w') := fun W hb => next_any W ⟨l, .slice aoT l.takes.length cpT, .slice aoE l.leads.length cpE⟩ y (HXO.out W hb) HLO.out (by simp [hw])
            have hnN : nextG l y < N := by
              have hq : nextG l y ∈ l.leads := next_mem HLO.out (by simp [hw]) y
              exact hld.out _ hq
            have hltB2 : nextG l y < B.length := by rw [← HN.out]; exact hnN
            obtain ⟨b2, hb2⟩ : ∃ b2, B[nextG l y] = b2 := ⟨_, rfl⟩
            have hbm2 : b2 ∈ B := by rw [← hb2]; exact List.getElem_mem hltB2
            have hph : b2.phis = [] := by
              have := (HG.out b2 hbm2).phis
              simpa [BV.g] using this
            obtain ⟨aoQ, cpQ, hpv, -, -⟩ := (HP.out.blocks b2 hbm2).phis.1.cell
            rw [hph] at hpv
            have HC1 : Hid (∀ W, Below wr.heap.size wr W → W.cell? ⟨pb, 1, none⟩ = some (.slice (some ⟨gB, offB, none⟩) N cpB) ∧ W.cell? ⟨gB, offB + nextG l y * 3 + 1, none⟩ = some (.slice aoQ 0 cpQ)) := by
              intro W hb
              have hbW : Below w.heap.size w W := hbel.trans (hb.mono hszr)
              obtain ⟨aoB', cpB', hbv', -, hrow'⟩ := HP.out.rows.cell
              obtain ⟨gB', offB', haB', hgB', hcell'⟩ := hrow' (by omega)
              obtain ⟨x1, x2, x3⟩ := HBV.out _ _ _ _ haB' hbv'
              subst x1 x2 x3
              refine ⟨(hbW.cell (p := ⟨pb, 1, none⟩) hpbl).trans ((HBX.out.cell (k := 1) rfl).trans (by rw [hbv', haB', ← HN.out])), (hbW.cell (p := ⟨gB, offB + nextG l y * 3 + 1, none⟩) hgB').trans (by rw [Nat.add_assoc]; exact hcell' (nextG l y * 3 + 1) _ (by rw [cellsB_get hltB2 (by omega), hb2]; show [_, b2.pv, _][1]? = _; rw [hpv]; first | done | rfl))⟩
            have HME : Hid (∀ W, Calls Tryz.prog 90 #[.map (some m), .slice aoQ 0 cpQ, .int .i64 (b : Int)] W fun e w' => e = .returned (.tuple #[]) ∧ Below W.heap.size W w') := fun W => meet_none W m _ cpQ aoQ b rfl
            obtain ⟨nx, hnxe⟩ : ∃ nx, nx = nextG l y := ⟨_, rfl⟩
            rw [← hnxe] at hnx HNE hnN HC1
            have q6 : ((l.word : Int) == 6) = false := by rw [hw]; rfl
            have q7 : ((l.word : Int) == 7) = true := by rw [hw]; rfl
            have hn0 : (0 : Int) ≤ (nx : Int) := by omega
            have hn1 : (nx : Int) < (N : Int) := by omega
            clear hrun' hw hw10 hnxe hltB2 hb2 hbm2 hph hpv
            go_wp2_with (first
              | (go_at_call 87; refine (HTA.out _ ((Below.refl _ _).alloc (Nat.le_refl _) _)).mono ?_; rintro e w5 ⟨rfl, hb5⟩; obtain ⟨hb5', hbx5⟩ := H5.out w5 hb5; have HB5 : Hid (Below wr.heap.size wr w5) := hb5'; have HX5 : Hid (BoxIn w5 _ _ _) := hbx5; have e0 := hbx5.cell (k := 0) rfl; have e1 := hbx5.cell (k := 1) rfl; have e2 := hbx5.cell (k := 2) rfl; have e3 := hbx5.cell (k := 3) rfl; have e4 := hbx5.cell (k := 4) rfl; have e5 := hbx5.cell (k := 5) rfl; clear hb5 hb5' hbx5)
              | (go_at_call 89; refine (HNE.out _ HB5.out).mono ?_; rintro e w6 ⟨rfl, hb6⟩; have HB6 : Hid (Below wr.heap.size wr w6) := HB5.out.trans (hb6.mono HB5.out.size); obtain ⟨k1, k2⟩ := HC1.out w6 HB6.out; clear hb6)
              | (go_at_call 90; refine (HME.out _).mono ?_; rintro e w7 ⟨rfl, hb7⟩; have HB7 : Hid (Below wr.heap.size wr w7) := HB6.out.trans (hb7.mono HB6.out.size); clear hb7))
            go_roundg f1
            case measure => have := HGF.out; omega
            case rel => exact ⟨f1, nx, V, tr, rfl, by go_num, rfl, hnN, by omega, hin.out.below HB7.out, hnx⟩
          · have hnx : Hid (R = runG bs f1 V (linesAt bs (nextG l y)) tr) := by
              show _ = _
              rw [hrun'.out]
              conv => lhs; unfold runG
              simp [HYZ.out, hw]
            have HNE : Hid (∀ W, Below wr.heap.size wr W → Calls Tryz.prog 89 #[.agg #[.int .i64 (l.word : Int), .string l.sets.1, .int .i64 (l.sets.2 : Int), .slice aoT l.takes.length cpT, .int .i64 l.number, .slice aoE l.leads.length cpE], .int .i64 y] W fun e w' => e = .returned (.int .i64 (nextG l y : Int)) ∧ Below W.heap.size W w') := fun W hb => next_any W ⟨l, .slice aoT l.takes.length cpT, .slice aoE l.leads.length cpE⟩ y (HXO.out W hb) HLO.out (by simp [hw])
            have hnN : nextG l y < N := by
              have hq : nextG l y ∈ l.leads := next_mem HLO.out (by simp [hw]) y
              exact hld.out _ hq
            have hltB2 : nextG l y < B.length := by rw [← HN.out]; exact hnN
            obtain ⟨b2, hb2⟩ : ∃ b2, B[nextG l y] = b2 := ⟨_, rfl⟩
            have hbm2 : b2 ∈ B := by rw [← hb2]; exact List.getElem_mem hltB2
            have hph : b2.phis = [] := by
              have := (HG.out b2 hbm2).phis
              simpa [BV.g] using this
            obtain ⟨aoQ, cpQ, hpv, -, -⟩ := (HP.out.blocks b2 hbm2).phis.1.cell
            rw [hph] at hpv
            have HC1 : Hid (∀ W, Below wr.heap.size wr W → W.cell? ⟨pb, 1, none⟩ = some (.slice (some ⟨gB, offB, none⟩) N cpB) ∧ W.cell? ⟨gB, offB + nextG l y * 3 + 1, none⟩ = some (.slice aoQ 0 cpQ)) := by
              intro W hb
              have hbW : Below w.heap.size w W := hbel.trans (hb.mono hszr)
              obtain ⟨aoB', cpB', hbv', -, hrow'⟩ := HP.out.rows.cell
              obtain ⟨gB', offB', haB', hgB', hcell'⟩ := hrow' (by omega)
              obtain ⟨x1, x2, x3⟩ := HBV.out _ _ _ _ haB' hbv'
              subst x1 x2 x3
              refine ⟨(hbW.cell (p := ⟨pb, 1, none⟩) hpbl).trans ((HBX.out.cell (k := 1) rfl).trans (by rw [hbv', haB', ← HN.out])), (hbW.cell (p := ⟨gB, offB + nextG l y * 3 + 1, none⟩) hgB').trans (by rw [Nat.add_assoc]; exact hcell' (nextG l y * 3 + 1) _ (by rw [cellsB_get hltB2 (by omega), hb2]; show [_, b2.pv, _][1]? = _; rw [hpv]; first | done | rfl))⟩
            have HME : Hid (∀ W, Calls Tryz.prog 90 #[.map (some m), .slice aoQ 0 cpQ, .int .i64 (b : Int)] W fun e w' => e = .returned (.tuple #[]) ∧ Below W.heap.size W w') := fun W => meet_none W m _ cpQ aoQ b rfl
            obtain ⟨nx, hnxe⟩ : ∃ nx, nx = nextG l y := ⟨_, rfl⟩
            rw [← hnxe] at hnx HNE hnN HC1
            have q6 : ((l.word : Int) == 6) = false := by rw [hw]; rfl
            have q7 : ((l.word : Int) == 7) = false := by rw [hw]; rfl
            have q8 : ((l.word : Int) == 8) = true := by rw [hw]; rfl
            have hn0 : (0 : Int) ≤ (nx : Int) := by omega
            have hn1 : (nx : Int) < (N : Int) := by omega
            clear hrun' hw hw10 hnxe hltB2 hb2 hbm2 hph hpv
            go_wp2_with (first
              | (go_at_call 87; refine (HTA.out _ ((Below.refl _ _).alloc (Nat.le_refl _) _)).mono ?_; rintro e w5 ⟨rfl, hb5⟩; obtain ⟨hb5', hbx5⟩ := H5.out w5 hb5; have HB5 : Hid (Below wr.heap.size wr w5) := hb5'; have HX5 : Hid (BoxIn w5 _ _ _) := hbx5; have e0 := hbx5.cell (k := 0) rfl; have e1 := hbx5.cell (k := 1) rfl; have e2 := hbx5.cell (k := 2) rfl; have e3 := hbx5.cell (k := 3) rfl; have e4 := hbx5.cell (k := 4) rfl; have e5 := hbx5.cell (k := 5) rfl; clear hb5 hb5' hbx5)
              | (go_at_call 89; refine (HNE.out _ HB5.out).mono ?_; rintro e w6 ⟨rfl, hb6⟩; have HB6 : Hid (Below wr.heap.size wr w6) := HB5.out.trans (hb6.mono HB5.out.size); obtain ⟨k1, k2⟩ := HC1.out w6 HB6.out; clear hb6)
              | (go_at_call 90; refine (HME.out _).mono ?_; rintro e w7 ⟨rfl, hb7⟩; have HB7 : Hid (Below wr.heap.size wr w7) := HB6.out.trans (hb7.mono HB6.out.size); clear hb7))
            go_roundg f1
            case measure => have := HGF.out; omega
            case rel => exact ⟨f1, nx, V, tr, rfl, by go_num, rfl, hnN, by omega, hin.out.below HB7.out, hnx⟩
          · have hend : Hid (R = ⟨true, y, tr⟩) := by
              show _ = _
              rw [hrun'.out]
              unfold runG
              simp [HYZ.out, hw]
            have HJ : Hid (∀ W, Below wr.heap.size wr W → Calls Tryz.prog 66 #[.slice ao tr.length cp, .string ⟨#[32]⟩] W fun e w' => e = .returned (.string (traceB tr)) ∧ Below W.heap.size W w') := fun W hb => join_any W _ _ tr (by omega) hin.out.tfits (hin.out.below hb).trace
            have q6 : ((l.word : Int) == 6) = false := by rw [hw]; rfl
            have q7 : ((l.word : Int) == 7) = false := by rw [hw]; rfl
            have q8 : ((l.word : Int) == 8) = false := by rw [hw]; rfl
            have q9 : ((l.word : Int) == 9) = true := by rw [hw]; rfl
            clear hrun' hw hw10
            go_wp2_with (first
              | (go_at_call 87; refine (HTA.out _ ((Below.refl _ _).alloc (Nat.le_refl _) _)).mono ?_; rintro e w5 ⟨rfl, hb5⟩; obtain ⟨hb5', hbx5⟩ := H5.out w5 hb5; have HB5 : Hid (Below wr.heap.size wr w5) := hb5'; have e0 := hbx5.cell (k := 0) rfl; clear hb5 hb5' hbx5)
              | (go_at_call 66; refine (HJ.out _ HB5.out).mono ?_; rintro e w6 ⟨rfl, hb6⟩; have HB6 : Hid (Below wr.heap.size wr w6) := HB5.out.trans (hb6.mono HB5.out.size); clear hb6)
              | (refine wpList_store_box aggRes rfl _ _ rfl _ rfl _ [.bool true, .int .i64 y, .string (traceB tr)] rfl (hin.out.below HB6.out).res rfl rfl (one_res _ _ _) ?_; intro w8 hb8 hg8 hs8))
            rw [Exit.noGoto_ret]
            refine bodyPost_ret (results_box1 aggRes Tryz.results44 rfl rfl hb8) rfl ?_
            refine ⟨?_, (hin.out.below HB6.out).bel.trans (hg8.below (by have := (hin.out.below HB6.out).hi; omega) (fun q hq => by omega))⟩
            rw [← HBS.out, ← HRR.out, hend.out]
            rfl
          · have hnx : Hid (R = runG bs f1 (putV V l.sets (reckonG l.word y z)) ((bb.lines.drop (k + 1)).map (·.l)) tr) := by
              show _ = _
              rw [hrun'.out]
              conv => lhs; unfold runG
              rw [if_neg (by omega), if_neg (by omega), if_neg (by omega), HYZ.out]
            have HRE : Hid (∀ W, Calls Tryz.prog 91 #[.int .i64 (l.word : Int), .int .i64 y, .int .i64 z] W fun e w' => e = .returned (.int .i64 (reckonG l.word y z)) ∧ w' = W) := fun W => reckon_any W l.word y z hw10
            have hne : Hid (endsK l.word = false) := by
              show _ = _
              unfold endsK
              rw [Bool.or_eq_false_iff, Bool.or_eq_false_iff, beq_eq_false_iff_ne, beq_eq_false_iff_ne, beq_eq_false_iff_ne]
              omega
            have hrf : Hid (fits64 (reckonG l.word y z)) := reckon_fits l.word hY.out
            generalize reckonG l.word y z = rk at *
            have q6 : ((l.word : Int) == 6) = false := by rw [beq_eq_false_iff_ne]; omega
            have q7 : ((l.word : Int) == 7) = false := by rw [beq_eq_false_iff_ne]; omega
            have q8 : ((l.word : Int) == 8) = false := by rw [beq_eq_false_iff_ne]; omega
            have q9 : ((l.word : Int) == 9) = false := by rw [beq_eq_false_iff_ne]; omega
            clear hrun' hw hw10
            go_wp2_with (first
              | (go_at_call 87; refine (HTA.out _ ((Below.refl _ _).alloc (Nat.le_refl _) _)).mono ?_; rintro e w5 ⟨rfl, hb5⟩; obtain ⟨hb5', hbx5⟩ := H5.out w5 hb5; have HB5 : Hid (Below wr.heap.size wr w5) := hb5'; have HX5 : Hid (BoxIn w5 _ _ _) := hbx5; have e0 := hbx5.cell (k := 0) rfl; have e1 := hbx5.cell (k := 1) rfl; have e2 := hbx5.cell (k := 2) rfl; have e3 := hbx5.cell (k := 3) rfl; have e4 := hbx5.cell (k := 4) rfl; have e5 := hbx5.cell (k := 5) rfl; clear hb5 hb5' hbx5))
            obtain ⟨w9, hup, hv9, ho9, hs9, hos9, htp9, hou9⟩ := (((hin.out.below HB5.out).map).of_block (w' := w5.drew) rfl).update l.sets rk
            unfold vkey at hup
            have HR9 : Hid (RunIn w w9 w.heap.size m (putV V l.sets rk) (.slice ao tr.length cp) tr) := ((hin.out.below HB5.out).below (Below.refl _ _).drew).update hv9 (hin.out.fits.put _ hrf.out) ho9 hs9 hos9 htp9 hou9
            have hmlt := hin.out.map.lt
            have HS9 : Hid (w9.cell? ⟨wr.heap.size, 0, none⟩ = some (.int .i64 (l.word : Int)) ∧ w9.cell? ⟨wr.heap.size, 1, none⟩ = some (.string l.sets.1) ∧ w9.cell? ⟨wr.heap.size, 2, none⟩ = some (.int .i64 (l.sets.2 : Int))) := ⟨(World.cell?_of_block (ho9 _ (by show wr.heap.size ≠ m; omega))).trans e0, (World.cell?_of_block (ho9 _ (by show wr.heap.size ≠ m; omega))).trans e1, (World.cell?_of_block (ho9 _ (by show wr.heap.size ≠ m; omega))).trans e2⟩
            clear hv9 ho9 hs9 hos9 htp9 hou9
            go_region_held3 (fun w' => w'.cell? ⟨wr.heap.size, 0, none⟩ = some (.int .i64 (l.word : Int)) ∧ w'.cell? ⟨wr.heap.size, 1, none⟩ = some (.string l.sets.1) ∧ w'.cell? ⟨wr.heap.size, 2, none⟩ = some (.int .i64 (l.sets.2 : Int))) (first | exact HS9.out | exact ⟨e0, e1, e2⟩ | go_keep)
              (first | (go_at_call 91; refine (HRE.out _).mono ?_; rintro e w' ⟨rfl, rfl⟩))
            go_wp2_with fail
            go_roundg (M - (k + 1))
            case measure => omega
            case rel => exact ⟨k + 1, f1, _, tr, by omega, by go_num, rfl, by go_num, by omega, by omega, HR9, hnx, HNT.out hne.out⟩
      · exfalso
        obtain ⟨pre, last, hpl, hle, -⟩ := HGO.out.lines
        have hl2 : (bb.lines.map (·.l)) = pre ++ [last] := hpl
        have hlen : bb.lines.length = pre.length + 1 := by
          have := congrArg List.length hl2
          simpa using this
        obtain ⟨xl, hxl⟩ : ∃ xl, bb.lines[pre.length]? = some xl := ⟨_, List.getElem?_eq_getElem (by omega)⟩
        have h3 : (bb.lines.map (·.l))[pre.length]? = some last := by rw [hl2]; simp
        rw [List.getElem?_map, hxl] at h3
        simp at h3
        have := hnot.out pre.length xl (by have := HM.out; omega) hxl
        rw [h3, hle] at this
        cases this

end Go.Proofs.YtbddcodljmglfaaGreatDoor
