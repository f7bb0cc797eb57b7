/- A form's run. And what follows on it. -/
import Derived.Test.YtbddcodljmglfaaGreatDoorExecA
import Derived.Deep.RegionWith
import Derived.Test.YtbddcodljmglfaaGreatDoorTopA
set_option linter.unusedSimpArgs false
set_option linter.unusedVariables false
namespace Go.Proofs.YtbddcodljmglfaaGreatDoor
open Go.RowKit

theorem FitV.putAll {V : List (Ver × Int)} (h : FitV V) : ∀ (l : List (Ver × Int)), (∀ x ∈ l, fits64 x.2) → FitV (putAll V l) := by
  intro l
  induction l generalizing V with
  | nil => intro _; exact h
  | cons y r ih => intro hl; exact ih (h.put y.1 (hl y (by simp))) (fun z hz => hl z (List.mem_cons_of_mem _ hz))
theorem FitV.meet {V : List (Ver × Int)} (h : FitV V) (ps : List PhiG) (fr : Nat) : FitV (meetG V ps fr) := by
  refine h.putAll _ (fun x hx => ?_)
  obtain ⟨p, -, rfl⟩ := List.mem_map.1 hx
  exact h.get _
theorem RunIn.met {w wr w' : World} {H m : Nat} {V V' : List (Ver × Int)} {tv : Value} {tr : List Int} (h : RunIn w wr H m V tv tr) (hm : VMap w' m V') (hf : FitV V') (hg : Grew wr w' (fun k => k = m)) : RunIn w w' H m V' tv tr := by
  have hlo := h.lo
  have hhi := h.hi
  exact ⟨h.res.of_block (hg.block _ (by omega) (by omega)), hm, h.lo, h.trace.of_block fun k hk => hg.block k (fun e => h.apart (by rw [← e]; exact hk)) (h.trace.lt k hk).2, h.bel.trans ⟨hg.os, hg.tape, hg.output, hg.size, fun k hk => hg.block k (by omega) (by omega)⟩, hf, h.tfits⟩

set_option maxRecDepth 100000 in
set_option maxHeartbeats 8000000 in
theorem runF_any (w : World) (base0 pb F : Nat) (av bv : Value) (A : List Ver) (B : List BV) (argv : Value) (xs : List Int) (hE : Env base0 w) (hbx : BoxIn w pb 52 [av, bv]) (hP : ProgIn w av bv A B) (hA : A.length ≤ 1000000) (hB : B.length ≤ 1000000) (hF : F ≤ 2000)
    (hx : RdS w 1 argv xs.length (ints xs)) (hx64 : ∀ x ∈ xs, fits64 x) (hg : ∀ b ∈ B, GoodF b.g) (hpos : 0 < B.length) (hlead : ∀ b ∈ B, ∀ l ∈ b.g.lines, ∀ k ∈ l.leads, k < B.length) (hmany : ∀ b ∈ B, b.lines.length ≤ 1000000 ∧ b.phis.length ≤ 1000) :
    Calls Tryz.prog 44 #[.pointer (some ⟨pb, 0, none⟩), argv, .int .i64 (F : Int)] w fun e w' => e = .returned (resV (runF (B.map BV.g) F (startG A xs) 0 (linesAt (B.map BV.g) 0) [])) ∧ Below w.heap.size w w' := by
  have HST : Hid (∀ W, Below w.heap.size w W → Calls Tryz.prog 86 #[.pointer (some ⟨pb, 0, none⟩), argv] W fun e w' => (∃ m, e = .returned (.map (some m)) ∧ W.heap.size ≤ m ∧ VMap w' m (startG A xs)) ∧ Below W.heap.size W w') := fun W hb => start_any W pb av bv A B argv xs ((hbx.below hb).cell rfl) (hP.below hb) hA (hx.below hb)
  have HE : Hid (Env base0 w) := hE
  have HP : Hid (ProgIn w av bv A B) := hP
  have HBX : Hid (BoxIn w pb 52 [av, bv]) := hbx
  have HG : Hid (∀ b ∈ B, GoodF b.g) := hg
  have HLE : Hid (∀ b ∈ B, ∀ l ∈ b.g.lines, ∀ k ∈ l.leads, k < B.length) := hlead
  have HMA : Hid (∀ b ∈ B, b.lines.length ≤ 1000000 ∧ b.phis.length ≤ 1000) := hmany
  clear hE hP hbx hg hlead hmany hx
  go_enter Tryz.func44, Tryz.ntmps44
  go_wp2_with fail
  go_step3
  go_wp2_with (first
    | (go_at_call 86; refine (HST.out _ ((Below.refl _ _).alloc (Nat.le_refl _) _)).mono ?_; rintro e w1 ⟨⟨m, rfl, hm, hV⟩, hb⟩; have HR1 : Hid (BoxIn w1 w.heap.size 30 [.bool false, .int .i64 0, .string ⟨#[]⟩]) := (BoxIn.new w 30 [.bool false, .int .i64 0, .string ⟨#[]⟩]).below hb; have HB1 : Hid (Below w.heap.size w w1) := ((Below.refl _ _).alloc (Nat.le_refl _) _).trans (hb.mono (by simp)); have HM1 : Hid (w.heap.size + 1 ≤ m) := (by have := hm; simp at this; exact this); have HV1 : Hid (VMap w1 m _) := hV; clear hb hV hm))
  go_step3
  go_wp2_with fail
  obtain ⟨bs, hbs⟩ : ∃ bs, bs = B.map BV.g := ⟨_, rfl⟩
  have HBS : Hid (bs = B.map BV.g) := hbs
  obtain ⟨R, hR⟩ : ∃ R, R = runF bs F (startG A xs) 0 (linesAt bs 0) [] := ⟨_, rfl⟩
  have HRR : Hid (R = runF bs F (startG A xs) 0 (linesAt bs 0) []) := hR
  have HFV : Hid (FitV (startG A xs)) := FitV.start A xs hx64
  obtain ⟨N, hN⟩ : ∃ N, N = B.length := ⟨_, rfl⟩
  have HN : Hid (N = B.length) := hN
  rw [← hN] at hB hpos HLE
  clear hN hbs hR hx64 HST
  go_loopg [2, 8, 9] F (fun g v2 v8 v9 wr => ∃ (f b : Nat) (V : List (Ver × Int)) (tr : List Int), g = f ∧ v2 = .int .i64 f ∧ v9 = .int .i64 b ∧ b < N ∧ tr.length + f ≤ F ∧ Hid (RunIn w wr w.heap.size m V v8 tr) ∧ Hid (R = runF bs f V b (linesAt bs b) tr))
  case atStart => exact ⟨F, 0, _, [], rfl, rfl, rfl, hpos, by simp, ⟨HR1.out, HV1.out, HM1.out, OwnS.nil _ _ _ _, HB1.out, HFV.out, by simp⟩, HRR⟩
  case round =>
    obtain ⟨f0, b, V0, tr0, hgf, rfl, rfl, hbN, htr0, hin0, hrun0⟩ := hrel
    have HGF : Hid (gk = f0) := hgf
    clear hgf
    obtain ⟨ao0, cp0, rfl⟩ := hin0.out.trace.len
    have hltB : b < B.length := by rw [← HN.out]; exact hbN
    obtain ⟨bb, hbb⟩ : ∃ bb, B[b] = bb := ⟨_, rfl⟩
    have hbm : bb ∈ B := by rw [← hbb]; exact List.getElem_mem hltB
    have hbw := hin0.out.bel
    have hpbl := HBX.out.lt
    obtain ⟨aoB, cpB, hbv, hcB, hrow⟩ := HP.out.rows.cell
    obtain ⟨gB, offB, haB, hgB, hcell⟩ := hrow (by omega)
    subst haB
    have c1 : wr.cell? ⟨pb, 1, none⟩ = some (.slice (some ⟨gB, offB, none⟩) N cpB) := (hbw.cell (p := ⟨pb, 1, none⟩) hpbl).trans ((HBX.out.cell (k := 1) rfl).trans (by rw [hbv, ← HN.out]))
    have hgood := HG.out bb hbm
    have hlead := HLE.out bb hbm
    have hmany := (HMA.out bb hbm).1
    have hok := HP.out.blocks bb hbm
    obtain ⟨aoL, cpL, hlv, hcL, hlrow⟩ := hok.lines.1.cell
    have d2 : wr.cell? ⟨gB, offB + b * 3 + 2, none⟩ = some (.slice aoL bb.lines.length cpL) := (hbw.cell (p := ⟨gB, offB + b * 3 + 2, none⟩) hgB).trans (by rw [Nat.add_assoc]; exact hcell (b * 3 + 2) _ (by rw [cellsB_get hltB (by omega), hbb, ← hlv]; rfl))
    obtain ⟨M, hM⟩ : ∃ M, M = bb.lines.length := ⟨_, rfl⟩
    have HM : Hid (M = bb.lines.length) := hM
    rw [← hM] at d2 hmany hlrow
    have hlns : Hid (linesAt bs b = bb.lines.map (·.l)) := by
      show _ = _
      unfold linesAt
      rw [HBS.out, List.getElem?_map, List.getElem?_eq_getElem hltB, hbb]
      rfl
    have HGO : Hid (GoodF bb.g) := hgood
    have HLA : Hid (∀ l ∈ bb.g.lines, ∀ k ∈ l.leads, k < N) := hlead
    have HOK : Hid (bb.ok w w.heap.size) := hok
    have HLR : Hid (0 < M → ∃ g off, aoL = some ⟨g, off, none⟩ ∧ g < w.heap.size ∧ ∀ (j : Nat) (u : Value), (cellsL bb.lines)[j]? = some u → w.cell? ⟨g, off + j, none⟩ = some u) := hlrow
    have hb0 : (0 : Int) ≤ (b : Int) := by omega
    have hb1 : (b : Int) < (N : Int) := by omega
    rw [hlns.out] at hrun0
    have HBV : Hid (∀ (ao' : Option Addr) g' o' cp', ao' = some ⟨g', o', none⟩ → bv = .slice ao' B.length cp' → gB = g' ∧ offB = o' ∧ cpB = cp') := by
      intro ao' g' o' cp' h1 h2
      rw [hbv, h1] at h2
      injection h2 with h2 _ h4
      injection h2 with h2
      injection h2 with h2 h3 _
      exact ⟨h2, h3, h4⟩
    clear hgood hlead hok hlrow hcell hrow hbb hM hlv hbv
    go_wp2_with fail
    go_loopg [2, 8, 9, 27] M (fun g v2 v8 v9 v27 wr3 => ∃ (k f : Nat) (V : List (Ver × Int)) (tr : List Int), k + g = M ∧ v27 = .int .i64 k ∧ v9 = .int .i64 b ∧ v2 = .int .i64 f ∧ f + k = f0 ∧ tr.length + f ≤ F ∧ Hid (RunIn w wr3 w.heap.size m V v8 tr) ∧ Hid (R = runF bs f V b ((bb.lines.drop k).map (·.l)) tr) ∧ Hid (∀ j x, j < k → bb.lines[j]? = some x → endsK x.l.word = false))
    case atStart => exact ⟨0, f0, V0, tr0, by omega, rfl, rfl, rfl, by omega, htr0, hin0, hrun0, fun j x h => absurd h (by omega)⟩
    case round =>
      clear hin0 hrun0 c1 d2 hbw htr0
      obtain ⟨k, f, V, tr, hkg, rfl, rfl, rfl, hfk, htr, hin, hrun, hnot⟩ := hrel
      obtain ⟨ao, cp, rfl⟩ := hin.out.trace.len
      by_cases hkM : k < M
      · have hltL : k < bb.lines.length := by rw [← HM.out]; exact hkM
        obtain ⟨x, hx⟩ : ∃ x, bb.lines[k] = x := ⟨_, rfl⟩
        have hxm : x ∈ bb.lines := by rw [← hx]; exact List.getElem_mem hltL
        have hdl : bb.lines.drop k = x :: bb.lines.drop (k + 1) := by rw [List.drop_eq_getElem_cons hltL, hx]
        obtain ⟨gL, offL, haL, hgL, hcellL⟩ := HLR.out (by omega)
        subst haL
        have hxo := HOK.out.line x hxm
        have hlo : LineOK x.l := (HGO.out.ok x.l (List.mem_map.2 ⟨x, hxm, rfl⟩)).ok
        obtain ⟨l, xtv, xlv⟩ := x
        obtain ⟨aoT, cpT, hxtv⟩ := hxo.1.form
        obtain ⟨aoE, cpE, hxlv⟩ := hxo.2.1.form
        simp only at hxtv hxlv
        subst hxtv
        subst hxlv
        replace hlo : LineOK l := hlo
        have hbel := hin.out.bel
        have hszr := hbel.size
        have hc : ∀ t, t < 6 → ∀ u, (LV.cells ⟨l, .slice aoT l.takes.length cpT, .slice aoE l.leads.length cpE⟩)[t]? = some u → wr.cell? ⟨gL, offL + k * 6 + t, none⟩ = some u := fun t ht u hu => (hbel.cell (p := ⟨gL, offL + k * 6 + t, none⟩) hgL).trans (by rw [Nat.add_assoc]; exact hcellL (k * 6 + t) u (by rw [cellsL_get hltL ht, hx]; exact hu))
        have HXO : Hid (∀ W, Below wr.heap.size wr W → LV.ok W ⟨l, .slice aoT l.takes.length cpT, .slice aoE l.leads.length cpE⟩) := fun W hb => by
          have hk : ∀ t, Keeps t w W := fun t => (Keeps.of_below hbel).trans (Keeps.of_below hb)
          exact hxo.keep (hk _) (hk _)
        have hld : Hid (∀ q ∈ l.leads, q < N) := HLA.out l (List.mem_map.2 ⟨_, hxm, rfl⟩)
        have hxx : Hid (bb.lines[k]? = some ⟨l, .slice aoT l.takes.length cpT, .slice aoE l.leads.length cpE⟩) := by show _ = _; rw [List.getElem?_eq_getElem hltL, hx]
        have hrun' : Hid (R = runF bs f V b (l :: (bb.lines.drop (k + 1)).map (·.l)) tr) := by show _ = _; rw [hrun.out, hdl]; rfl
        clear hrun
        have hk0 : (0 : Int) ≤ (k : Int) := by omega
        have hk1 : (k : Int) < (M : Int) := by omega
        have HTA : Hid (∀ W, Below wr.heap.size wr W → Calls Tryz.prog 87 #[.map (some m), .agg (lineCells l (.slice aoT l.takes.length cpT) (.slice aoE l.leads.length cpE))] W fun e w' => e = .returned (.tuple #[.int .i64 (takenG V l).1, .int .i64 (takenG V l).2]) ∧ Below W.heap.size W w') := fun W hb => taken_any W m V ⟨l, .slice aoT l.takes.length cpT, .slice aoE l.leads.length cpE⟩ (hin.out.map.below hb) (HXO.out W hb) hlo
        have hyf := taken_fits hin.out.fits hlo
        have g0 := hc 0 (by omega) _ rfl
        have g1 := hc 1 (by omega) _ rfl
        have g2 := hc 2 (by omega) _ rfl
        have g3 := hc 3 (by omega) _ rfl
        have g4 := hc 4 (by omega) _ rfl
        have g5 := hc 5 (by omega) _ rfl
        rw [Nat.add_zero] at g0
        have HNT : Hid (endsK l.word = false → ∀ j x, j < k + 1 → bb.lines[j]? = some x → endsK x.l.word = false) := by
          intro he j x' hj hx'
          rcases Nat.lt_or_eq_of_le (Nat.le_of_lt_succ hj) with h | h
          · exact hnot.out j x' h hx'
          · subst h
            rw [hxx.out] at hx'
            injection hx' with hx'
            subst hx'
            exact he
        clear hx hdl hcellL hc hxo hnot
        by_cases hf0 : f = 0
        · subst hf0
          have hend : Hid (R = ⟨false, 0, tr⟩) := by show _ = _; rw [hrun'.out]; rfl
          have HJ : Hid (∀ W, Below wr.heap.size wr W → Calls Tryz.prog 66 #[.slice ao tr.length cp, .string ⟨#[32]⟩] W fun e w' => e = .returned (.string (traceB tr)) ∧ Below W.heap.size W w') := fun W hb => join_any W _ _ tr (by omega) hin.out.tfits (hin.out.below hb).trace
          clear hrun' HTA
          go_wp2_with (first
            | (go_at_call 66; refine (HJ.out _ ((Below.refl _ _).alloc (Nat.le_refl _) _)).mono ?_; rintro e w5 ⟨rfl, hb5⟩; have HB5 : Hid (Below wr.heap.size wr w5) := ((Below.refl _ _).alloc (Nat.le_refl _) _).trans (hb5.mono (by simp)); clear hb5)
            | (refine wpList_store_box aggRes rfl _ _ rfl _ rfl _ [.bool false, .int .i64 0, .string (traceB tr)] rfl (hin.out.below HB5.out).res rfl rfl (one_res _ _ _) ?_; intro w8 hb8 hg8 hs8))
          rw [Exit.noGoto_ret]
          refine bodyPost_ret (results_box1 aggRes Tryz.results44 rfl rfl hb8) rfl ?_
          refine ⟨?_, (hin.out.below HB5.out).bel.trans (hg8.below (by have := (hin.out.below HB5.out).hi; omega) (fun q hq => by omega))⟩
          rw [← HBS.out, ← HRR.out, hend.out]
          rfl
        · obtain ⟨f1, rfl⟩ : ∃ f1, f = f1 + 1 := ⟨f - 1, by omega⟩
          have hf0' : (((f1 : Int) + 1) == 0) = false := by rw [beq_eq_false_iff_ne]; omega
          have hyz : ∃ y z, takenG V l = (y, z) := ⟨_, _, rfl⟩
          obtain ⟨y, z, hyz⟩ := hyz
          rw [hyz] at HTA hyf
          have HYZ : Hid (takenG V l = (y, z)) := hyz
          have hY : Hid (fits64 y) := hyf
          have HLO : Hid (LineOK l) := hlo
          have hw10 := hlo.word
          clear hyz hyf hlo hf0
          unfold lineCells at HTA
          -- behind taken
          have H5 : Hid (∀ w5, Below (wr.alloc (.cells #[.int .i64 (l.word : Int), .string l.sets.1, .int .i64 (l.sets.2 : Int), .slice aoT l.takes.length cpT, .int .i64 l.number, .slice aoE l.leads.length cpE] 117)).heap.size (wr.alloc (.cells #[.int .i64 (l.word : Int), .string l.sets.1, .int .i64 (l.sets.2 : Int), .slice aoT l.takes.length cpT, .int .i64 l.number, .slice aoE l.leads.length cpE] 117)) w5 → Below wr.heap.size wr w5 ∧ BoxIn w5 wr.heap.size 117 [.int .i64 (l.word : Int), .string l.sets.1, .int .i64 (l.sets.2 : Int), .slice aoT l.takes.length cpT, .int .i64 l.number, .slice aoE l.leads.length cpE]) := fun w5 hb => ⟨((Below.refl _ _).alloc (Nat.le_refl _) _).trans (hb.mono (by simp)), (BoxIn.new wr 117 [.int .i64 (l.word : Int), .string l.sets.1, .int .i64 (l.sets.2 : Int), .slice aoT l.takes.length cpT, .int .i64 l.number, .slice aoE l.leads.length cpE]).below hb⟩
          rcases (by omega : l.word = 6 ∨ l.word = 7 ∨ l.word = 8 ∨ l.word = 9 ∨ l.word < 6) with hw | hw | hw | hw | hw
          · have hnx : Hid (R = runF bs f1 V b ((bb.lines.drop (k + 1)).map (·.l)) (tr ++ [y])) := by
              show _ = _
              rw [hrun'.out]
              conv => lhs; unfold runF
              simp [HYZ.out, hw]
            have HFM : Hid (∀ W, Below wr.heap.size wr W → Calls Tryz.prog 88 #[.int .i64 y, .int .i64 10] W fun e w' => e = .returned (.string ⟨(Lib.itoa y).toArray⟩) ∧ Below W.heap.size W w') := fun W hb => format_any W base0 y hY.out.1 hY.out.2 (HE.out.below (hbel.trans (hb.mono hszr)))
            have hne : Hid (endsK l.word = false) := by show _ = _; rw [hw]; rfl
            have q6 : ((l.word : Int) == 6) = true := by rw [hw]; rfl
            obtain ⟨i0, hi, hz0, hz1, hz2⟩ := info_parts infoString
            clear hrun' hw hw10
            go_wp2_with (first
              | (go_at_call 87; refine (HTA.out _ ((Below.refl _ _).alloc (Nat.le_refl _) _)).mono ?_; rintro e w5 ⟨rfl, hb5⟩; obtain ⟨hb5', hbx5⟩ := H5.out w5 hb5; have HB5 : Hid (Below wr.heap.size wr w5) := hb5'; have HX5 : Hid (BoxIn w5 _ _ _) := hbx5; have e0 := hbx5.cell (k := 0) rfl; have e1 := hbx5.cell (k := 1) rfl; have e2 := hbx5.cell (k := 2) rfl; have e3 := hbx5.cell (k := 3) rfl; have e4 := hbx5.cell (k := 4) rfl; have e5 := hbx5.cell (k := 5) rfl; clear hb5 hb5' hbx5)
              | (go_at_call 88; refine (HFM.out _ HB5.out).mono ?_; rintro e w6 ⟨rfl, hb6⟩; have HB6 : Hid (Below wr.heap.size wr w6) := HB5.out.trans (hb6.mono HB5.out.size); clear hb6)
              | (at_builtin; refine wpList_append_ownS _ rfl _ _ 62 rfl (w.heap.size + 1) 9 i0 (.string ByteArray.empty) 1 16 Tryz.underlying62 hi hz0 hz1 hz2 rfl (by decide) _ _ _ rfl ((hin.out.below HB6.out).trace.alloc _) ⟨w6.heap.size, 0, none⟩ 1 1 [.string ⟨(Lib.itoa y).toArray⟩] rfl rfl (cell_newL _ [_] _ _ rfl) (one1 rfl) (by decide) (by unfold maxLen; omega) (by omega) (by have := (hin.out.below HB6.out).hi; simp; omega) ?_; intro g' off' cap' w7 hown7 hgrow7 hloc7 hlt7; have HR7 : Hid (RunIn w w7 w.heap.size m V (.slice (some ⟨g', off', none⟩) (tr.length + 1) cap') (tr ++ [y])) := (hin.out.below HB6.out).put hown7 hgrow7 hY.out; clear hown7 hgrow7 hloc7))
            go_roundg (M - (k + 1))
            case measure => omega
            case rel => exact ⟨k + 1, f1, V, tr ++ [y], by omega, by go_num, rfl, by go_num, by omega, by simp; omega, HR7, hnx, HNT.out hne.out⟩
          · have hnx : Hid (R = runF bs f1 (meetG V (phisAt bs (nextG l y)) b) (nextG l y) (linesAt bs (nextG l y)) tr) := by
              show _ = _
              rw [hrun'.out]
              conv => lhs; unfold runF
              simp [HYZ.out, hw]
            have HNE : Hid (∀ W, Below wr.heap.size wr W → Calls Tryz.prog 89 #[.agg #[.int .i64 (l.word : Int), .string l.sets.1, .int .i64 (l.sets.2 : Int), .slice aoT l.takes.length cpT, .int .i64 l.number, .slice aoE l.leads.length cpE], .int .i64 y] W fun e w' => e = .returned (.int .i64 (nextG l y : Int)) ∧ Below W.heap.size W w') := fun W hb => next_any W ⟨l, .slice aoT l.takes.length cpT, .slice aoE l.leads.length cpE⟩ y (HXO.out W hb) HLO.out (by simp [hw])
            have hnN : nextG l y < N := by
              have hq : nextG l y ∈ l.leads := nextG_mem HLO.out (by simp [hw]) y
              exact hld.out _ hq
            have hltB2 : nextG l y < B.length := by rw [← HN.out]; exact hnN
            obtain ⟨b2, hb2⟩ : ∃ b2, B[nextG l y] = b2 := ⟨_, rfl⟩
            have hbm2 : b2 ∈ B := by rw [← hb2]; exact List.getElem_mem hltB2
            have HPX : Hid (phisAt bs (nextG l y) = b2.phis.map (·.p)) := by
              show _ = _
              unfold phisAt
              rw [HBS.out, List.getElem?_map, List.getElem?_eq_getElem hltB2, hb2]
              rfl
            obtain ⟨aoQ, cpQ, hpv, -, -⟩ := (HP.out.blocks b2 hbm2).phis.1.cell
            have hQ1 := (HMA.out b2 hbm2).2
            have HC1 : Hid (∀ W, Below wr.heap.size wr W → W.cell? ⟨pb, 1, none⟩ = some (.slice (some ⟨gB, offB, none⟩) N cpB) ∧ W.cell? ⟨gB, offB + nextG l y * 3 + 1, none⟩ = some (.slice aoQ b2.phis.length cpQ)) := by
              intro W hb
              have hbW : Below w.heap.size w W := hbel.trans (hb.mono hszr)
              obtain ⟨aoB', cpB', hbv', -, hrow'⟩ := HP.out.rows.cell
              obtain ⟨gB', offB', haB', hgB', hcell'⟩ := hrow' (by omega)
              obtain ⟨x1, x2, x3⟩ := HBV.out _ _ _ _ haB' hbv'
              subst x1 x2 x3
              refine ⟨(hbW.cell (p := ⟨pb, 1, none⟩) hpbl).trans ((HBX.out.cell (k := 1) rfl).trans (by rw [hbv', haB', ← HN.out])), (hbW.cell (p := ⟨gB, offB + nextG l y * 3 + 1, none⟩) hgB').trans (by rw [Nat.add_assoc]; exact hcell' (nextG l y * 3 + 1) _ (by rw [cellsB_get hltB2 (by omega), hb2]; show [_, b2.pv, _][1]? = _; rw [hpv]; first | done | rfl))⟩
            have HME : Hid (∀ W, Below wr.heap.size wr W → Calls Tryz.prog 90 #[.map (some m), .slice aoQ b2.phis.length cpQ, .int .i64 (b : Int)] W fun e w' => e = .returned (.tuple #[]) ∧ RunIn w w' w.heap.size m (meetG V (phisAt bs (nextG l y)) b) (.slice ao tr.length cp) tr) := fun W hW => by
              have hbW : Below w.heap.size w W := hbel.trans (hW.mono hszr)
              have hRW := hin.out.below hW
              have hok2 := (HP.out.blocks b2 hbm2).keep hbW (Keeps.of_below hbW) (Keeps.of_below hbW) (Keeps.of_below hbW)
              have hpr := hok2.phis.1
              rw [hpv] at hpr
              refine (meet_any W m V _ b2.phis b hRW.map hpr hok2.phi hQ1 (by omega)).mono ?_
              rintro e w' ⟨h1, h2, h3⟩
              rw [← HPX.out] at h2
              exact ⟨h1, hRW.met h2 (hRW.fits.meet _ _) h3⟩
            obtain ⟨nx, hnxe⟩ : ∃ nx, nx = nextG l y := ⟨_, rfl⟩
            rw [← hnxe] at hnx HNE hnN HC1 HME
            have q6 : ((l.word : Int) == 6) = false := by rw [hw]; rfl
            have q7 : ((l.word : Int) == 7) = true := by rw [hw]; rfl
            have hn0 : (0 : Int) ≤ (nx : Int) := by omega
            have hn1 : (nx : Int) < (N : Int) := by omega
            clear hrun' hw hw10 hnxe hltB2 hb2 hbm2 hpv HPX
            generalize b2.phis.length = Q at *
            generalize meetG V (phisAt bs nx) b = V9 at *
            go_wp2_with (first
              | (go_at_call 87; refine (HTA.out _ ((Below.refl _ _).alloc (Nat.le_refl _) _)).mono ?_; rintro e w5 ⟨rfl, hb5⟩; obtain ⟨hb5', hbx5⟩ := H5.out w5 hb5; have HB5 : Hid (Below wr.heap.size wr w5) := hb5'; have HX5 : Hid (BoxIn w5 _ _ _) := hbx5; have e0 := hbx5.cell (k := 0) rfl; have e1 := hbx5.cell (k := 1) rfl; have e2 := hbx5.cell (k := 2) rfl; have e3 := hbx5.cell (k := 3) rfl; have e4 := hbx5.cell (k := 4) rfl; have e5 := hbx5.cell (k := 5) rfl; clear hb5 hb5' hbx5)
              | (go_at_call 89; refine (HNE.out _ HB5.out).mono ?_; rintro e w6 ⟨rfl, hb6⟩; have HB6 : Hid (Below wr.heap.size wr w6) := HB5.out.trans (hb6.mono HB5.out.size); obtain ⟨k1, k2⟩ := HC1.out w6 HB6.out; clear hb6)
              | (go_at_call 90; refine Calls.mono (HME.out _ HB6.out) ?_; rintro e w7 ⟨rfl, hr7⟩; have HR7 : Hid (RunIn w w7 w.heap.size m V9 (.slice ao tr.length cp) tr) := hr7; clear hr7))
            go_roundg f1
            case measure => have := HGF.out; omega
            case rel => exact ⟨f1, nx, V9, tr, rfl, by go_num, rfl, hnN, by omega, HR7, hnx⟩
          · have hnx : Hid (R = runF bs f1 (meetG V (phisAt bs (nextG l y)) b) (nextG l y) (linesAt bs (nextG l y)) tr) := by
              show _ = _
              rw [hrun'.out]
              conv => lhs; unfold runF
              simp [HYZ.out, hw]
            have HNE : Hid (∀ W, Below wr.heap.size wr W → Calls Tryz.prog 89 #[.agg #[.int .i64 (l.word : Int), .string l.sets.1, .int .i64 (l.sets.2 : Int), .slice aoT l.takes.length cpT, .int .i64 l.number, .slice aoE l.leads.length cpE], .int .i64 y] W fun e w' => e = .returned (.int .i64 (nextG l y : Int)) ∧ Below W.heap.size W w') := fun W hb => next_any W ⟨l, .slice aoT l.takes.length cpT, .slice aoE l.leads.length cpE⟩ y (HXO.out W hb) HLO.out (by simp [hw])
            have hnN : nextG l y < N := by
              have hq : nextG l y ∈ l.leads := nextG_mem HLO.out (by simp [hw]) y
              exact hld.out _ hq
            have hltB2 : nextG l y < B.length := by rw [← HN.out]; exact hnN
            obtain ⟨b2, hb2⟩ : ∃ b2, B[nextG l y] = b2 := ⟨_, rfl⟩
            have hbm2 : b2 ∈ B := by rw [← hb2]; exact List.getElem_mem hltB2
            have HPX : Hid (phisAt bs (nextG l y) = b2.phis.map (·.p)) := by
              show _ = _
              unfold phisAt
              rw [HBS.out, List.getElem?_map, List.getElem?_eq_getElem hltB2, hb2]
              rfl
            obtain ⟨aoQ, cpQ, hpv, -, -⟩ := (HP.out.blocks b2 hbm2).phis.1.cell
            have hQ1 := (HMA.out b2 hbm2).2
            have HC1 : Hid (∀ W, Below wr.heap.size wr W → W.cell? ⟨pb, 1, none⟩ = some (.slice (some ⟨gB, offB, none⟩) N cpB) ∧ W.cell? ⟨gB, offB + nextG l y * 3 + 1, none⟩ = some (.slice aoQ b2.phis.length cpQ)) := by
              intro W hb
              have hbW : Below w.heap.size w W := hbel.trans (hb.mono hszr)
              obtain ⟨aoB', cpB', hbv', -, hrow'⟩ := HP.out.rows.cell
              obtain ⟨gB', offB', haB', hgB', hcell'⟩ := hrow' (by omega)
              obtain ⟨x1, x2, x3⟩ := HBV.out _ _ _ _ haB' hbv'
              subst x1 x2 x3
              refine ⟨(hbW.cell (p := ⟨pb, 1, none⟩) hpbl).trans ((HBX.out.cell (k := 1) rfl).trans (by rw [hbv', haB', ← HN.out])), (hbW.cell (p := ⟨gB, offB + nextG l y * 3 + 1, none⟩) hgB').trans (by rw [Nat.add_assoc]; exact hcell' (nextG l y * 3 + 1) _ (by rw [cellsB_get hltB2 (by omega), hb2]; show [_, b2.pv, _][1]? = _; rw [hpv]; first | done | rfl))⟩
            have HME : Hid (∀ W, Below wr.heap.size wr W → Calls Tryz.prog 90 #[.map (some m), .slice aoQ b2.phis.length cpQ, .int .i64 (b : Int)] W fun e w' => e = .returned (.tuple #[]) ∧ RunIn w w' w.heap.size m (meetG V (phisAt bs (nextG l y)) b) (.slice ao tr.length cp) tr) := fun W hW => by
              have hbW : Below w.heap.size w W := hbel.trans (hW.mono hszr)
              have hRW := hin.out.below hW
              have hok2 := (HP.out.blocks b2 hbm2).keep hbW (Keeps.of_below hbW) (Keeps.of_below hbW) (Keeps.of_below hbW)
              have hpr := hok2.phis.1
              rw [hpv] at hpr
              refine (meet_any W m V _ b2.phis b hRW.map hpr hok2.phi hQ1 (by omega)).mono ?_
              rintro e w' ⟨h1, h2, h3⟩
              rw [← HPX.out] at h2
              exact ⟨h1, hRW.met h2 (hRW.fits.meet _ _) h3⟩
            obtain ⟨nx, hnxe⟩ : ∃ nx, nx = nextG l y := ⟨_, rfl⟩
            rw [← hnxe] at hnx HNE hnN HC1 HME
            have q6 : ((l.word : Int) == 6) = false := by rw [hw]; rfl
            have q7 : ((l.word : Int) == 7) = false := by rw [hw]; rfl
            have q8 : ((l.word : Int) == 8) = true := by rw [hw]; rfl
            have hn0 : (0 : Int) ≤ (nx : Int) := by omega
            have hn1 : (nx : Int) < (N : Int) := by omega
            clear hrun' hw hw10 hnxe hltB2 hb2 hbm2 hpv HPX
            generalize b2.phis.length = Q at *
            generalize meetG V (phisAt bs nx) b = V9 at *
            go_wp2_with (first
              | (go_at_call 87; refine (HTA.out _ ((Below.refl _ _).alloc (Nat.le_refl _) _)).mono ?_; rintro e w5 ⟨rfl, hb5⟩; obtain ⟨hb5', hbx5⟩ := H5.out w5 hb5; have HB5 : Hid (Below wr.heap.size wr w5) := hb5'; have HX5 : Hid (BoxIn w5 _ _ _) := hbx5; have e0 := hbx5.cell (k := 0) rfl; have e1 := hbx5.cell (k := 1) rfl; have e2 := hbx5.cell (k := 2) rfl; have e3 := hbx5.cell (k := 3) rfl; have e4 := hbx5.cell (k := 4) rfl; have e5 := hbx5.cell (k := 5) rfl; clear hb5 hb5' hbx5)
              | (go_at_call 89; refine (HNE.out _ HB5.out).mono ?_; rintro e w6 ⟨rfl, hb6⟩; have HB6 : Hid (Below wr.heap.size wr w6) := HB5.out.trans (hb6.mono HB5.out.size); obtain ⟨k1, k2⟩ := HC1.out w6 HB6.out; clear hb6)
              | (go_at_call 90; refine Calls.mono (HME.out _ HB6.out) ?_; rintro e w7 ⟨rfl, hr7⟩; have HR7 : Hid (RunIn w w7 w.heap.size m V9 (.slice ao tr.length cp) tr) := hr7; clear hr7))
            go_roundg f1
            case measure => have := HGF.out; omega
            case rel => exact ⟨f1, nx, V9, tr, rfl, by go_num, rfl, hnN, by omega, HR7, hnx⟩
          · have hend : Hid (R = ⟨true, y, tr⟩) := by
              show _ = _
              rw [hrun'.out]
              unfold runF
              simp [HYZ.out, hw]
            have HJ : Hid (∀ W, Below wr.heap.size wr W → Calls Tryz.prog 66 #[.slice ao tr.length cp, .string ⟨#[32]⟩] W fun e w' => e = .returned (.string (traceB tr)) ∧ Below W.heap.size W w') := fun W hb => join_any W _ _ tr (by omega) hin.out.tfits (hin.out.below hb).trace
            have q6 : ((l.word : Int) == 6) = false := by rw [hw]; rfl
            have q7 : ((l.word : Int) == 7) = false := by rw [hw]; rfl
            have q8 : ((l.word : Int) == 8) = false := by rw [hw]; rfl
            have q9 : ((l.word : Int) == 9) = true := by rw [hw]; rfl
            clear hrun' hw hw10
            go_wp2_with (first
              | (go_at_call 87; refine (HTA.out _ ((Below.refl _ _).alloc (Nat.le_refl _) _)).mono ?_; rintro e w5 ⟨rfl, hb5⟩; obtain ⟨hb5', hbx5⟩ := H5.out w5 hb5; have HB5 : Hid (Below wr.heap.size wr w5) := hb5'; have e0 := hbx5.cell (k := 0) rfl; clear hb5 hb5' hbx5)
              | (go_at_call 66; refine (HJ.out _ HB5.out).mono ?_; rintro e w6 ⟨rfl, hb6⟩; have HB6 : Hid (Below wr.heap.size wr w6) := HB5.out.trans (hb6.mono HB5.out.size); clear hb6)
              | (refine wpList_store_box aggRes rfl _ _ rfl _ rfl _ [.bool true, .int .i64 y, .string (traceB tr)] rfl (hin.out.below HB6.out).res rfl rfl (one_res _ _ _) ?_; intro w8 hb8 hg8 hs8))
            rw [Exit.noGoto_ret]
            refine bodyPost_ret (results_box1 aggRes Tryz.results44 rfl rfl hb8) rfl ?_
            refine ⟨?_, (hin.out.below HB6.out).bel.trans (hg8.below (by have := (hin.out.below HB6.out).hi; omega) (fun q hq => by omega))⟩
            rw [← HBS.out, ← HRR.out, hend.out]
            rfl
          · have hnx : Hid (R = runF bs f1 (putV V l.sets (reckonG l.word y z)) b ((bb.lines.drop (k + 1)).map (·.l)) tr) := by
              show _ = _
              rw [hrun'.out]
              conv => lhs; unfold runF
              rw [if_neg (by omega), if_neg (by omega), if_neg (by omega), HYZ.out]
            have HRE : Hid (∀ W, Calls Tryz.prog 91 #[.int .i64 (l.word : Int), .int .i64 y, .int .i64 z] W fun e w' => e = .returned (.int .i64 (reckonG l.word y z)) ∧ w' = W) := fun W => reckon_any W l.word y z hw10
            have hne : Hid (endsK l.word = false) := by
              show _ = _
              unfold endsK
              rw [Bool.or_eq_false_iff, Bool.or_eq_false_iff, beq_eq_false_iff_ne, beq_eq_false_iff_ne, beq_eq_false_iff_ne]
              omega
            have hrf : Hid (fits64 (reckonG l.word y z)) := reckon_fits l.word hY.out
            generalize reckonG l.word y z = rk at *
            have q6 : ((l.word : Int) == 6) = false := by rw [beq_eq_false_iff_ne]; omega
            have q7 : ((l.word : Int) == 7) = false := by rw [beq_eq_false_iff_ne]; omega
            have q8 : ((l.word : Int) == 8) = false := by rw [beq_eq_false_iff_ne]; omega
            have q9 : ((l.word : Int) == 9) = false := by rw [beq_eq_false_iff_ne]; omega
            clear hrun' hw hw10
            go_wp2_with (first
              | (go_at_call 87; refine (HTA.out _ ((Below.refl _ _).alloc (Nat.le_refl _) _)).mono ?_; rintro e w5 ⟨rfl, hb5⟩; obtain ⟨hb5', hbx5⟩ := H5.out w5 hb5; have HB5 : Hid (Below wr.heap.size wr w5) := hb5'; have HX5 : Hid (BoxIn w5 _ _ _) := hbx5; have e0 := hbx5.cell (k := 0) rfl; have e1 := hbx5.cell (k := 1) rfl; have e2 := hbx5.cell (k := 2) rfl; have e3 := hbx5.cell (k := 3) rfl; have e4 := hbx5.cell (k := 4) rfl; have e5 := hbx5.cell (k := 5) rfl; clear hb5 hb5' hbx5))
            obtain ⟨w9, hup, hv9, ho9, hs9, hos9, htp9, hou9⟩ := (((hin.out.below HB5.out).map).of_block (w' := w5.drew) rfl).update l.sets rk
            unfold vkey at hup
            have HR9 : Hid (RunIn w w9 w.heap.size m (putV V l.sets rk) (.slice ao tr.length cp) tr) := ((hin.out.below HB5.out).below (Below.refl _ _).drew).update hv9 (hin.out.fits.put _ hrf.out) ho9 hs9 hos9 htp9 hou9
            have hmlt := hin.out.map.lt
            have HS9 : Hid (w9.cell? ⟨wr.heap.size, 0, none⟩ = some (.int .i64 (l.word : Int)) ∧ w9.cell? ⟨wr.heap.size, 1, none⟩ = some (.string l.sets.1) ∧ w9.cell? ⟨wr.heap.size, 2, none⟩ = some (.int .i64 (l.sets.2 : Int))) := ⟨(World.cell?_of_block (ho9 _ (by show wr.heap.size ≠ m; omega))).trans e0, (World.cell?_of_block (ho9 _ (by show wr.heap.size ≠ m; omega))).trans e1, (World.cell?_of_block (ho9 _ (by show wr.heap.size ≠ m; omega))).trans e2⟩
            clear hv9 ho9 hs9 hos9 htp9 hou9
            go_region_held3 (fun w' => w'.cell? ⟨wr.heap.size, 0, none⟩ = some (.int .i64 (l.word : Int)) ∧ w'.cell? ⟨wr.heap.size, 1, none⟩ = some (.string l.sets.1) ∧ w'.cell? ⟨wr.heap.size, 2, none⟩ = some (.int .i64 (l.sets.2 : Int))) (first | exact HS9.out | exact ⟨e0, e1, e2⟩ | go_keep)
              (first | (go_at_call 91; refine (HRE.out _).mono ?_; rintro e w' ⟨rfl, rfl⟩))
            go_wp2_with fail
            go_roundg (M - (k + 1))
            case measure => omega
            case rel => exact ⟨k + 1, f1, _, tr, by omega, by go_num, rfl, by go_num, by omega, by omega, HR9, hnx, HNT.out hne.out⟩
      · exfalso
        obtain ⟨pre, last, hpl, hle, -⟩ := HGO.out.lines
        have hl2 : (bb.lines.map (·.l)) = pre ++ [last] := hpl
        have hlen : bb.lines.length = pre.length + 1 := by
          have := congrArg List.length hl2
          simpa using this
        obtain ⟨xl, hxl⟩ : ∃ xl, bb.lines[pre.length]? = some xl := ⟨_, List.getElem?_eq_getElem (by omega)⟩
        have h3 : (bb.lines.map (·.l))[pre.length]? = some last := by rw [hl2]; simp
        rw [List.getElem?_map, hxl] at h3
        simp at h3
        have := hnot.out pre.length xl (by have := HM.out; omega) hxl
        rw [h3, hle] at this
        cases this

end Go.Proofs.YtbddcodljmglfaaGreatDoor

namespace Go.Proofs.YtbddcodljmglfaaGreatDoor
open Go.RowKit

set_option maxRecDepth 100000 in
set_option maxHeartbeats 4000000 in
theorem rrunF_err (w : World) (v : Value) (hv : IsProg v) (c i : Nat) (hc : c ≠ 0) (argv : Value) (fuel : Int) :
    Calls Tryz.prog 30 #[v, .int .i64 (c : Int), .int .i64 (i : Int), argv, .int .i64 fuel] w fun e w' => e = .returned (.tuple #[resV ⟨false, 0, []⟩, .int .i64 (c : Int), .int .i64 (i : Int)]) ∧ Below w.heap.size w w' := by
  obtain ⟨x2, y2, a2, b2, c2, d2, rfl⟩ := hv
  have hc' : ((c : Int) == 0) = false := by rw [beq_eq_false_iff_ne]; omega
  go_enter Tryz.func30, Tryz.ntmps30
  go_wp2
  refine bodyPost_ret (results_box3 aggRes Tryz.results30 rfl rfl rfl (cs := [.bool false, .int .i64 0, .string ⟨#[]⟩]) rfl heap_alloc_new2) rfl ?_
  exact ⟨rfl, ((Below.refl _ _).alloc (Nat.le_refl _) _).alloc (by simp) _⟩

set_option maxRecDepth 100000 in
set_option maxHeartbeats 4000000 in
theorem rrunF_conf (w : World) (v : Value) (hv : IsProg v) (argv : Value) (fuel : Int) (hf : fuel < 0 ∨ 2000 < fuel) :
    Calls Tryz.prog 30 #[v, .int .i64 0, .int .i64 0, argv, .int .i64 fuel] w fun e w' => e = .returned (.tuple #[resV ⟨false, 0, []⟩, .int .i64 12, .int .i64 0]) ∧ Below w.heap.size w w' := by
  obtain ⟨x2, y2, a2, b2, c2, d2, rfl⟩ := hv
  rcases (by omega : fuel < 0 ∨ (¬ fuel < 0 ∧ 2000 < fuel)) with h1 | ⟨h1, h2⟩
  all_goals go_enter Tryz.func30, Tryz.ntmps30
  all_goals go_wp2
  all_goals refine bodyPost_ret (results_box3 aggRes Tryz.results30 rfl rfl rfl (cs := [.bool false, .int .i64 0, .string ⟨#[]⟩]) rfl heap_alloc_new2) rfl ?_
  all_goals exact ⟨rfl, ((Below.refl _ _).alloc (Nat.le_refl _) _).alloc (by simp) _⟩

set_option maxRecDepth 100000 in
set_option maxHeartbeats 4000000 in
theorem rrunF_ok (w : World) (base0 F : Nat) (av bv : Value) (A : List Ver) (B : List BV) (argv : Value) (xs : List Int) (hv : IsProg (.agg #[av, bv])) (hE : Env base0 w) (hP : ProgIn w av bv A B) (hA : A.length ≤ 1000000) (hB : B.length ≤ 1000000) (hF : F ≤ 2000)
    (hx : RdS w 1 argv xs.length (ints xs)) (hx64 : ∀ x ∈ xs, fits64 x) (hg : ∀ b ∈ B, GoodF b.g) (hpos : 0 < B.length) (hlead : ∀ b ∈ B, ∀ l ∈ b.g.lines, ∀ k ∈ l.leads, k < B.length) (hmany : ∀ b ∈ B, b.lines.length ≤ 1000000 ∧ b.phis.length ≤ 1000) :
    Calls Tryz.prog 30 #[.agg #[av, bv], .int .i64 0, .int .i64 0, argv, .int .i64 (F : Int)] w fun e w' => e = .returned (.tuple #[resV (runF (B.map BV.g) F (startG A xs) 0 (linesAt (B.map BV.g) 0) []), .int .i64 0, .int .i64 0]) ∧ Below w.heap.size w w' := by
  have HR : Hid (∀ W, Below w.heap.size w W → BoxIn W w.heap.size 52 [av, bv] → Calls Tryz.prog 44 #[.pointer (some ⟨w.heap.size, 0, none⟩), argv, .int .i64 (F : Int)] W fun e w' => e = .returned (resV (runF (B.map BV.g) F (startG A xs) 0 (linesAt (B.map BV.g) 0) [])) ∧ Below W.heap.size W w') := fun W hb hbx => runF_any W base0 w.heap.size F av bv A B argv xs (hE.below hb) hbx (hP.below hb) hA hB hF (hx.below hb) hx64 hg hpos hlead hmany
  generalize runF (B.map BV.g) F (startG A xs) 0 (linesAt (B.map BV.g) 0) [] = R at *
  have h1 : ¬ (F : Int) < 0 := by omega
  have h2 : ¬ 2000 < (F : Int) := by omega
  have hbx : Hid (∀ o, BoxIn ((w.alloc (.cells #[av, bv] 52)).alloc o) w.heap.size 52 [av, bv]) := fun o => (BoxIn.new w 52 [av, bv]).below ((Below.refl _ _).alloc (Nat.le_refl _) o)
  obtain ⟨x2, y2, a2, b2, c2, d2, hvv⟩ := hv
  injection hvv with hvv
  have hvv' : av = .slice x2 a2 b2 ∧ bv = .slice y2 c2 d2 := by simpa using hvv
  obtain ⟨rfl, rfl⟩ := hvv'
  clear hvv hE hP hx hg hlead hmany hx64
  obtain ⟨re, rv, rt⟩ := R
  unfold resV resCells at *
  go_enter Tryz.func30, Tryz.ntmps30
  go_wp2_with (first
    | (go_at_call 44; refine (HR.out _ (((Below.refl _ _).alloc (Nat.le_refl _) _).alloc (by simp) _) (hbx.out _)).mono ?_; rintro e w1 ⟨rfl, hb1⟩; have HB1 : Hid (Below w.heap.size w w1) := (((Below.refl _ _).alloc (Nat.le_refl _) _).alloc (by simp) _).trans (hb1.mono (by simp; omega)); have HX1 : Hid (BoxIn w1 (w.heap.size + 1) 30 [.bool false, .int .i64 0, .string ⟨#[]⟩]) := (show BoxIn _ _ _ _ from heap_alloc_new2).below hb1; clear hb1)
    | (refine wpList_store_box aggRes rfl _ _ rfl _ rfl _ [.bool re, .int .i64 rv, .string (traceB rt)] rfl HX1.out rfl rfl (one_res _ _ _) ?_; intro w8 hb8 hg8 hs8))
  refine bodyPost_ret (results_box3 aggRes Tryz.results30 rfl rfl rfl rfl hb8) rfl ?_
  exact ⟨rfl, HB1.out.trans (hg8.below HB1.out.size (fun q hq => by omega))⟩

theorem form_err {s : BA} {e : Nat × Nat} (h : formG s = .error e) : e.1 ≠ 0 := by
  unfold formG at h
  split at h
  · rename_i c hr
    injection h with h
    subst h
    have := readG_err (c := c.1) (i := c.2) hr
    omega
  · split at h
    · rename_i hf
      injection h with h
      subst h
      have := fault_code hf
      omega
    · cases h
theorem form_read {s : BA} {A : List Ver} {bs : List BlockG} (h : formG s = .ok (A, bs)) : readG 1 40 1000 s = .ok (A, bs) ∧ faultG bs = none := by
  unfold formG at h
  split at h
  · cases h
  · rename_i a bs' hr
    split at h
    · cases h
    · rename_i hf
      injection h with h
      injection h with h1 h2
      subst h1 h2
      exact ⟨hr, hf⟩
/-- How far a form that is read reaches. -/
theorem form_far {s : BA} {A : List Ver} {bs : List BlockG} (h : formG s = .ok (A, bs)) : A.length ≤ 4 ∧ ∀ b ∈ bs, b.lines.length ≤ 1000 ∧ b.phis.length ≤ 1000 := by
  obtain ⟨p, N, hf, h1, h2, h3⟩ := readG_far (form_read h).1
  subst h1 h2
  refine ⟨hf.args, fun b hb => ?_⟩
  have := hf.closed b hb
  omega

set_option maxRecDepth 100000 in
set_option maxHeartbeats 4000000 in
theorem rExec_any (w : World) (base0 : Nat) (s : BA) (hs : s.size ≤ 4294967280) (hE : Env base0 w) (argv : Value) (xs : List Int) (hx : RdS w 1 argv xs.length (ints xs)) (hx64 : ∀ x ∈ xs, fits64 x) (fuel : Int) :
    Calls Tryz.prog 22 #[.string s, argv, .int .i64 fuel] w fun e w' => e = .returned (.tuple #[resV (resF s xs fuel).1, .int .i64 ((resF s xs fuel).2.1 : Int), .int .i64 ((resF s xs fuel).2.2 : Int)]) ∧ Below w.heap.size w w' := by
  have HR : Hid (∀ W, Below w.heap.size w W → Calls Tryz.prog 36 #[.string s] W fun e w' => (∃ (v : Value) (c i : Nat), e = .returned (.tuple #[v, .int .i64 (c : Int), .int .i64 (i : Int)]) ∧ IsProg v ∧ ∀ W2, Below w'.heap.size w' W2 → Calls Tryz.prog 30 #[v, .int .i64 (c : Int), .int .i64 (i : Int), argv, .int .i64 fuel] W2 fun e w3 => e = .returned (.tuple #[resV (resF s xs fuel).1, .int .i64 ((resF s xs fuel).2.1 : Int), .int .i64 ((resF s xs fuel).2.2 : Int)]) ∧ Below W2.heap.size W2 w3) ∧ Below W.heap.size W w') := by
    intro W hb
    refine (fread_any W base0 s hs (hE.below hb)).mono ?_
    rintro e w' ⟨h1, h2, h3⟩
    refine ⟨?_, h3⟩
    unfold resF
    cases hp : formG s with
    | ok r =>
      obtain ⟨A, bs⟩ := r
      obtain ⟨av, bv, B, h, hPI, hBG, hi⟩ := h1 A bs hp
      refine ⟨_, 0, 0, h, hi, fun W2 hb2 => ?_⟩
      by_cases hf : fuel < 0 ∨ 2000 < fuel
      · simp only [hf, if_true]
        exact rrunF_conf W2 _ hi argv fuel hf
      · simp only [hf, if_false]
        obtain ⟨F, rfl⟩ : ∃ F : Nat, fuel = F := ⟨fuel.toNat, by omega⟩
        obtain ⟨f1, f3⟩ := form_far hp
        have g1 := (form_blocks (form_read hp).1).1
        obtain ⟨g2, f2, g3⟩ := readG_count (form_read hp).1
        rw [← hBG] at f2 f3 g1 g2 g3
        simp only [List.length_map] at f2 g2 g3
        have hbw : Below w.heap.size w W2 := hb.trans ((h3.trans (hb2.mono h3.size)).mono hb.size)
        rw [← hBG, Int.toNat_natCast]
        exact rrunF_ok W2 base0 F av bv A B argv xs hi (hE.below hbw) (hPI.below hb2) (by omega) (by omega) (by omega) (hx.below hbw) hx64 (fun b hb => g1 _ (List.mem_map.2 ⟨b, hb, rfl⟩)) g2 (fun b hb => g3 _ (List.mem_map.2 ⟨b, hb, rfl⟩)) (fun b hb => by
          have := f3 b.g (List.mem_map.2 ⟨b, hb, rfl⟩)
          simp [BV.g] at this
          omega)
    | error ci =>
      obtain ⟨v, h, hi⟩ := h2 ci.1 ci.2 hp
      refine ⟨v, ci.1, ci.2, h, hi, fun W2 hb2 => rrunF_err W2 v hi ci.1 ci.2 ?_ argv fuel⟩
      exact form_err hp
  generalize resF s xs fuel = q at *
  clear hE hx
  obtain ⟨⟨re, rv, rt⟩, q1, q2⟩ := q
  unfold resV resCells at *
  go_enter Tryz.func22, Tryz.ntmps22
  go_wp2_with (first
    | (go_at_call 36; refine (HR.out _ ((Below.refl _ _).alloc (Nat.le_refl _) _)).mono ?_; rintro e w1 ⟨⟨v, c, i, rfl, ⟨x2, y2, a2, b2, c2, d2, rfl⟩, hrun⟩, hb1⟩; have HRN : Hid _ := hrun; have HB1 : Hid (Below w.heap.size w w1) := ((Below.refl _ _).alloc (Nat.le_refl _) _).trans (hb1.mono (by simp)); have HX1 : Hid (BoxIn w1 w.heap.size 30 [.bool false, .int .i64 0, .string ⟨#[]⟩]) := (BoxIn.new w 30 [.bool false, .int .i64 0, .string ⟨#[]⟩]).below hb1; clear hrun hb1)
    | (go_at_call 30; refine (HRN.out _ ((Below.refl _ _).alloc (Nat.le_refl _) _)).mono ?_; rintro e w2 ⟨rfl, hb2⟩; have HB2 : Hid (Below w1.heap.size w1 w2) := ((Below.refl _ _).alloc (Nat.le_refl _) _).trans (hb2.mono (by simp)); clear hb2)
    | (refine wpList_store_box aggRes rfl _ _ rfl _ rfl _ [.bool re, .int .i64 rv, .string (traceB rt)] rfl (HX1.out.below HB2.out) rfl rfl (one_res _ _ _) ?_; intro w8 hb8 hg8 hs8))
  refine bodyPost_ret (results_box3 aggRes Tryz.results22 rfl rfl rfl rfl hb8) rfl ?_
  exact ⟨rfl, (HB1.out.trans (HB2.out.mono HB1.out.size)).trans (hg8.below (Nat.le_trans HB1.out.size HB2.out.size) (fun q hq => by omega))⟩

end Go.Proofs.YtbddcodljmglfaaGreatDoor
