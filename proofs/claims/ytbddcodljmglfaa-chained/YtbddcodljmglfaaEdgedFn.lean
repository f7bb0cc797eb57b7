/- edged: are edges, and where ways meet, as what is over what says. -/
import Derived.Test.YtbddcodljmglfaaEdgedIn
import Derived.Deep.RegionHeld3
import Derived.Deep.AppendLies
import Derived.BigQuiet
set_option linter.unusedSimpArgs false
set_option linter.unusedVariables false
namespace Go.Proofs.Ytbddcodljmglfaa
open Go.RowKit

theorem wrap_nat9 {N : Nat} (h : N ≤ 1000000) : IntKind.i64.wrap (N : Int) = (N : Int) := by
  have e : IntKind.i64.bits = 64 := rfl
  simp [IntKind.wrap, IntKind.signed, e]
  omega

set_option maxRecDepth 100000 in
set_option maxHeartbeats 8000000 in
theorem webEdged_any (w : World) (bk base p m q n : Nat) (L : List (Nat × Nat)) (D : List Bool) (De : List Nat) (ve vd : Value) (h : WebIn w bk base p m q n L D De ve vd) (hn1 : 1 ≤ n) (hn40 : n ≤ 40) (vf : Value) (zs : List Int) (hf : RdS w 1 vf zs.length (zs.map (Value.int .i64))) (hfz : ∀ z ∈ zs, fits z) (hzl : zs.length ≤ 17592186044000) :
    Calls Try.prog 16 #[.pointer (some ⟨bk, 0, none⟩), vf] w fun e w' => e = .returned (.bool true) ∧ Below w.heap.size w w' := by
  have HW : Hid (WebIn w bk base p m q n L D De ve vd) := h
  have HF : Hid (∀ z ∈ zs, fits z) := hfz
  have h1600 := h.len40
  obtain ⟨hl, aoF, cpF, rfl, hrF⟩ := hf
  obtain ⟨N, hN⟩ : ∃ N, N = zs.length := ⟨_, rfl⟩
  have HN : Hid (N = zs.length) := hN
  rw [← hN] at hzl hrF
  rw [← hN]
  have hc1 := h.c1
  have hbw := World.block_lt_of_cell? w _ hc1
  clear h hfz hl hN
  go_enter Try.func16, Try.ntmps16
  go_wp2_with fail
  go_loopg [5, 6] N (fun g s7 s8 wr => ∃ k : Nat, k + g = N ∧ s8 = .int .i64 k ∧ Hid (OwnS wr w.heap.size 3 1 s7 (webDe n (zs.take k)).length (nums (webDe n (zs.take k)))) ∧ Hid (Below w.heap.size w wr))
  case atStart => exact ⟨0, by omega, rfl, OwnS.nil _ _ _ _, Below.refl _ _⟩
  case round =>
    obtain ⟨k, hkg, rfl, hown, hbel⟩ := hrel
    obtain ⟨ao7, cp7, rfl⟩ := hown.out.len
    by_cases hlt : k < N
    · rcases hrF with hr | ⟨gF, offF, rfl, hr⟩
      · omega
      have hlt' : k < zs.length := HN.out ▸ hlt
      have d0 := hr k (.int .i64 zs[k]) (by simp [hlt'])
      have hgl := World.block_lt_of_cell? w _ d0
      have c0 : wr.cell? ⟨gF, offF + k, none⟩ = some (.int .i64 zs[k]) := by rw [hbel.out.cell hgl]; exact d0
      have c1 : wr.cell? ⟨bk, 1, none⟩ = some (.int .i64 n) := by rw [hbel.out.cell hbw]; exact hc1
      have hfit := HF.out zs[k] (List.getElem_mem _)
      have HT : Hid (webDe n (zs.take (k + 1)) = webDe n (zs.take k) ++ [pickN zs[k] n]) := webDe_succ n zs hlt'
      have hbl : Hid ((webDe n (zs.take k)).length ≤ 17592186044000) := by show _ ≤ _; simp [webDe]; omega
      generalize zs[k] = z at c0 hfit HT
      generalize webDe n (zs.take k) = Bk at hown HT hbl
      have hs1 := hbel.out.size
      clear hr d0 hlt'
      obtain ⟨i0, hi0, hz0, hz1, hz2⟩ := info_parts infoInt
      have hgl' : gF < w.heap.size := hgl
      have hbw' : bk < w.heap.size := hbw
      have ag : (Value.slice ao7 Bk.length cp7).ownBlock ≠ some gF := fun e => by have := (hown.out.lt _ e).1; omega
      have ak : (Value.slice ao7 Bk.length cp7).ownBlock ≠ some bk := fun e => by have := (hown.out.lt _ e).1; omega
      have hi1 : (0 : Int) ≤ (k : Int) := by omega
      have hi2 : (k : Int) < (N : Int) := by omega
      clear hgl hbw
      go_wp2_with fail
      go_region_held3 (fun w' => w'.cell? ⟨gF, offF + k, none⟩ = some (.int .i64 z) ∧ w'.cell? ⟨bk, 1, none⟩ = some (.int .i64 n))
        (first
          | go_keep
          | (go_split_ands
             refine ⟨?_, ?_⟩
             · (rw [hgrow.cell_far _ (by simp; omega) (Ne.symm ag)]; assumption)
             · (rw [hgrow.cell_far _ (by simp; omega) (Ne.symm ak)]; assumption)))
        (first | (go_at_call 17; refine (pick_any z n _ hfit.1 hfit.2 (by omega) (by omega)).mono ?_; rintro e w' ⟨rfl, rfl⟩)
               | ((refine step_append_ownS _ (by rfl) _ _ _ (by rfl) w.heap.size 3 i0 (.int .i64 0) 1 8 Try.underlying26 hi0 hz0 hz1 hz2 rfl (by omega) (.slice ao7 Bk.length cp7) Bk.length (nums Bk) (by rfl) ((hown.out.alloc _).of_block (fun _ _ => rfl))
                    ⟨wr.heap.size, 0, none⟩ 1 1 [.int .i64 (pickN z n : Int)] (by rfl) (by rfl) (World.news_of_block (cs := #[.int .i64 (pickN z n : Int)]) (t := 3) (fr := (0, 0)) (heap_alloc_new wr _)) (by simp [Value.oneCell']) (by omega) (by have := hbl.out; unfold maxLen; omega) (by have := hbl.out; omega) (by simp; omega) ?_; intro g' off' cap' w6 hown6 hgrow hloc6 hlt6)))
      have HO6 : Hid (OwnS w6 w.heap.size 3 1 (.slice (some ⟨g', off', none⟩) (Bk.length + 1) cap') (Bk ++ [pickN z n]).length (nums (Bk ++ [pickN z n]))) := by
        show OwnS _ _ _ _ _ _ _
        rw [nums_append]
        simpa [nums] using hown6
      have HB6 : Hid (Below w.heap.size w w6) := by
        refine Below.grown ?_ hgrow (by simp; omega) (fun j hj => (hown.out.lt j hj).1)
        exact (hbel.out.alloc hs1 _).drew
      clear hown6 hgrow hloc6 hlt6 hown hbel c0 c1
      go_wp2_with fail
      go_roundg (N - (k + 1))
      case measure => omega
      case rel => exact ⟨k + 1, by omega, by go_num, by show OwnS _ _ _ _ _ _ _; rw [HT.out]; exact HO6.out, HB6⟩
    · have hFn : Hid (∀ a ∈ webDe n (zs.take k), a < n) := by
        intro a ha
        simp only [webDe, List.mem_map] at ha
        obtain ⟨z, _, rfl⟩ := ha
        exact pickN_lt z (by omega)
      have hFl : (webDe n (zs.take k)).length ≤ 17592186044000 := by simp [webDe]; omega
      generalize webDe n (zs.take k) = F at hown hFn hFl ⊢
      have HWR : Hid (WebIn wr bk base p m q n L D De ve vd) := HW.out.below hbel.out
      have c0 := HWR.out.c0
      clear hrF hc1
      go_wp2_with fail
      refine (gMeets_any wr p m q n L D HWR.out.graph (.slice ao7 F.length cp7) F hown.out.rd hFn.out (by omega)).mono ?_
      rintro e w1 ⟨vm, rfl, hmt, hb1⟩
      obtain ⟨sn, hown1, hsn⟩ := hmt
      have HSN : Hid (∀ y, sn.getD y false = true ↔ Met L F y) := hsn
      obtain ⟨aoM, cpM, rfl⟩ := hown1.len
      have HE0 : Hid (EgIn w w1 (.slice ao7 F.length cp7) (.slice none 0 0) (.slice aoM (idxTo sn n).length cpM) (.slice none 0 0) F [] (idxTo sn n) []) := by
        have hk1 := hown.out.of_block (w' := w1) fun k hk => hb1.block _ (hown.out.lt k hk).2
        exact ⟨hk1, OwnS.nil _ _ _ _, hown1.mono hbel.out.size, OwnS.nil _ _ _ _, Apart.nil _, Apart.fresh hown.out hown1 (Nat.le_refl _), Apart.nil _, Apart.nil' _, Apart.nil' _, hbel.out.trans (hb1.mono hbel.out.size)⟩
      have hI40 : (idxTo sn n).length ≤ 40 := Nat.le_trans (idxTo_le _ _) hn40
      obtain ⟨I, hI⟩ : ∃ I, idxTo sn n = I := ⟨_, rfl⟩
      have HI : Hid (idxTo sn n = I) := hI
      rw [hI] at HE0 hI40 ⊢
      clear hsn hown1 hb1 hown hbel c0 HWR hI
      go_wp2_with fail
      go_loopg [5, 9, 10] (F.length + n) (fun g s5 s9 s10 wr => ∃ (i : Nat) (M W : List Nat), i + g = F.length + n ∧ s10 = .int .i64 i ∧ i ≤ W.length ∧ W.length ≤ F.length + n ∧ M.length ≤ n ∧ Hid (W = F ++ M) ∧ Hid (EgIn w wr s5 s9 (.slice aoM I.length cpM) (.slice none 0 0) W M I []) ∧ Hid (Edg n L F M) ∧ Hid (∀ a ∈ W.take i, ∀ y, OnEdge L a y → y ∈ M))
      case atStart => exact ⟨0, [], F, by omega, rfl, by omega, by omega, by simp, by simp [Hid], HE0.out, edg_start _ _ _, by simp [Hid]⟩
      case round =>
        clear HE0
        obtain ⟨i, M, W, hig, rfl, hil, hWl, hMn, HWF, heg, hedg, hcl⟩ := hrel
        obtain ⟨ao5, cp5, rfl⟩ := heg.out.work.len
        obtain ⟨ao9, cp9, rfl⟩ := heg.out.want.len
        have HWR : Hid (WebIn wr bk base p m q n L D De ve vd) := HW.out.below heg.out.bel
        by_cases hlt : i < W.length
        · obtain ⟨hll, aoz, cpz, hfz, hr5⟩ := heg.out.work.rd
          simp only [Value.slice.injEq] at hfz
          obtain ⟨rfl, _, rfl⟩ := hfz
          rcases hr5 with hr5 | ⟨g5, off5, rfl, hr5⟩
          · omega
          obtain ⟨a, ha⟩ : ∃ a, a = W[i] := ⟨_, rfl⟩
          have c5 : wr.cell? ⟨g5, off5 + i, none⟩ = some (.int .i64 (a : Int)) := by rw [hr5 _ _ (nums_get hlt), ha]
          have haW : Hid (a ∈ W) := by show _ ∈ _; rw [ha]; exact List.getElem_mem hlt
          have han : a < n := by
            have := haW.out
            rw [HWF.out] at this
            rcases List.mem_append.1 this with h | h
            · exact hFn.out a h
            · exact hedg.out.lt a h
          have HA : Hid (a = W[i]) := ha
          clear hr5 ha hll
          go_wp2_with fail
          refine (webOver_any wr bk base p m q n L D De ve vd HWR.out 0 a (by omega) han).mono ?_
          rintro e w2 ⟨r, rfl, hr0, hb2⟩
          have HR : Hid (r = true ↔ Fwd L (-1) a) := hr0.trans heldF_zero
          have HE2 : Hid (EgIn w w2 (.slice (some ⟨g5, off5, none⟩) W.length cp5) (.slice ao9 M.length cp9) (.slice aoM I.length cpM) (.slice none 0 0) W M I []) := heg.out.below hb2
          have HW2 : Hid (WebIn w2 bk base p m q n L D De ve vd) := HWR.out.below hb2
          have c0 := HW2.out.c0
          clear hr0 hb2 heg HWR c5
          go_wp2_with fail
          refine (gEdge_any w2 p m q n L D HW2.out.graph a han).mono ?_
          rintro e w3 ⟨vl, x, rfl, hans, hb3⟩
          clear c0
          cases r
          · obtain ⟨hnr, rfl, rfl⟩ : ¬ Fwd L (-1) a ∧ vl = .slice none 0 0 ∧ x = 5 := by
              rcases hans with h | ⟨hyr, -, -⟩
              · exact h
              · have := HR.out.2 hyr
                simp at this
            have HE3 : Hid (EgIn w w3 (.slice (some ⟨g5, off5, none⟩) W.length cp5) (.slice ao9 M.length cp9) (.slice aoM I.length cpM) (.slice none 0 0) W M I []) := HE2.out.below hb3
            have HCL : Hid (∀ b ∈ W.take (i + 1), ∀ y, OnEdge L b y → y ∈ M) := by
              intro b hb y hy
              rw [List.take_add_one, List.getElem?_eq_getElem hlt] at hb
              rcases List.mem_append.1 hb with h | h
              · exact hcl.out b h y hy
              · have e : b = a := by rw [HA.out]; simpa using h
                rw [e] at hy
                exact absurd (onEdge_reached hy) hnr
            clear HE2 HW2 hb3 hnr HR hcl
            go_wp2_with fail
            go_roundg (F.length + n - (i + 1))
            case measure => omega
            case rel => exact ⟨i + 1, M, W, by omega, by go_num, by omega, hWl, hMn, HWF, HE3, hedg, HCL⟩
          · rcases hans with ⟨hnr, -, -⟩ | ⟨-, rfl, hel⟩
            · have := HR.out.1 rfl
              exact absurd this hnr
            obtain ⟨qq, hown3, hqq⟩ := hel
            have HU : Hid (∀ y, y ∈ upTo qq n ↔ OnEdge L a y) := upTo_mem HW2.out.graph.lt hqq
            obtain ⟨aoE, cpE, rfl⟩ := hown3.len
            have HE3 : Hid (EgIn w w3 (.slice (some ⟨g5, off5, none⟩) W.length cp5) (.slice ao9 M.length cp9) (.slice aoM I.length cpM) (.slice aoE (upTo qq n).length cpE) W M I (upTo qq n)) := HE2.out.withEdge hb3 hown3
            have hE40 := Nat.le_trans (upTo_le qq n) hn40
            generalize upTo qq n = E at HE3 HU hE40 ⊢
            clear HE2 HW2 hb3 HR hown3 hqq
            go_wp2_with fail
            go_loopg [5, 9, 15] n (fun g2 s5 s9 s15 wy => ∃ (y : Nat) (M' W' : List Nat), y + g2 = n ∧ s15 = .int .i64 y ∧ W'.length ≤ F.length + n ∧ M'.length ≤ n ∧ Hid (W' = F ++ M') ∧ Hid (∃ ext, M' = M ++ ext) ∧ Hid (EgIn w wy s5 s9 (.slice aoM I.length cpM) (.slice aoE E.length cpE) W' M' I E) ∧ Hid (Edg n L F M') ∧ Hid (∀ z, z < y → OnEdge L a z → z ∈ M'))
            case atStart => exact ⟨0, M, W, by omega, rfl, hWl, hMn, HWF, ⟨[], by simp⟩, HE3, hedg, by intro z hz; omega⟩
            case round =>
              clear HE3
              obtain ⟨y, M', W', hyg, rfl, hWl', hMn', HWF', hext, heg, hedg', hdo⟩ := hrel
              obtain ⟨ao6, cp6, rfl⟩ := heg.out.work.len
              obtain ⟨ao7, cp7, rfl⟩ := heg.out.want.len
              have HWR : Hid (WebIn wr bk base p m q n L D De ve vd) := HW.out.below heg.out.bel
              have c1 := HWR.out.c1
              by_cases hyn : y < n
              · go_wp2_with fail
                refine (webOnEdge_any wr bk base p m q n L D De ve vd HWR.out (by omega) a y han hyn).mono ?_
                rintro e w4 ⟨r, rfl, hr0, hb4⟩
                have HR : Hid (r = true ↔ OnEdge L a y) := hr0
                have HE4 : Hid (EgIn w w4 (.slice ao6 W'.length cp6) (.slice ao7 M'.length cp7) (.slice aoM I.length cpM) (.slice aoE E.length cpE) W' M' I E) := heg.out.below hb4
                clear hr0 hb4 heg HWR c1
                go_wp2_with fail
                refine (among_any w4 E _ HE4.out.edge.rd (by omega) y).mono ?_
                rintro e w5 ⟨rfl, h5⟩
                replace h5 := h5.symm
                subst h5
                have htold : decide (y ∈ E) = r := by
                  rw [Bool.eq_iff_iff, HR.out, ← HU.out y]
                  simp
                rw [htold]
                clear htold
                have hsame : (r != r) = false := by cases r <;> rfl
                cases r
                · have HNO : Hid (∀ z, z < y + 1 → OnEdge L a z → z ∈ M') := by
                    intro z hz hz2
                    by_cases e : z = y
                    · rw [e] at hz2
                      have := HR.out.2 hz2
                      simp at this
                    · exact hdo.out z (by omega) hz2
                  go_wp2_with fail
                  refine (among_any w4 M' _ HE4.out.want.rd (by omega) y).mono ?_
                  rintro e w5 ⟨rfl, h5⟩
                  replace h5 := h5.symm
                  subst h5
                  generalize decide (y ∈ M') = mm
                  go_wp2_with fail
                  go_roundg (n - (y + 1))
                  case measure => omega
                  case rel => exact ⟨y + 1, M', W', by omega, by go_num, hWl', hMn', HWF', hext, HE4, hedg', HNO⟩
                · have HON : Hid (OnEdge L a y) := HR.out.1 rfl
                  go_wp2_with fail
                  refine (among_any w4 M' _ HE4.out.want.rd (by omega) y).mono ?_
                  rintro e w5 ⟨rfl, h5⟩
                  replace h5 := h5.symm
                  subst h5
                  by_cases hm : y ∈ M'
                  · have HNO : Hid (∀ z, z < y + 1 → OnEdge L a z → z ∈ M') := by
                      intro z hz hz2
                      by_cases e : z = y
                      · rw [e]; exact hm
                      · exact hdo.out z (by omega) hz2
                    have hmd : decide (y ∈ M') = true := by simp [hm]
                    rw [hmd]
                    clear hmd hm
                    go_wp2_with fail
                    go_roundg (n - (y + 1))
                    case measure => omega
                    case rel => exact ⟨y + 1, M', W', by omega, by go_num, hWl', hMn', HWF', hext, HE4, hedg', HNO⟩
                  · have HNO : Hid (∀ z, z < y + 1 → OnEdge L a z → z ∈ M' ++ [y]) := by
                      intro z hz hz2
                      by_cases e : z = y
                      · rw [e]; simp
                      · exact List.mem_append.2 (.inl (hdo.out z (by omega) hz2))
                    have HED : Hid (Edg n L F (M' ++ [y])) := by
                      refine hedg'.out.push (a := a) ?_ hyn HON.out hm
                      obtain ⟨ext, he⟩ := hext.out
                      have := haW.out
                      rw [HWF.out] at this
                      rw [he, ← List.append_assoc]
                      exact List.mem_append.2 (.inl this)
                    have HXT : Hid (∃ ext, M' ++ [y] = M ++ ext) := by obtain ⟨ext, he⟩ := hext.out; exact ⟨ext ++ [y], by rw [he, List.append_assoc]⟩
                    have hM1 := nodup_len n _ HED.out.nodup HED.out.lt
                    have hWl2 : Hid ((W' ++ [y]).length ≤ F.length + n) := by show _ ≤ _; have := HWF'.out; rw [this, List.append_assoc, List.length_append]; omega
                    simp only [List.length_append, List.length_cons, List.length_nil] at hM1
                    have hmd : decide (y ∈ M') = false := by simp [hm]
                    rw [hmd]
                    clear hmd hm
                    obtain ⟨i0, hi0, hz0, hz1, hz2⟩ := info_parts infoInt
                    have hs4 := HE4.out.bel.size
                    go_wp2_with (first
                      | (at_builtin; refine wpList_append_ownS _ rfl _ _ 26 rfl w.heap.size 3 i0 (.int .i64 0) 1 8 Try.underlying26 hi0 hz0 hz1 hz2 rfl (by decide) _ _ _ rfl (HE6.out.work.alloc _) ⟨w6.heap.size, 0, none⟩ 1 1 [.int .i64 (y : Int)] rfl rfl (cell_new1 _ _ _) (fun u hu => nums_one u y hu) (by decide) (by unfold maxLen; omega) (by omega) (by simp; omega) ?_; intro g2' off2' cap2' w7 hown7 hgrow7 hloc7 hlt7)
                      | (at_builtin; refine wpList_append_ownS _ rfl _ _ 26 rfl w.heap.size 3 i0 (.int .i64 0) 1 8 Try.underlying26 hi0 hz0 hz1 hz2 rfl (by decide) _ _ _ rfl (HE4.out.want.alloc _) ⟨w4.heap.size, 0, none⟩ 1 1 [.int .i64 (y : Int)] rfl rfl (cell_new1 _ _ _) (fun u hu => nums_one u y hu) (by decide) (by unfold maxLen; omega) (by omega) (by simp; omega) ?_; intro g' off' cap' w6 hown6 hgrow6 hloc6 hlt6; have HE6 : Hid (EgIn w w6 (.slice ao6 W'.length cp6) (.slice (some ⟨g', off', none⟩) (M'.length + 1) cap') (.slice aoM I.length cpM) (.slice aoE E.length cpE) W' (M' ++ [y]) I E) := HE4.out.pushT hown6 hgrow6 hloc6; have hs6 := HE6.out.bel.size; clear hown6 hgrow6 hloc6 hlt6 HE4 hs4))
                    have HE7 : Hid (EgIn w w7 (.slice (some ⟨g2', off2', none⟩) (W'.length + 1) cap2') (.slice (some ⟨g', off', none⟩) (M'.length + 1) cap') (.slice aoM I.length cpM) (.slice aoE E.length cpE) (W' ++ [y]) (M' ++ [y]) I E) := HE6.out.pushK hown7 hgrow7 hloc7
                    clear hown7 hgrow7 hloc7 hlt7 HE6 hs6
                    go_wp2_with fail
                    go_roundg (n - (y + 1))
                    case measure => omega
                    case rel => exact ⟨y + 1, M' ++ [y], W' ++ [y], by omega, by go_num, hWl2.out, by simp; omega, by show _ = _; rw [HWF'.out, List.append_assoc], HXT, by show EgIn _ _ _ _ _ _ _ _ _ _; simpa using HE7.out, HED, HNO⟩
              · have HCL : Hid (∀ b ∈ W'.take (i + 1), ∀ z, OnEdge L b z → z ∈ M') := by
                  obtain ⟨ext, he⟩ := hext.out
                  intro b hb z hz
                  have e1 : W' = W ++ ext := by rw [HWF'.out, HWF.out, he, List.append_assoc]
                  rw [pre_take hlt e1] at hb
                  rcases List.mem_append.1 hb with h | h
                  · rw [he]; exact List.mem_append.2 (.inl (hcl.out b h z hz))
                  · have e : b = a := by rw [HA.out]; simpa using h
                    rw [e] at hz
                    exact hdo.out z (by have := onEdge_lt HWR.out.graph.lt hz; omega) hz
                have hil' : i + 1 ≤ W'.length := by
                  obtain ⟨ext, he⟩ := hext.out
                  have e1 : W' = W ++ ext := by rw [HWF'.out, HWF.out, he, List.append_assoc]
                  rw [e1, List.length_append]
                  omega
                have HE4 := heg.out.noEdge
                have HE5 : Hid (EgIn w wr (.slice ao6 W'.length cp6) (.slice ao7 M'.length cp7) (.slice aoM I.length cpM) (.slice none 0 0) W' M' I []) := HE4
                clear HE4 hcl
                go_wp2_with fail
                go_roundg (F.length + n - (i + 1))
                case measure => omega
                case rel => exact ⟨i + 1, M', W', by omega, by go_num, hil', hWl', hMn', HWF', HE5, hedg', HCL⟩
        · have HDN : Hid (∀ y, y ∈ M ↔ Met L F y) := by
            refine hedg.out.done (fun a ha y hy => hcl.out a ?_ y hy)
            rw [List.take_of_length_le (by omega), HWF.out]
            exact ha
          have HIM : Hid (∀ y, y ∈ I ↔ y ∈ M) := by intro y; rw [← HI.out]; exact idxTo_mem hedg.out HDN.out HSN.out y
          have hIl : I.length = M.length := by rw [← HI.out]; exact hedg.out.len HDN.out HSN.out
          have HIR : Hid (I.Pairwise (· < ·)) := by show List.Pairwise _ _; rw [← HI.out]; exact idxTo_rise sn n
          rw [← hIl] at heg ⊢
          have HIL : Hid (I.length = M.length) := hIl
          clear hIl
          go_wp2_with fail
          clear hig hil hWl hlt
          go_loopg [19] I.length (fun g s19 wz => ∃ k : Nat, k + g = I.length ∧ s19 = .int .i64 k ∧ Hid (EgIn w wz (.slice ao5 W.length cp5) (.slice ao9 I.length cp9) (.slice aoM I.length cpM) (.slice none 0 0) W M I []))
          case atStart => exact ⟨0, by omega, rfl, heg⟩
          case round =>
            clear heg
            obtain ⟨j, hjg, rfl, heg⟩ := hrel
            by_cases hlt : j < I.length
            · obtain ⟨hll, aoz, cpz, hfz, hr5⟩ := heg.out.meet.rd
              simp only [Value.slice.injEq] at hfz
              obtain ⟨rfl, _, rfl⟩ := hfz
              rcases hr5 with hr5 | ⟨g5, off5, rfl, hr5⟩
              · omega
              have c5 := hr5 _ _ (nums_get hlt)
              have hin : decide (I[j] ∈ M) = true := by simp; exact (HIM.out _).1 (List.getElem_mem _)
              have ham := among_any wr M (.slice ao9 I.length cp9) (by have := heg.out.want.rd; rw [← HIL.out] at this ⊢; exact this) (by omega) I[j]
              rw [hin] at ham
              have HAM : Hid (Calls Try.prog 12 _ wr _) := ham
              clear ham hin
              have HR5 : Hid (∀ (j : Nat) (u : Value), (nums I)[j]? = some u → wr.cell? ⟨g5, off5 + j, none⟩ = some u) := hr5
              obtain ⟨x, hx⟩ : ∃ x, x = I[j] := ⟨_, rfl⟩
              have HX : Hid (x = I[j]) := hx
              rw [← hx] at c5 HAM
              clear hr5 hll hx
              go_wp2_with fail
              refine HAM.out.mono ?_
              rintro e w5 ⟨rfl, h5⟩
              replace h5 := h5.symm
              subst h5
              clear HAM
              by_cases hj0 : j = 0
              · subst hj0
                clear HX HR5
                rw [show ((0 : Nat) : Int) = (0 : Int) from rfl]
                go_wp2_with fail
                go_quiet (fail)
                go_wp2_with fail
                go_roundg (I.length - 1)
                case measure => omega
                case rel => exact ⟨1, by omega, by go_num, heg.out.below ⟨rfl, rfl, rfl, Nat.le_refl _, fun _ _ => rfl⟩⟩
              · have HXY : Hid (∃ y j' : Nat, j = j' + 1 ∧ wr.cell? ⟨g5, off5 + j', none⟩ = some (.int .i64 (y : Int)) ∧ y < x) := by
                  refine ⟨I[j - 1], j - 1, by omega, HR5.out _ _ (nums_get (show j - 1 < I.length by omega)), ?_⟩
                  rw [HX.out]
                  exact List.pairwise_iff_getElem.1 HIR.out (j - 1) j (by omega) hlt (by omega)
                obtain ⟨y, j', rfl, c6, hyx⟩ := HXY.out
                have hwj := wrap_nat9 (N := j') (by omega)
                have q1 : (0 : Int) < (j' : Int) + 1 := by omega
                have q5 : ¬ ((x : Int) ≤ (y : Int)) := by omega
                have q6 : decide ((x : Int) ≤ (y : Int)) = false := by simp; omega
                clear HXY HX HR5 hj0
                go_wp2_with fail
                go_quiet (fail)
                go_wp2_with fail
                go_roundg (I.length - (j' + 1 + 1))
                case measure => omega
                case rel => exact ⟨j' + 1 + 1, by omega, by go_num, heg.out.below ⟨rfl, rfl, rfl, Nat.le_refl _, fun _ _ => rfl⟩⟩
            · go_wp2_with fail
              go_ret
              exact ⟨rfl, heg.out.bel⟩

end Go.Proofs.Ytbddcodljmglfaa
