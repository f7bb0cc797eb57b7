/- The document's read of a form, walked. -/
import Derived.Test.YtbddcodljmglfaaGreatDoorFormC
import Derived.Test.YtbddcodljmglfaaGreatDoorTextB
import Derived.Deep.RegionHeld3
import Derived.Deep.RegionWith
set_option linter.unusedSimpArgs false
set_option linter.unusedVariables false
namespace Go.Proofs.YtbddcodljmglfaaGreatDoor
open Go.RowKit

attribute [local go_sem ↓ high] append_lock

set_option maxRecDepth 100000 in
set_option maxHeartbeats 8000000 in
theorem rreadF_any (w : World) (s : BA) (hs : s.size ≤ 4294967280) (hl : (cuts 10 s).length ≤ 1000) :
    Calls Tryz.prog 37 #[.string s, .bool true] w fun e w' => RdOutF w.heap.size (cuts 10 s) e w' ∧ Below w.heap.size w w' := by
  have HSP : Hid (Calls Tryz.prog 69 #[.string s, .int .u8 10] w fun e w' => (∃ v, e = .returned v ∧ OwnS w' w.heap.size 9 1 v (cuts 10 s).length (strs (cuts 10 s))) ∧ Below w.heap.size w w') := rSplit_any w s 10 hs
  have HSZ : Hid (∀ x ∈ cuts 10 s, x.size ≤ 4294967280) := fun x hx => by have := cuts_size 10 s x hx; omega
  have hpos : 0 < (cuts 10 s).length := List.length_pos_iff.2 (cuts_ne 10 s)
  have HSW : Hid (∀ W x, x.size ≤ 4294967280 → Calls Tryz.prog 69 #[.string x, .int .u8 32] W fun e w' => (∃ v, e = .returned v ∧ OwnS w' W.heap.size 9 1 v (cuts 32 x).length (strs (cuts 32 x))) ∧ Below W.heap.size W w') := fun W x hx => rSplit_any W x 32 hx
  generalize cuts 10 s = T at *
  obtain ⟨N, hN⟩ : ∃ N, N = T.length := ⟨_, rfl⟩
  have HN : Hid (N = T.length) := hN
  rw [← hN] at HSP hl hpos
  have hl2 : ¬ (1000 : Int) < (N : Int) := by omega
  clear hN hs
  go_enter Tryz.func37, Tryz.ntmps37
  go_wp2_with (first
    | (go_at_call 69; refine HSP.out.mono ?_; rintro e w1 ⟨⟨v, rfl, hv⟩, hb⟩; obtain ⟨ao, cp, rfl⟩ := hv.len; have HB1 : Hid (Below w.heap.size w w1) := hb; have HV1 : Hid (OwnS w1 _ _ _ _ _ _) := hv; clear hb hv))
  obtain ⟨tb, htb⟩ : ∃ tb, tb = w1.heap.size := ⟨_, rfl⟩
  have HTB : Hid (tb = w1.heap.size) := htb
  obtain ⟨j0, hj, hy0, hy1, hy2⟩ := info_parts infoInt
  go_loopg [9] N (fun g v9 wr => ∃ (i : Nat) (bl : List Nat) (lv bv : Value) (vals : List Value) (last : BA), i + g = N ∧ v9 = .int .i64 i ∧ Hid (TextF w.heap.size wr w1.heap.size (T.take i) bl lv bv vals) ∧ Hid (RdT wr 9 1 (.slice ao N cp) N (strs T)) ∧ Hid (Below w.heap.size w wr) ∧ Hid (docLF 0 0 ByteArray.empty T = docLF i bl.length last (T.drop i)) ∧ Hid (∀ x ∈ T.take i, PlainF x) ∧ Hid (0 < i → ∃ x, T[i - 1]? = some x ∧ last = hd (cuts 32 x)) ∧ Hid (bl = blkIdx 0 (T.take i)) ∧ bl.length ≤ i)
  case atStart => exact ⟨0, [], _, _, [], ByteArray.empty, by omega, rfl, ⟨BoxIn.new w1 _ [.slice none 0 0, .slice none 0 0, .bool true], OwnS.nil _ _ _ _, rfl, by simp, OwnS.nil _ _ _ _, HB1.out.size⟩, (HV1.out.alloc _).rdT, HB1.out.alloc HB1.out.size _, by show _ = _; simp, by show ∀ x ∈ _, _; simp, fun h => absurd h (by omega), by show _ = _; rfl, by simp⟩
  case round =>
    obtain ⟨i, bl, lv, bv, vals, last, hig, rfl, hTI, hRT, hBW, hdoc, hpl, hlast, hbi, hnb⟩ := hrel
    obtain ⟨aoL, cpL, hlv⟩ : ∃ ao cp, lv = .slice ao (T.take i).length cp := hTI.out.rows.len
    obtain ⟨aoB, cpB, rfl⟩ := hTI.out.blocks.len
    have hlen : (T.take i).length = i := by rw [List.length_take, ← HN.out]; omega
    rw [hlen] at hlv
    subst hlv
    by_cases hiN : i < N
    · obtain ⟨x, hx⟩ : ∃ x, T[i]? = some x := ⟨_, List.getElem?_eq_getElem (by rw [← HN.out]; exact hiN)⟩
      have hxs : x.size ≤ 4294967280 := HSZ.out x (List.mem_of_getElem? hx)
      have hT1 : T.take i ++ [x] = T.take (i + 1) := by
        obtain ⟨h1, h2⟩ := List.getElem?_eq_some_iff.1 hx
        rw [List.take_add_one, hx]
        rfl
      have HX1 : Hid ((T.take (i + 1))[i]? = some x) := by
        show _ = _
        rw [← hT1, List.getElem?_append_right (by omega), hlen]
        simp
      have HXL : Hid (0 < i → ∃ y, (T.take (i + 1))[i - 1]? = some y ∧ last = hd (cuts 32 y)) := by
        intro h0
        obtain ⟨y, h1, h2⟩ := hlast.out h0
        exact ⟨y, by rw [List.getElem?_take_of_lt (by omega)]; exact h1, h2⟩
      have HP7 : Hid (PlainF x → ∀ y ∈ T.take (i + 1), PlainF y) := by
        intro h y hy
        rw [← hT1] at hy
        rcases List.mem_append.1 hy with hy | hy
        · exact hpl.out y hy
        · rw [List.mem_singleton] at hy; subst hy; exact h
      have HXX : Hid (T[i]? = some x) := hx
      have HBI : Hid (blkIdx 0 (T.take (i + 1)) = bl ++ (if isBlock (hd (cuts 32 x)) = true then [i] else [])) := by
        show _ = _
        rw [← hT1, blkIdx_snoc, ← hbi.out, hlen, Nat.zero_add]
      have HSTEP : Hid (docLF 0 0 ByteArray.empty T = if standsFB i bl.length last (cuts 32 x) = true then docLF (i + 1) (if isBlock (hd (cuts 32 x)) = true then bl.length + 1 else bl.length) (hd (cuts 32 x)) (T.drop (i + 1)) else .error i) := by
        show _ = _
        rw [hdoc.out, drop_some hx, docLF_cons]
      obtain ⟨gl, ofl, hao, hgl, hcl⟩ : ∃ g off, ao = some ⟨g, off, none⟩ ∧ g < wr.heap.size ∧ ∀ (j : Nat) u, (strs T)[j]? = some u → wr.cell? ⟨g, off + j, none⟩ = some u := by
        obtain ⟨a, c, h1, -, h2⟩ := hRT.out.cell
        injection h1 with h1 _ _
        subst h1
        exact h2 (by omega)
      subst hao
      have cx : wr.cell? ⟨gl, ofl + i, none⟩ = some (.string x) := hcl i _ (by simp [strs, hx])
      clear hcl
      have HCX : Hid (∀ w', Keeps 9 wr w' → w'.cell? ⟨gl, ofl + i, none⟩ = some (.string x)) := by
        intro w' hk
        obtain ⟨a, c, h1, -, h2⟩ := (hRT.out.keep hk).cell
        injection h1 with h1 _ _
        subst h1
        obtain ⟨g, off, h3, -, h4⟩ := h2 (by omega)
        injection h3 with h3
        injection h3 with h3 h5 _
        subst h3 h5
        exact h4 i _ (by simp [strs, hx])
      have H6 : Hid (∀ w5 w6 o, Below wr.heap.size wr w5 → TextF w.heap.size w5 w1.heap.size (T.take i) bl (.slice aoL i cpL) (.slice aoB bl.length cpB) vals → (w5.alloc o).grownBy w6 (Value.slice aoL i cpL).ownBlock → w6.cell? ⟨w1.heap.size, 0, none⟩ = some (.slice aoL i cpL) ∧ w6.frozen? ⟨w1.heap.size, 0, none⟩ = false ∧ w6.cell? ⟨gl, ofl + i, none⟩ = some (.string x) ∧ ∀ u, (w6.setCell ⟨w1.heap.size, 0, none⟩ u).cell? ⟨gl, ofl + i, none⟩ = some (.string x)) := by
        intro w5 w6 o hb hT hg
        have hbx : BoxIn w6 w1.heap.size 66 [.slice aoL i cpL, .slice aoB bl.length cpB, .bool true] := grown_box hT.rows hg hT.box (by decide)
        have hk : Keeps 9 wr w6 := (Keeps.of_below hb).trans (grown_keeps hT.rows hg (by decide))
        exact ⟨hbx.cell rfl, hbx.frozen 0, HCX.out _ hk, fun u => HCX.out _ (hk.setCell hbx (by decide) u)⟩
      have HI0 : (0 : Int) ≤ (i : Int) := by omega
      have HI1 : (i : Int) < (N : Int) := by omega
      have c0 : wr.cell? ⟨w1.heap.size, 0, none⟩ = some (.slice aoL i cpL) := hTI.out.box.cell rfl
      -- behind the line's own Split
      have H5 : Hid (∀ w5, Below wr.heap.size wr w5 → TextF w.heap.size w5 w1.heap.size (T.take i) bl (.slice aoL i cpL) (.slice aoB bl.length cpB) vals ∧ w5.cell? ⟨w1.heap.size, 0, none⟩ = some (.slice aoL i cpL) ∧ w5.cell? ⟨gl, ofl + i, none⟩ = some (.string x) ∧ w.heap.size ≤ w5.heap.size ∧ OwnS w5 w.heap.size 62 1 (.slice aoL i cpL) i vals ∧ (∀ o, (w5.alloc o).cell? ⟨w1.heap.size, 0, none⟩ = some (.slice aoL i cpL))) := fun w5 hb => ⟨hTI.out.below hb, (hTI.out.below hb).box.cell rfl, (hb.cell (p := ⟨gl, ofl + i, none⟩) hgl).trans cx, Nat.le_trans hBW.out.size hb.size, by have := (hTI.out.below hb).rows; rw [hlen] at this; exact this, fun o => ((hTI.out.below hb).box.below ((Below.refl _ _).alloc (Nat.le_refl _) o)).cell rfl⟩
      have HAP : Hid (∀ w5, OwnS w5 w.heap.size 62 1 (.slice aoL i cpL) i vals → w.heap.size ≤ w5.heap.size → ∀ ao5 cp5, ∃ g off cap w3, (∀ ty, (appLock #[63, 63] ty #[.slice aoL i cpL, .slice (some ⟨w5.heap.size, 0, none⟩) 1 1]).run Tryz.prog (w5.alloc (.cells #[.slice ao5 (cuts 32 x).length cp5] 62)) = .ok (.slice (some ⟨g, off, none⟩) (i + 1) cap) w3) ∧
          OwnS w3 w.heap.size 62 1 (.slice (some ⟨g, off, none⟩) (i + 1) cap) (i + 1) (vals ++ [.slice ao5 (cuts 32 x).length cp5]) ∧ (w5.alloc (.cells #[.slice ao5 (cuts 32 x).length cp5] 62)).grownBy w3 (Value.slice aoL i cpL).ownBlock) := fun w5 ho hb ao5 cp5 => app_now w5 w.heap.size 63 62 _ 1 24 Tryz.underlying63 infoStrs rfl (by decide) _ i vals ho [.slice ao5 (cuts 32 x).length cp5] rfl (one1 rfl) (by unfold maxLen; omega) (by omega) hb
      clear hx hdoc
      go_wp2_with fail
      go_region_with (first
          | (go_at_call 69; refine (HSW.out _ x hxs).mono ?_; rintro e w5 ⟨⟨wv, rfl, hwv⟩, hb5⟩; obtain ⟨ao5, cp5, rfl⟩ := hwv.len; have HB5 : Hid (Below wr.heap.size wr w5) := ((Below.refl _ _).drew).trans hb5; have HW5 : Hid (WordsIn w5 _ _ _) := words_in hxs hwv; obtain ⟨hT5, c05, cx5, hs5, hr5, c05a⟩ := H5.out w5 HB5.out; have HR5 : Hid (OwnS w5 w.heap.size 62 1 (.slice aoL i cpL) i vals) := hr5; have HT5 : Hid (TextF _ w5 _ _ _ _ _ _) := hT5; obtain ⟨g', off', cap', w6, happ, hown6, hgrow6⟩ := HAP.out w5 hr5 (Nat.le_trans hs5 (Nat.le_refl _)) ao5 cp5; obtain ⟨c06, f06, hx6, hx7⟩ := H6.out w5 w6 _ HB5.out HT5.out hgrow6; have HO6 : Hid (OwnS w6 _ _ _ _ _ _) := hown6; have HG6 : Hid ((w5.alloc _).grownBy w6 _) := hgrow6; clear hown6 hgrow6 hx6 hx7 hwv hb5 hT5 hr5))
      all_goals
        have hB7 : Below w.heap.size w (w6.setCell ⟨w1.heap.size, 0, none⟩ (.slice (some ⟨g', off', none⟩) (i + 1) cap')) := ((hBW.out.trans (HB5.out.mono hBW.out.size)).trans (grown_below HR5.out HG6.out hs5)).setCell HB1.out.size _
        have hT7 := HT5.out.addLine (s := x) (by rw [hlen]; exact HO6.out) HG6.out HW5.out
        rw [hlen, hT1] at hT7
        have hR7 : RdT (w6.setCell ⟨w1.heap.size, 0, none⟩ (.slice (some ⟨g', off', none⟩) (i + 1) cap')) 9 1 (.slice (some ⟨gl, ofl, none⟩) N cp) N (strs T) := hRT.out.keep (((Keeps.of_below HB5.out).trans (grown_keeps HR5.out HG6.out (by decide))).setCell (b := w1.heap.size) (grown_box HR5.out HG6.out HT5.out.box (by decide)) (by decide) _)
        have HT7 : Hid (TextF _ _ _ _ _ _ _ _) := hT7
        have HB7 : Hid (Below _ _ _) := hB7
        have HR7 : Hid (RdT _ _ _ _ _ _) := hR7
        clear hT7 hB7 hR7 happ HAP c06 f06 c05 c05a cx5 cx c0 H5 H6 HCX HO6 HG6 HR5 HB5 hs5 hTI hBW hRT HW5 HT5 HSP
        generalize w6.setCell ⟨w1.heap.size, 0, none⟩ (.slice (some ⟨g', off', none⟩) (i + 1) cap') = w7 at *
        have HST : Hid (Calls Tryz.prog 70 #[.pointer (some ⟨w1.heap.size, 0, none⟩), .int .i64 (i : Int)] w7 fun e w' => BoolIff e (standsF i bl.length (hd (cuts 32 x)) last (cuts 32 x)) ∧ TextF w.heap.size w' w1.heap.size (T.take (i + 1)) bl (.slice (some ⟨g', off', none⟩) (i + 1) cap') (.slice aoB bl.length cpB) (vals ++ [.slice ao5 (cuts 32 x).length cp5]) ∧ Below w.heap.size w w' ∧ RdT w' 9 1 (.slice (some ⟨gl, ofl, none⟩) N cp) N (strs T)) := by
          obtain ⟨vw, ci, hwi, hcap⟩ := HT7.out.line HX1.out
          have fin : ∀ {e : Ending} {w' : World}, (BoolIff e (standsF i bl.length (hd (cuts 32 x)) last (cuts 32 x)) ∧ ∃ n, w' = w7.drewN n) → BoolIff e (standsF i bl.length (hd (cuts 32 x)) last (cuts 32 x)) ∧ TextF w.heap.size w' w1.heap.size (T.take (i + 1)) bl (.slice (some ⟨g', off', none⟩) (i + 1) cap') (.slice aoB bl.length cpB) (vals ++ [.slice ao5 (cuts 32 x).length cp5]) ∧ Below w.heap.size w w' ∧ RdT w' 9 1 (.slice (some ⟨gl, ofl, none⟩) N cp) N (strs T) := by
            rintro e w' ⟨h1, n, rfl⟩
            exact ⟨h1, HT7.out.below (below_drewN (Below.refl _ _) n), HB7.out.trans (below_drewN (Below.refl _ _) n), HR7.out.below (below_drewN (Below.refl _ _) n)⟩
          rcases Nat.eq_zero_or_pos i with hi0 | hi0
          · exact (stands1_any w7 w1.heap.size g' off' (i + 1) cap' i bl.length cpB aoB (cuts 32 x) [] vw undef (hd (cuts 32 x)) last (by omega) (by omega) hcap (HT7.out.box.cell rfl) (HT7.out.box.cell rfl) (HT7.out.box.cell rfl) ci hwi (fun h => absurd h (by omega))).mono fun e w' h => fin h
          · obtain ⟨y, hy, hly⟩ := HXL.out hi0
            obtain ⟨vl, cl, hwl, -⟩ := HT7.out.line hy
            rw [← hly] at hwl
            exact (stands1_any w7 w1.heap.size g' off' (i + 1) cap' i bl.length cpB aoB (cuts 32 x) (cuts 32 y) vw vl (hd (cuts 32 x)) last (by omega) (by omega) hcap (HT7.out.box.cell rfl) (HT7.out.box.cell rfl) (HT7.out.box.cell rfl) ci hwi (fun _ => ⟨cl, hwl⟩)).mono fun e w' h => fin h
        by_cases hst : standsFB i bl.length last (cuts 32 x) = true
        · have HSR : Hid (standsF i bl.length (hd (cuts 32 x)) last (cuts 32 x)) := (standsF_iff _ _ _ _).1 hst
          have HPX := HP7.out (standsF_plain hst)
          have HPX' : Hid (∀ y ∈ T.take (i + 1), PlainF y) := HPX
          clear HPX HP7
          by_cases hbk : isBlock (hd (cuts 32 x)) = true
          · have hnext : Hid (docLF 0 0 ByteArray.empty T = docLF (i + 1) (bl.length + 1) (hd (cuts 32 x)) (T.drop (i + 1))) := by
              show _ = _
              rw [HSTEP.out, if_pos hst, if_pos hbk]
            have hbk' : (ByteArray.toList (hd (cuts 32 x)) == [98, 108, 111, 99, 107]) = true := hbk
            have HBN : Hid (bl ++ [i] = blkIdx 0 (T.take (i + 1))) := by show _ = _; rw [HBI.out, if_pos hbk]
            clear hst hbk HSTEP
            go_wp2_with (first
              | (go_at_call 70; refine HST.out.mono ?_; rintro e w8 ⟨⟨b, rfl, hb⟩, hT8, hB8, hR8⟩; obtain rfl : b = true := hb.2 HSR.out; have HT8 : Hid (TextF _ _ _ _ _ _ _ _) := hT8; have HB8 : Hid (Below _ _ _) := hB8; have HR8 : Hid (RdT _ _ _ _ _ _) := hR8; obtain ⟨vw, ci, hwi, hcap⟩ := hT8.line HX1.out; obtain ⟨gw, ow, cw, rfl, hgw, c00⟩ := hwi.at; have hwp := hwi.pos; have t0 := hT8.box.cell (k := 0) rfl; have t1 := hT8.box.cell (k := 1) rfl; clear hT8 hB8 hR8 hwi hb)
              | (at_builtin; refine wpList_append_ownS _ rfl _ _ 64 rfl w.heap.size 3 j0 (.int .i64 0) 1 8 Tryz.underlying64 hj hy0 hy1 hy2 rfl (by decide) _ _ _ rfl (HT8.out.blocks.alloc _) ⟨w8.heap.size, 0, none⟩ 1 1 [.int .i64 (i : Int)] rfl rfl (cell_newL _ [_] _ _ rfl) (one1 rfl) (by decide) (by unfold maxLen; omega) (by omega) (by have := HB8.out.size; simp; omega) ?_; intro g9 off9 cap9 w9 hown9 hgrow9 hloc9 hlt9; have hbx9 := grown_box HT8.out.blocks hgrow9 HT8.out.box (by decide); have c91 := BoxIn.cell hbx9 (k := 1) rfl; have f91 := BoxIn.frozen hbx9 1; have HO9 : Hid (OwnS w9 _ _ _ _ _ _) := hown9; have HG9 : Hid ((w8.alloc _).grownBy w9 _) := hgrow9; have HBX9 : Hid _ := hbx9; clear hown9 hgrow9 hloc9 hlt9 hbx9))
            go_roundg (N - (i + 1))
            case measure => omega
            case rel => exact ⟨i + 1, bl ++ [i], _, _, _, hd (cuts 32 x), by omega, by go_num, HT8.out.addBlock HO9.out HG9.out, HR8.out.keep ((grown_keeps HT8.out.blocks HG9.out (by decide)).setCell HBX9.out (by decide) _), (HB8.out.trans (grown_below HT8.out.blocks HG9.out HB8.out.size)).setCell HB1.out.size _, (by show _ = _; rw [hnext.out]; simp), HPX', (fun _ => ⟨x, HXX.out, rfl⟩), HBN, by simp; omega⟩
          · have hnext : Hid (docLF 0 0 ByteArray.empty T = docLF (i + 1) bl.length (hd (cuts 32 x)) (T.drop (i + 1))) := by
              show _ = _
              rw [HSTEP.out, if_pos hst, if_neg hbk]
            have hbk' : (ByteArray.toList (hd (cuts 32 x)) == [98, 108, 111, 99, 107]) = false := by simpa [isBlock] using hbk
            have HBN : Hid (bl = blkIdx 0 (T.take (i + 1))) := by show _ = _; rw [HBI.out, if_neg hbk, List.append_nil]
            clear hst hbk HSTEP
            go_wp2_with (first
              | (go_at_call 70; refine HST.out.mono ?_; rintro e w8 ⟨⟨b, rfl, hb⟩, hT8, hB8, hR8⟩; obtain rfl : b = true := hb.2 HSR.out; have HT8 : Hid (TextF _ _ _ _ _ _ _ _) := hT8; have HB8 : Hid (Below _ _ _) := hB8; have HR8 : Hid (RdT _ _ _ _ _ _) := hR8; obtain ⟨vw, ci, hwi, hcap⟩ := hT8.line HX1.out; obtain ⟨gw, ow, cw, rfl, hgw, c00⟩ := hwi.at; have hwp := hwi.pos; have t0 := hT8.box.cell (k := 0) rfl; clear hT8 hB8 hR8 hwi hb))
            go_roundg (N - (i + 1))
            case measure => omega
            case rel => exact ⟨i + 1, bl, _, _, _, hd (cuts 32 x), by omega, by go_num, HT8, HR8, HB8, hnext, HPX', (fun _ => ⟨x, HXX.out, rfl⟩), HBN, by omega⟩
        · have hend : Hid (docLF 0 0 ByteArray.empty T = .error i) := by
            show _ = _
            rw [HSTEP.out, if_neg hst]
          have HNR : Hid (¬ standsF i bl.length (hd (cuts 32 x)) last (cuts 32 x)) := fun h => hst ((standsF_iff _ _ _ _).2 h)
          clear hst HSTEP
          go_wp2_with (first
            | (go_at_call 70; refine HST.out.mono ?_; rintro e w8 ⟨⟨b, rfl, hb⟩, hT8, hB8, hR8⟩; obtain rfl : b = false := (by cases b; rfl; exact absurd (hb.1 rfl) HNR.out); have HB8 : Hid (Below _ _ _) := hB8; clear hT8 hB8 hR8 hb))
          go_ret3
          exact ⟨RdOutF.err hend.out rfl, HB8.out⟩
    · have hiE : i = N := by omega
      have htk : T.take i = T := List.take_of_length_le (by rw [← HN.out]; omega)
      have hdr : T.drop i = [] := List.drop_eq_nil_of_le (by rw [← HN.out]; omega)
      rw [htk] at hTI hpl hbi
      have hdc : Hid (docLF 0 0 ByteArray.empty T = if endsW last = true then .ok bl.length else .error N) := by
        show _ = _
        rw [hdoc.out, hdr, hiE]
        rfl
      obtain ⟨y, hy, hly⟩ := hlast.out (by omega)
      rw [hiE] at hy hTI
      clear hdoc hlast htk hdr
      obtain ⟨gL, offL, hLe⟩ : ∃ gL offL, aoL = some ⟨gL, offL, none⟩ := by
        obtain ⟨g, off, cap, v, h1, -⟩ := hTI.out.at (j := 0) (by rw [← HN.out]; exact hpos)
        injection h1 with h1 _ _
        exact ⟨g, off, h1⟩
      subst hLe
      obtain ⟨vy, cy, hwy, hcL⟩ := hTI.out.line hy
      obtain ⟨gy, oy, cpy, rfl, hgy, cy0⟩ := hwy.at
      have hyp := hwy.pos
      rw [← hly] at cy0
      have t0 : wr.cell? ⟨w1.heap.size, 0, none⟩ = some (.slice (some ⟨gL, offL, none⟩) N cpL) := hTI.out.box.cell rfl
      have HEN : Hid (∀ W, Calls Tryz.prog 71 #[.string last] W fun e w' => e = .returned (.bool (endsW last)) ∧ w' = W) := fun W => rEnds_any W last
      have HNP : (0 : Int) < (N : Int) := by omega
      clear hwy hly hy HSP HSW hig hiN
      subst hiE
      by_cases he : endsW last = true
      · have hok : Hid (docLF 0 0 ByteArray.empty T = .ok bl.length) := by show _ = _; rw [hdc.out, if_pos he]
        rw [he] at HEN
        clear hdc he
        go_wp2_with (first
          | (go_at_call 71; refine (HEN.out _).mono ?_; rintro e w2 ⟨rfl, hw2⟩; rw [hw2]; clear hw2))
        clear t0 cy cy0
        go_loopg [12] i (fun g v12 wr2 => ∃ (j : Nat), j + g = i ∧ v12 = .int .i64 j ∧ Hid (TextF w.heap.size wr2 w1.heap.size T bl (.slice (some ⟨gL, offL, none⟩) i cpL) (.slice aoB bl.length cpB) vals) ∧ Hid (Below w.heap.size w wr2) ∧ Hid (docLost bl.length 0 T = docLost bl.length j (T.drop j)))
        case atStart => exact ⟨0, by omega, rfl, hTI, hBW, by show _ = _; simp⟩
        case round =>
          obtain ⟨j, hjg, rfl, hT2, hB2, hlo⟩ := hrel
          by_cases hjN : j < i
          · obtain ⟨x, hx⟩ : ∃ x, T[j]? = some x := ⟨_, List.getElem?_eq_getElem (by rw [← HN.out]; exact hjN)⟩
            have HLC : Hid (docLost bl.length 0 T = if (leadsS x).any (fun k => decide (bl.length ≤ k)) = true then some j else docLost bl.length (j + 1) (T.drop (j + 1))) := by
              show _ = _
              rw [hlo.out, drop_some hx, docLost_cons]
            have HLD : Hid (Calls Tryz.prog 72 #[.pointer (some ⟨w1.heap.size, 0, none⟩), .int .i64 (j : Int)] wr fun e w' => (∃ v, e = .returned v ∧ OwnS w' wr.heap.size 3 1 v (leadsS x).length (nums (leadsS x))) ∧ TextF w.heap.size w' w1.heap.size T bl (.slice (some ⟨gL, offL, none⟩) i cpL) (.slice aoB bl.length cpB) vals ∧ Below w.heap.size w w') := by
              obtain ⟨vw, ci, hwi, hcap⟩ := hT2.out.line hx
              refine (leadsF_any wr w1.heap.size gL offL i cpL j (cuts 32 x) vw (hd (cuts 32 x)) hjN (by omega) hcap (hT2.out.box.cell rfl) ci hwi (hpl.out x (List.mem_of_getElem? hx)).plain).mono ?_
              rintro e w' ⟨h1, h2⟩
              exact ⟨h1, hT2.out.below h2, hB2.out.trans (h2.mono hB2.out.size)⟩
            have hl3 := leadsS_len x
            clear hlo hT2 hB2 hx
            generalize leadsS x = Ls at *
            go_wp2_with (first
              | (go_at_call 72; refine HLD.out.mono ?_; rintro e w3 ⟨⟨v, rfl, hv⟩, hT3, hB3⟩; obtain ⟨ao3, cp3, rfl⟩ := hv.len; have HV3 : Hid (OwnS w3 _ _ _ _ _ _) := hv; have HT3 : Hid (TextF _ _ _ _ _ _ _ _) := hT3; have HB3 : Hid (Below _ _ _) := hB3; clear hv hT3 hB3))
            obtain ⟨M, hM⟩ : ∃ M, M = Ls.length := ⟨_, rfl⟩
            have HM : Hid (M = Ls.length) := hM
            rw [← hM] at hl3 ⊢
            clear hM
            go_loopg [14] M (fun g v14 wr3 => ∃ (k : Nat), k + g = M ∧ v14 = .int .i64 k ∧ Hid (TextF w.heap.size wr3 w1.heap.size T bl (.slice (some ⟨gL, offL, none⟩) i cpL) (.slice aoB bl.length cpB) vals) ∧ Hid (Below w.heap.size w wr3) ∧ Hid (RdT wr3 3 1 (.slice ao3 Ls.length cp3) Ls.length (nums Ls)) ∧ Hid (∀ q ∈ Ls.take k, ¬ bl.length ≤ q))
            case atStart => exact ⟨0, by omega, rfl, HT3, HB3, HV3.out.rdT, by show ∀ q ∈ _, _; simp⟩
            case round =>
              obtain ⟨k, hkg, rfl, hT4, hB4, hR4, hall⟩ := hrel
              clear HT3 HB3 HV3 HLD
              have t1 : wr.cell? ⟨w1.heap.size, 1, none⟩ = some (.slice aoB bl.length cpB) := hT4.out.box.cell rfl
              by_cases hkM : k < M
              · obtain ⟨q, hq⟩ : ∃ q, Ls[k]? = some q := ⟨_, List.getElem?_eq_getElem (by rw [← HM.out]; exact hkM)⟩
                obtain ⟨g3, of3, hao3, hc3⟩ : ∃ g off, ao3 = some ⟨g, off, none⟩ ∧ wr.cell? ⟨g, off + k, none⟩ = some (.int .i64 (q : Int)) := by
                  obtain ⟨a, c, h1, -, h2⟩ := hR4.out.cell
                  injection h1 with h1 _ _
                  subst h1
                  obtain ⟨g, off, h3, -, h4⟩ := h2 (by rw [← HM.out]; omega)
                  exact ⟨g, off, h3, h4 k _ (by simp [nums, hq])⟩
                subst hao3
                have hk0 : (0 : Int) ≤ (k : Int) := by omega
                have hk1 : (k : Int) < (M : Int) := by omega
                by_cases hqb : bl.length ≤ q
                · have hsome : Hid (docLost bl.length 0 T = some j) := by
                    show _ = _
                    rw [HLC.out, if_pos (List.any_eq_true.2 ⟨q, List.mem_of_getElem? hq, by simpa using hqb⟩)]
                  have hqb' : (bl.length : Int) ≤ (q : Int) := by omega
                  go_wp2_with fail
                  go_region_held3 (fun w' => w'.cell? ⟨g3, of3 + k, none⟩ = some (.int .i64 (q : Int)) ∧ w'.cell? ⟨w1.heap.size, 1, none⟩ = some (.slice aoB bl.length cpB)) (go_keep) (fail)
                  go_wp2_with fail
                  go_ret3
                  exact ⟨RdOutF.lost hok.out hsome.out rfl, hB4.out.drew⟩
                · have hqb' : ¬ (bl.length : Int) ≤ (q : Int) := by omega
                  have hall2 : Hid (∀ q ∈ Ls.take (k + 1), ¬ bl.length ≤ q) := by
                    intro p hp
                    rw [List.take_add_one, hq] at hp
                    rcases List.mem_append.1 hp with hp | hp
                    · exact hall.out p hp
                    · simp at hp; subst hp; exact hqb
                  clear hall
                  go_wp2_with fail
                  go_region_held3 (fun w' => w'.cell? ⟨g3, of3 + k, none⟩ = some (.int .i64 (q : Int)) ∧ w'.cell? ⟨w1.heap.size, 1, none⟩ = some (.slice aoB bl.length cpB)) (go_keep) (fail)
                  go_wp2_with fail
                  go_roundg (M - (k + 1))
                  case measure => omega
                  case rel => exact ⟨k + 1, by omega, by go_num, hT4.out.below (Below.refl _ _).drew, hB4.out.drew, hR4.out.below (Below.refl _ _).drew, hall2⟩
              · have hnone : Hid (docLost bl.length 0 T = docLost bl.length (j + 1) (T.drop (j + 1))) := by
                  show _ = _
                  have hh : ¬ (Ls.any (fun k => decide (bl.length ≤ k)) = true) := by
                    intro h
                    obtain ⟨q, h1, h2⟩ := List.any_eq_true.1 h
                    rw [List.take_of_length_le (by rw [← HM.out]; omega)] at hall
                    exact hall.out q h1 (by simpa using h2)
                  rw [HLC.out, if_neg hh]
                clear hall
                go_wp2_with fail
                go_roundg (i - (j + 1))
                case measure => omega
                case rel => exact ⟨j + 1, by omega, by go_num, hT4, hB4, hnone⟩
          · have hjE : j = i := by omega
            have hnone : Hid (docLost bl.length 0 T = none) := by
              show _ = _
              rw [hlo.out, List.drop_eq_nil_of_le (by rw [← HN.out]; omega)]
              rfl
            clear hlo
            go_wp2_with fail
            go_ret3
            exact ⟨RdOutF.ok hok.out hnone.out rfl hT2.out hbi.out hpl.out, hB2.out⟩
      · have hend : Hid (docLF 0 0 ByteArray.empty T = .error i) := by show _ = _; rw [hdc.out, if_neg he]
        have he' : endsW last = false := by simpa using he
        rw [he'] at HEN
        clear hdc he he'
        go_wp2_with (first
          | (go_at_call 71; refine (HEN.out _).mono ?_; rintro e w2 ⟨rfl, hw2⟩; rw [hw2]; clear hw2))
        go_ret3
        exact ⟨RdOutF.err hend.out rfl, hBW.out⟩


end Go.Proofs.YtbddcodljmglfaaGreatDoor
