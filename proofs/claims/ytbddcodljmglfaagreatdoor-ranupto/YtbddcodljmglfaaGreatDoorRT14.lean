/- The document's Read, walked. -/
import Derived.Test.YtbddcodljmglfaaGreatDoorRT13
import Derived.Test.YtbddcodljmglfaaGreatDoorAppVs
set_option linter.unusedSimpArgs false
set_option linter.unusedVariables false
namespace Go.Proofs.YtbddcodljmglfaaGreatDoor
open Go.RowKit

theorem strs_one (A : List BA) : ∀ u ∈ strs A, u.oneCell' = true := by
  intro u hu
  simp only [strs, List.mem_map] at hu
  obtain ⟨x, _, rfl⟩ := hu
  rfl
/-- append(nil, list...), of strings. -/
theorem run_append_strs (W : World) (ao : Option Addr) (m cp : Nat) (A : List BA) (hm : m = A.length) (hl : A.length ≤ 1000000) (hc : 0 < m → ∃ g off, ao = some ⟨g, off, none⟩ ∧ ∀ j y, A[j]? = some y → W.cell? ⟨g, off + j, none⟩ = some (.string y)) (ty : TypeId) :
    ∃ v w', (Builtin.append_ #[62, 62] ty #[.slice none 0 0, .slice ao m cp]).run Tryz.prog W = .ok v w' ∧ OwnS w' W.heap.size 9 1 v A.length (strs A) ∧ Below W.heap.size W w' := by
  have hu : Tryz.prog.underlying 62 = some (.slice 9) := Tryz.underlying62
  obtain ⟨i0, hi, hz0, hz1, hz2⟩ := info_parts infoString
  by_cases h0 : m = 0
  · subst h0
    obtain rfl : A = [] := List.eq_nil_of_length_eq_zero hm.symm
    refine ⟨.slice none 0 0, W, ?_, OwnS.nil _ _ _ _, Below.refl _ _⟩
    cases ao with
    | none =>
      simp [Builtin.append_, run_underlying hu, sizeOf, typeInfo, hi, Builtin.lenOf]
      try simp [Builtin.firstCells, storeCells]
    | some b =>
      simp [Builtin.append_, run_underlying hu, sizeOf, typeInfo, hi, Builtin.lenOf]
      try simp [Builtin.firstCells, storeCells, loadCells, loadCellsFrom]
  · obtain ⟨g0, off0, rfl, hcl⟩ := hc (by omega)
    obtain ⟨g, off, cap, w', hrun, h1, h2, h3, h4⟩ := run_append_ownS (P := Tryz.prog) W W.heap.size 62 ty 9 i0 _ 1 16 Tryz.underlying62 hi hz0 hz1 hz2 rfl (by decide) (.slice none 0 0) 0 [] (OwnS.nil _ _ _ _) ⟨g0, off0, none⟩ m cp (strs A) (by simp [strs, hm]) (fun j u hj => by
      rw [Addr.add_lit]
      simp only [strs, List.getElem?_map, Option.map_eq_some_iff] at hj
      obtain ⟨y, hy, rfl⟩ := hj
      exact hcl j y hy) (strs_one A) (by omega) (by unfold maxLen; omega) (by omega) (Nat.le_refl _)
    refine ⟨_, w', hrun, ?_, ⟨h2.os, h2.tape, h2.output, h2.size, fun k hk => h2.block k hk (by simp [Value.ownBlock])⟩⟩
    rw [List.nil_append, Nat.zero_add] at h1
    rw [← hm, Nat.zero_add]
    exact h1

theorem takesG_len : ∀ (ps : List Nat) (bs : List BA), (takesG ps bs).length ≤ ps.length
  | [], bs => by simp [takesG]
  | p :: ps, [] => by simp [takesG]
  | p :: ps, b :: bs => by
    have := takesG_len ps bs
    simp only [takesG]
    split <;> simp <;> omega
theorem takesS_len (s : BA) : (takesS s).length ≤ 3 := by
  unfold takesS takesR
  split
  · rename_i kd hk
    exact Nat.le_trans (takesG_len _ _) (partsF_len ⟨kd, kindOf_lt hk⟩)
  · simp
theorem addR_len (L : List BA) (x : BA) : (addR L x).length ≤ L.length + 1 := by
  unfold addR
  split <;> simp
theorem ba_nil {x : BA} : ByteArray.toList x = [] ↔ x.size = 0 := by
  rw [ByteArray.toList_eq]
  constructor
  · intro h
    have h2 : x.data.toList.length = 0 := by rw [h]; rfl
    rw [Array.length_toList] at h2
    exact h2
  · intro h
    apply List.eq_nil_of_length_eq_zero
    rw [Array.length_toList]
    exact h

theorem RdT.of_own {w w' : World} {t : TypeId} {size : Nat} {v : Value} {n : Nat} {xs : List Value} (h : RdT w t size v n xs) (hb : ∀ k, v.ownBlock = some k → k < w.heap.size → w'.heap[k]? = w.heap[k]?) : RdT w' t size v n xs := by
  obtain ⟨hl, ao, cap, rfl, hc, h⟩ := h
  refine ⟨hl, ao, cap, rfl, hc, ?_⟩
  rcases h with h | ⟨g, off, cur, fr, rfl, hg, hx⟩
  · exact .inl h
  · exact .inr ⟨g, off, cur, fr, rfl, (hb g rfl (blk_lt hg)).trans hg, hx⟩

/-- What Read hands back. -/
structure ROut (base : Nat) (s : BA) (e : Ending) (w' : World) : Prop where
  out : ∃ pt, e = .returned (.tuple #[.pointer pt, .int .i64 ((docG s).1 : Int), .int .i64 ((docG s).2 : Int)]) ∧ ((docG s).1 = 0 → ∃ tb bl lv bv vals, pt = some ⟨tb, 0, none⟩ ∧ TextIn base w' tb (cuts 10 s) bl lv bv vals ∧ bl = blkIdx 0 (cuts 10 s) ∧ ∀ x ∈ cuts 10 s, PlainIn x)

set_option maxRecDepth 100000 in
set_option maxHeartbeats 4000000 in
theorem rRead_err (w : World) (s : BA) (c i : Nat) (hc : c ≠ 0) (hc2 : c ≤ 20) (hd : docG s = (c, i))
    (h : Calls Tryz.prog 37 #[.string s, .bool false] w fun e w' => e = .returned (.tuple #[.pointer none, .int .i64 (c : Int), .int .i64 (i : Int)]) ∧ Below w.heap.size w w') :
    Calls Tryz.prog 23 #[.string s] w fun e w' => ROut w.heap.size s e w' ∧ Below w.heap.size w w' := by
  have HR : Hid (Calls Tryz.prog 37 #[.string s, .bool false] w fun e w' => e = .returned (.tuple #[.pointer none, .int .i64 (c : Int), .int .i64 (i : Int)]) ∧ Below w.heap.size w w') := h
  have HD : Hid (docG s = (c, i)) := hd
  have hc' : ((c : Int) == 0) = false := by rw [beq_eq_false_iff_ne]; omega
  have hc0 : c ≠ 0 := hc
  clear h hd
  go_enter Tryz.func23, Tryz.ntmps23
  go_wp2_with (first
    | (go_at_call 37; refine HR.out.mono ?_; rintro e w1 ⟨rfl, hb⟩; have HB1 : Hid (Below w.heap.size w w1) := hb; clear hb))
  go_ret3
  exact ⟨⟨none, (by rw [HD.out]; rfl), fun h => absurd (by rw [HD.out] at h; exact h) hc0⟩, HB1.out⟩

set_option maxRecDepth 100000 in
set_option maxHeartbeats 4000000 in
theorem rRead_text (w : World) (s : BA) (nb : Nat) (hs : s.size ≤ 4294967280) (hl : (cuts 10 s).length ≤ 120) (hok : docL 0 0 ByteArray.empty (cuts 10 s) = .ok nb) (hlo : docLost nb 0 (cuts 10 s) = none) :
    Calls Tryz.prog 23 #[.string s] w fun e w' => ROut w.heap.size s e w' ∧ Below w.heap.size w w' := by
  have HDG : Hid (docG s = match docCrowd ((cuts 32 (hd (cuts 10 s))).drop 1) 1 ((cuts 10 s).drop 1) with | some i => (9, i) | none => (0, 0)) := by
    show _ = _
    unfold docG
    rw [if_neg (by omega), hok]
    simp only [hlo]
    generalize docCrowd _ _ _ = z
    cases z <;> rfl
  obtain ⟨x0, r, hcs⟩ : ∃ x0 r, cuts 10 s = x0 :: r := by
    cases h : cuts 10 s with
    | nil => exact absurd h (cuts_ne 10 s)
    | cons a b => exact ⟨a, b, rfl⟩
  have HX0 : Hid ((cuts 10 s)[0]? = some x0 ∧ hd (cuts 10 s) = x0) := ⟨by rw [hcs]; rfl, by rw [hcs]; rfl⟩
  have hA : (cuts 32 x0).length ≤ 5 := by
    rw [hcs, docL_cons] at hok
    split at hok
    · rename_i h
      rw [stands_iff] at h
      unfold standsR at h
      rw [if_pos rfl] at h
      exact h.2.1
    · cases hok
  have HR : Hid (Calls Tryz.prog 37 #[.string s, .bool false] w fun e w' => (∃ tb bl gL offL cpL bv vals gw ow cw, bl = blkIdx 0 (cuts 10 s) ∧ e = .returned (.tuple #[.pointer (some ⟨tb, 0, none⟩), .int .i64 0, .int .i64 0]) ∧ TextIn w.heap.size w' tb (cuts 10 s) bl (.slice (some ⟨gL, offL, none⟩) (cuts 10 s).length cpL) bv vals ∧ w'.cell? ⟨gL, offL, none⟩ = some (.slice (some ⟨gw, ow, none⟩) (cuts 32 x0).length cw) ∧ (cuts 32 x0).length ≤ cw ∧ ∃ v2 w2, (Builtin.append_ #[62, 62] 62 #[.slice none 0 0, .slice (if cw = 1 then some ⟨gw, ow, none⟩ else some ⟨gw, ow + 1, none⟩) ((cuts 32 x0).length - 1) (cw - 1)]).run Tryz.prog w' = .ok v2 w2 ∧ OwnS w2 w'.heap.size 9 1 v2 ((cuts 32 x0).drop 1).length (strs ((cuts 32 x0).drop 1)) ∧ Below w'.heap.size w' w2) ∧ Below w.heap.size w w' ∧ ∀ x ∈ cuts 10 s, PlainIn x) := by
    refine (rread_any w s hs hl).mono ?_
    rintro e w' ⟨h1, h2⟩
    obtain ⟨tb, bl, lv, bv, vals, h3, h4, h6, h5⟩ := (h1.2 nb hok).2 hlo
    obtain ⟨gL, offL, cpL, v, rfl, hcL, hgL, hv, hw⟩ := h4.at (j := 0) (by rw [hcs]; simp)
    have hx0 : (cuts 10 s)[0]'(by rw [hcs]; simp) = x0 := by simp [hcs]
    rw [hx0] at hw
    obtain ⟨ao, cw, rfl, hcw, hcl⟩ := hw.row.cell
    obtain ⟨gw, ow, rfl, hgw, hcl⟩ := hcl hw.pos
    have happ := run_append_strs w' (if cw = 1 then some ⟨gw, ow, none⟩ else some ⟨gw, ow + 1, none⟩) ((cuts 32 x0).length - 1) (cw - 1) ((cuts 32 x0).drop 1) (by simp) (by simp; omega) (fun hm0 => ⟨gw, ow + 1, if_neg (by omega), fun j y hy => by
      rw [List.getElem?_drop] at hy
      have := hcl (1 + j) (.string y) (by simp [strs, hy])
      rw [← Nat.add_assoc] at this
      exact this⟩) 62
    exact ⟨⟨tb, bl, gL, offL, cpL, bv, vals, gw, ow, cw, h6, h3, h4, hv, hcw, happ⟩, h2, h5⟩
  have hp5 : 1 ≤ (cuts 32 x0).length := by
    obtain ⟨bs, h⟩ := hd_cuts x0
    rw [h]; simp
  clear hok hlo
  rw [HX0.out.2] at HDG
  obtain ⟨T, hT⟩ : ∃ T, T = cuts 10 s := ⟨_, rfl⟩
  have HTE : Hid (T = cuts 10 s) := hT
  rw [← hT] at HR HX0 HDG hl
  obtain ⟨N, hN⟩ : ∃ N, N = T.length := ⟨_, rfl⟩
  have HN : Hid (N = T.length) := hN
  rw [← hN] at hl
  rw [← hN] at HR
  clear hT hN hcs
  obtain ⟨W0, hW0⟩ : ∃ W0, W0 = cuts 32 x0 := ⟨_, rfl⟩
  rw [← hW0] at HR HDG hA hp5
  clear hW0
  obtain ⟨Nw, hNw⟩ : ∃ Nw, Nw = W0.length := ⟨_, rfl⟩
  have HNW : Hid (Nw = W0.length) := hNw
  rw [← hNw] at HR hA hp5
  clear hNw
  have hN1 : 1 ≤ N := by rw [HN.out]; exact (List.getElem?_eq_some_iff.1 HX0.out.1).1
  go_enter Tryz.func23, Tryz.ntmps23
  go_wp2_with (first
    | (go_at_call 37; refine HR.out.mono ?_; rintro e w1 ⟨⟨tb, bl, gL, offL, cpL, bv, vals, gw, ow, cw, hbi, rfl, hT1, cL0, hcw, v2, w2, happ, hown2, hb2⟩, hb, hpl⟩; have HT1 : Hid (TextIn _ _ _ _ _ _ _ _) := hT1; have HPL : Hid (∀ x ∈ T, PlainIn x) := hpl; have HBI : Hid (bl = blkIdx 0 T) := hbi; have HB1 : Hid (Below w.heap.size w w1) := hb; have HAPP : Hid (_ = Result.ok v2 w2) := happ; have HO2 : Hid (OwnS w2 _ _ _ _ _ _) := hown2; have HB2 : Hid (Below w1.heap.size w1 w2) := hb2; have t0 := hT1.box.cell (k := 0) rfl; clear hb hpl hT1 happ hown2 hb2 hbi)
    | (at_builtin; go_must (refine wpList_append_run rfl _ _ 62 rfl (.slice none 0 0) (.slice (if cw = 1 then some ⟨gw, ow, none⟩ else some ⟨gw, ow + 1, none⟩) (Nw - 1) (cw - 1)) rfl rfl v2 w2 HAPP.out ?_); clear HAPP; generalize (if cw = 1 then some (⟨gw, ow, none⟩ : Addr) else some ⟨gw, ow + 1, none⟩) = aoX))
  clear cL0 t0 HR
  have HT2 : Hid (∀ W, Below w1.heap.size w1 W → TextIn w.heap.size W tb T bl (.slice (some ⟨gL, offL, none⟩) N cpL) bv vals) := fun W hb => HT1.out.below hb
  have HSE : Hid (∀ W (i : Nat) x, Below w1.heap.size w1 W → T[i]? = some x → Calls Tryz.prog 38 #[.pointer (some ⟨tb, 0, none⟩), .int .i64 (i : Int)] W fun e w' => e = .returned (.string (setsS x)) ∧ Below W.heap.size W w') := by
    intro W i x hb hx
    have hT := HT2.out W hb
    obtain ⟨vw, ci, hwi, hcap⟩ := hT.line hx
    have hiN : i < N := by rw [HN.out]; exact (List.getElem?_eq_some_iff.1 hx).1
    refine (sets_any W tb gL offL N cpL i (cuts 32 x) vw (hd (cuts 32 x)) hiN (by omega) hcap (hT.box.cell rfl) (hT.box.cell rfl) ci hwi (HPL.out x (List.mem_of_getElem? hx))).mono ?_
    rintro e w' ⟨h1, n, rfl⟩
    exact ⟨h1, below_drewN (Below.refl _ _) n⟩
  have HTK : Hid (∀ W (i : Nat) x, Below w1.heap.size w1 W → T[i]? = some x → Calls Tryz.prog 40 #[.pointer (some ⟨tb, 0, none⟩), .int .i64 (i : Int)] W fun e w' => (∃ v, e = .returned v ∧ OwnS w' W.heap.size 9 1 v (takesS x).length (strs (takesS x))) ∧ Below W.heap.size W w') := by
    intro W i x hb hx
    have hT := HT2.out W hb
    obtain ⟨vw, ci, hwi, hcap⟩ := hT.line hx
    have hiN : i < N := by rw [HN.out]; exact (List.getElem?_eq_some_iff.1 hx).1
    exact takes_any W tb gL offL N cpL i (cuts 32 x) vw (hd (cuts 32 x)) hiN (by omega) hcap (hT.box.cell rfl) ci hwi (HPL.out x (List.mem_of_getElem? hx))
  have hsz1 := HB1.out.size
  go_loopg [8, 9] N (fun g v8 v9 wr => ∃ (i : Nat) (L : List BA), i + g = N + 1 ∧ 1 ≤ i ∧ v9 = .int .i64 i ∧ Hid (OwnS wr w1.heap.size 9 1 v8 L.length (strs L)) ∧ Hid (Below w1.heap.size w1 wr) ∧ L.length ≤ 8 ∧ Hid (docCrowd (W0.drop 1) 1 (T.drop 1) = docCrowd L i (T.drop i)))
  case atStart => exact ⟨1, W0.drop 1, by omega, by omega, rfl, HO2, HB2, by rw [List.length_drop, ← HNW.out]; omega, by show _ = _; rfl⟩
  case round =>
    obtain ⟨i, L, hig, hi1, rfl, hown, hbel, hL8, hdc⟩ := hrel
    obtain ⟨aoN, cpN, rfl⟩ := hown.out.len
    have t0 : wr.cell? ⟨tb, 0, none⟩ = some (.slice (some ⟨gL, offL, none⟩) N cpL) := (HT2.out wr hbel.out).box.cell rfl
    have hszr := hbel.out.size
    by_cases hiN : i < N
    · obtain ⟨x, hx⟩ : ∃ x, T[i]? = some x := ⟨_, List.getElem?_eq_getElem (by rw [← HN.out]; exact hiN)⟩
      have HST : Hid (docCrowd (W0.drop 1) 1 (T.drop 1) = if 8 < (docNames L x).length then some i else docCrowd (docNames L x) (i + 1) (T.drop (i + 1))) := by
        show _ = _
        rw [hdc.out, drop_some hx, docCrowd_cons]
      have HXX : Hid (T[i]? = some x) := hx
      have hts := takesS_len x
      have HSEx : Hid (∀ W, Below w1.heap.size w1 W → Calls Tryz.prog 38 #[.pointer (some ⟨tb, 0, none⟩), .int .i64 (i : Int)] W fun e w' => e = .returned (.string (setsS x)) ∧ Below W.heap.size W w') := fun W hb => HSE.out W i x hb hx
      have HTKx : Hid (∀ W, Below w1.heap.size w1 W → Calls Tryz.prog 40 #[.pointer (some ⟨tb, 0, none⟩), .int .i64 (i : Int)] W fun e w' => (∃ v, e = .returned v ∧ OwnS w' W.heap.size 9 1 v (takesS x).length (strs (takesS x))) ∧ Below W.heap.size W w') := fun W hb => HTK.out W i x hb hx
      -- the names with what the line sets
      obtain ⟨L1, hL1⟩ : ∃ L1, L1 = if (setsS x).size = 0 then L else addR L (setsS x) := ⟨_, rfl⟩
      have hL9 : L1.length ≤ 9 := by
        rw [hL1]
        split
        · omega
        · have := addR_len L (setsS x); omega
      have HDN : Hid (docNames L x = (takesS x).foldl addR L1) := by show _ = _; unfold docNames; rw [hL1]
      -- behind them, the loop over what it takes
      clear hx hdc
      by_cases hz : (setsS x).size = 0
      · rw [if_pos hz] at hL1
        subst hL1
        have hz' : (ByteArray.toList (setsS x) == []) = true := by rw [beq_iff_eq]; exact ba_nil.2 hz
        clear hz
        generalize setsS x = sx at *
        generalize takesS x = Ts at *
        go_wp2_with (first
          | (go_at_call 38; refine (HSEx.out _ hbel.out).mono ?_; rintro e w3 ⟨rfl, hb3⟩; have HB3 : Hid (Below w1.heap.size w1 w3) := hbel.out.trans (hb3.mono hbel.out.size); have HO3 : Hid (OwnS w3 _ _ _ _ _ _) := own_below hown.out hb3; clear hb3)
          | (go_at_call 40; refine (HTKx.out _ HB3.out).mono ?_; rintro e w4 ⟨⟨vt, rfl, hvt⟩, hb4⟩; obtain ⟨aoT, cpT, rfl⟩ := hvt.len; have HB4 : Hid (Below w1.heap.size w1 w4) := HB3.out.trans (hb4.mono HB3.out.size); have HO4 : Hid (OwnS w4 _ _ _ _ _ _) := own_below HO3.out hb4; have HAP4 : Hid (∀ k, (Value.slice aoT Ts.length cpT).ownBlock = some k → (Value.slice aoN L1.length cpN).ownBlock ≠ some k) := (fun k h1 h2 => by have := (hvt.lt k h1).1; have := (HO3.out.lt k h2).2; omega); have HV4 : Hid (RdT w4 _ _ _ _ _) := hvt.rdT; clear hvt hb4))
        obtain ⟨M, hM⟩ : ∃ M, M = Ts.length := ⟨_, rfl⟩
        have HM : Hid (M = Ts.length) := hM
        rw [← hM] at hts HAP4 HV4 ⊢
        clear hM
        go_loopg [8, 12] M (fun g v8 v12 wr3 => ∃ (k : Nat) (L2 : List BA), k + g = M ∧ v12 = .int .i64 k ∧ Hid (OwnS wr3 w1.heap.size 9 1 v8 L2.length (strs L2)) ∧ Hid (Below w1.heap.size w1 wr3) ∧ Hid (RdT wr3 9 1 (.slice aoT M cpT) M (strs Ts)) ∧ Hid (∀ q, (Value.slice aoT M cpT).ownBlock = some q → v8.ownBlock ≠ some q) ∧ L2.length ≤ 9 + k ∧ Hid ((Ts.take k).foldl addR L1 = L2))
        case atStart => exact ⟨0, L1, by omega, rfl, HO4, HB4, HV4, HAP4, by omega, by show _ = _; rfl⟩
        case round =>
          clear HO4 HB4 HV4 HAP4 hown hbel t0 HB3 HO3
          obtain ⟨k, L2, hkg, rfl, hown, hbel, hrd, hap, hL2, hfold⟩ := hrel
          obtain ⟨aoN2, cpN2, rfl⟩ := hown.out.len
          by_cases hkM : k < M
          · obtain ⟨y, hy⟩ : ∃ y, Ts[k]? = some y := ⟨_, List.getElem?_eq_getElem (by rw [← HM.out]; exact hkM)⟩
            obtain ⟨gT, ofT, haoT, hgT, cy⟩ : ∃ g off, aoT = some ⟨g, off, none⟩ ∧ g < wr.heap.size ∧ wr.cell? ⟨g, off + k, none⟩ = some (.string y) := by
              obtain ⟨a, c, h1, -, h2⟩ := hrd.out.cell
              injection h1 with h1 _ _
              subst h1
              obtain ⟨g, off, h3, h5, h4⟩ := h2 (by omega)
              exact ⟨g, off, h3, h5, h4 k _ (by simp [strs, hy])⟩
            subst haoT
            have HAD : Hid (Calls Tryz.prog 39 #[.slice aoN2 L2.length cpN2, .string y] wr fun e w' => (∃ v', e = .returned v' ∧ OwnS w' w1.heap.size 9 1 v' (addR L2 y).length (strs (addR L2 y)) ∧ ∀ q, v'.ownBlock = some q → (Value.slice aoN2 L2.length cpN2).ownBlock = some q ∨ wr.heap.size ≤ q) ∧ Below w1.heap.size wr w' ∧ ∀ q, q < wr.heap.size → (Value.slice aoN2 L2.length cpN2).ownBlock ≠ some q → w'.heap[q]? = wr.heap[q]?) := added_any wr w1.heap.size _ L2 y hown.out hbel.out.size (by omega)
            have hfold2 : Hid ((Ts.take (k + 1)).foldl addR L1 = addR L2 y) := by
              show _ = _
              rw [List.take_add_one, hy, List.foldl_append, hfold.out]
              rfl
            have hadd := addR_len L2 y
            have hk0 : (0 : Int) ≤ (k : Int) := by omega
            have hk1 : (k : Int) < (M : Int) := by omega
            clear hfold
            go_wp2_with (first
              | (go_at_call 39; refine HAD.out.mono ?_; rintro e w5 ⟨⟨v5, rfl, hv5, hw5⟩, hb5, hk5⟩; have HO5 : Hid (OwnS w5 _ _ _ _ _ _) := hv5; have HB5 : Hid (Below w1.heap.size wr w5) := hb5; have HR5 : Hid (RdT w5 _ _ _ _ _) := hrd.out.of_own (fun q h1 h2 => hk5 q h2 (hap.out q h1)); have HP5 : Hid (∀ q, (Value.slice (some ⟨gT, ofT, none⟩) M cpT).ownBlock = some q → v5.ownBlock ≠ some q) := (fun q h1 h2 => by rcases hw5 q h2 with h3 | h3; exact hap.out q h1 h3; simp [Value.ownBlock] at h1; omega); clear hv5 hw5 hb5 hk5))
            go_roundg (M - (k + 1))
            case measure => omega
            case rel => exact ⟨k + 1, addR L2 y, by omega, by go_num, HO5, hbel.out.trans HB5.out, HR5, HP5, by omega, hfold2⟩
          · have hdn : Hid (docNames L1 x = L2) := by
              show _ = _
              rw [HDN.out, ← hfold.out, List.take_of_length_le (by rw [← HM.out]; omega)]
            rw [hdn.out] at HST
            clear hfold hdn HDN
            by_cases h8 : 8 < L2.length
            · have hmany : Hid (docG s = (9, i)) := by
                show _ = _
                rw [HDG.out, HST.out, if_pos h8]
              have h8' : (8 : Int) < (L2.length : Int) := by omega
              go_wp2_with fail
              go_ret3
              exact ⟨⟨_, (by rw [hmany.out]; rfl), fun h => by rw [hmany.out] at h; cases h⟩, HB1.out.trans (hbel.out.mono hsz1)⟩
            · have hnext : Hid (docCrowd (W0.drop 1) 1 (T.drop 1) = docCrowd L2 (i + 1) (T.drop (i + 1))) := by
                show _ = _
                rw [HST.out, if_neg h8]
              have h8' : ¬ (8 : Int) < (L2.length : Int) := by omega
              go_wp2_with fail
              go_roundg (N - i)
              case measure => omega
              case rel => exact ⟨i + 1, L2, by omega, by omega, by go_num, hown, hbel, by omega, hnext⟩
      · rw [if_neg hz] at hL1
        have hz' : (ByteArray.toList (setsS x) == []) = false := by
          rw [beq_eq_false_iff_ne]
          exact fun h => hz (ba_nil.1 h)
        have HAD0 : Hid (∀ W, Below w1.heap.size w1 W → OwnS W w1.heap.size 9 1 (.slice aoN L.length cpN) L.length (strs L) → Calls Tryz.prog 39 #[.slice aoN L.length cpN, .string (setsS x)] W fun e w' => (∃ v', e = .returned v' ∧ OwnS w' w1.heap.size 9 1 v' L1.length (strs L1)) ∧ Below w1.heap.size w1 w') := by
          intro W hb ho
          refine (added_any W w1.heap.size _ L (setsS x) ho hb.size (by omega)).mono ?_
          rintro e w' ⟨⟨v', h1, h2, -⟩, h3, -⟩
          rw [← hL1] at h2
          exact ⟨⟨v', h1, h2⟩, hb.trans h3⟩
        clear hz hL1
        generalize setsS x = sx at *
        generalize takesS x = Ts at *
        go_wp2_with (first
          | (go_at_call 38; refine (HSEx.out _ hbel.out).mono ?_; rintro e w2a ⟨rfl, hb3⟩; have HB2a : Hid (Below w1.heap.size w1 w2a) := hbel.out.trans (hb3.mono hbel.out.size); have HO2a : Hid (OwnS w2a _ _ _ _ _ _) := own_below hown.out hb3; clear hb3)
          | (go_at_call 39; refine (HAD0.out _ HB2a.out HO2a.out).mono ?_; rintro e w3 ⟨⟨v3, rfl, ho3⟩, hb3⟩; obtain ⟨aoN3, cpN3, rfl⟩ := ho3.len; have HB3 : Hid (Below w1.heap.size w1 w3) := hb3; have HO3 : Hid (OwnS w3 _ _ _ _ _ _) := ho3; clear hb3 ho3)
          | (go_at_call 40; refine (HTKx.out _ HB3.out).mono ?_; rintro e w4 ⟨⟨vt, rfl, hvt⟩, hb4⟩; obtain ⟨aoT, cpT, rfl⟩ := hvt.len; have HB4 : Hid (Below w1.heap.size w1 w4) := HB3.out.trans (hb4.mono HB3.out.size); have HO4 : Hid (OwnS w4 _ _ _ _ _ _) := own_below HO3.out hb4; have HAP4 : Hid (∀ k, (Value.slice aoT Ts.length cpT).ownBlock = some k → (Value.slice aoN3 L1.length cpN3).ownBlock ≠ some k) := (fun k h1 h2 => by have := (hvt.lt k h1).1; have := (HO3.out.lt k h2).2; omega); have HV4 : Hid (RdT w4 _ _ _ _ _) := hvt.rdT; clear hvt hb4))
        clear HB2a HO2a
        obtain ⟨M, hM⟩ : ∃ M, M = Ts.length := ⟨_, rfl⟩
        have HM : Hid (M = Ts.length) := hM
        rw [← hM] at hts HAP4 HV4 ⊢
        clear hM
        go_loopg [8, 12] M (fun g v8 v12 wr3 => ∃ (k : Nat) (L2 : List BA), k + g = M ∧ v12 = .int .i64 k ∧ Hid (OwnS wr3 w1.heap.size 9 1 v8 L2.length (strs L2)) ∧ Hid (Below w1.heap.size w1 wr3) ∧ Hid (RdT wr3 9 1 (.slice aoT M cpT) M (strs Ts)) ∧ Hid (∀ q, (Value.slice aoT M cpT).ownBlock = some q → v8.ownBlock ≠ some q) ∧ L2.length ≤ 9 + k ∧ Hid ((Ts.take k).foldl addR L1 = L2))
        case atStart => exact ⟨0, L1, by omega, rfl, HO4, HB4, HV4, HAP4, by omega, by show _ = _; rfl⟩
        case round =>
          clear HO4 HB4 HV4 HAP4 hown hbel t0 HB3 HO3
          obtain ⟨k, L2, hkg, rfl, hown, hbel, hrd, hap, hL2, hfold⟩ := hrel
          obtain ⟨aoN2, cpN2, rfl⟩ := hown.out.len
          by_cases hkM : k < M
          · obtain ⟨y, hy⟩ : ∃ y, Ts[k]? = some y := ⟨_, List.getElem?_eq_getElem (by rw [← HM.out]; exact hkM)⟩
            obtain ⟨gT, ofT, haoT, hgT, cy⟩ : ∃ g off, aoT = some ⟨g, off, none⟩ ∧ g < wr.heap.size ∧ wr.cell? ⟨g, off + k, none⟩ = some (.string y) := by
              obtain ⟨a, c, h1, -, h2⟩ := hrd.out.cell
              injection h1 with h1 _ _
              subst h1
              obtain ⟨g, off, h3, h5, h4⟩ := h2 (by omega)
              exact ⟨g, off, h3, h5, h4 k _ (by simp [strs, hy])⟩
            subst haoT
            have HAD : Hid (Calls Tryz.prog 39 #[.slice aoN2 L2.length cpN2, .string y] wr fun e w' => (∃ v', e = .returned v' ∧ OwnS w' w1.heap.size 9 1 v' (addR L2 y).length (strs (addR L2 y)) ∧ ∀ q, v'.ownBlock = some q → (Value.slice aoN2 L2.length cpN2).ownBlock = some q ∨ wr.heap.size ≤ q) ∧ Below w1.heap.size wr w' ∧ ∀ q, q < wr.heap.size → (Value.slice aoN2 L2.length cpN2).ownBlock ≠ some q → w'.heap[q]? = wr.heap[q]?) := added_any wr w1.heap.size _ L2 y hown.out hbel.out.size (by omega)
            have hfold2 : Hid ((Ts.take (k + 1)).foldl addR L1 = addR L2 y) := by
              show _ = _
              rw [List.take_add_one, hy, List.foldl_append, hfold.out]
              rfl
            have hadd := addR_len L2 y
            have hk0 : (0 : Int) ≤ (k : Int) := by omega
            have hk1 : (k : Int) < (M : Int) := by omega
            clear hfold
            go_wp2_with (first
              | (go_at_call 39; refine HAD.out.mono ?_; rintro e w5 ⟨⟨v5, rfl, hv5, hw5⟩, hb5, hk5⟩; have HO5 : Hid (OwnS w5 _ _ _ _ _ _) := hv5; have HB5 : Hid (Below w1.heap.size wr w5) := hb5; have HR5 : Hid (RdT w5 _ _ _ _ _) := hrd.out.of_own (fun q h1 h2 => hk5 q h2 (hap.out q h1)); have HP5 : Hid (∀ q, (Value.slice (some ⟨gT, ofT, none⟩) M cpT).ownBlock = some q → v5.ownBlock ≠ some q) := (fun q h1 h2 => by rcases hw5 q h2 with h3 | h3; exact hap.out q h1 h3; simp [Value.ownBlock] at h1; omega); clear hv5 hw5 hb5 hk5))
            go_roundg (M - (k + 1))
            case measure => omega
            case rel => exact ⟨k + 1, addR L2 y, by omega, by go_num, HO5, hbel.out.trans HB5.out, HR5, HP5, by omega, hfold2⟩
          · have hdn : Hid (docNames L x = L2) := by
              show _ = _
              rw [HDN.out, ← hfold.out, List.take_of_length_le (by rw [← HM.out]; omega)]
            rw [hdn.out] at HST
            clear hfold hdn HDN
            by_cases h8 : 8 < L2.length
            · have hmany : Hid (docG s = (9, i)) := by
                show _ = _
                rw [HDG.out, HST.out, if_pos h8]
              have h8' : (8 : Int) < (L2.length : Int) := by omega
              go_wp2_with fail
              go_ret3
              exact ⟨⟨_, (by rw [hmany.out]; rfl), fun h => by rw [hmany.out] at h; cases h⟩, HB1.out.trans (hbel.out.mono hsz1)⟩
            · have hnext : Hid (docCrowd (W0.drop 1) 1 (T.drop 1) = docCrowd L2 (i + 1) (T.drop (i + 1))) := by
                show _ = _
                rw [HST.out, if_neg h8]
              have h8' : ¬ (8 : Int) < (L2.length : Int) := by omega
              go_wp2_with fail
              go_roundg (N - i)
              case measure => omega
              case rel => exact ⟨i + 1, L2, by omega, by omega, by go_num, hown, hbel, by omega, hnext⟩
    · have hnone : Hid (docG s = (0, 0)) := by
        show _ = _
        rw [HDG.out, hdc.out, List.drop_eq_nil_of_le (by rw [← HN.out]; omega)]
        rfl
      clear hdc
      go_wp2_with fail
      go_ret3
      exact ⟨⟨_, (by rw [hnone.out]; rfl), fun _ => ⟨tb, bl, _, bv, vals, rfl, by rw [← HTE.out]; exact HT2.out wr hbel.out, by rw [← HTE.out]; exact HBI.out, by rw [← HTE.out]; exact HPL.out⟩⟩, HB1.out.trans (hbel.out.mono hsz1)⟩

end Go.Proofs.YtbddcodljmglfaaGreatDoor
