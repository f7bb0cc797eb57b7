/- The document's Takes, Sets, added. -/
import Derived.Test.YtbddcodljmglfaaGreatDoorRT9
set_option linter.unusedSimpArgs false
set_option linter.unusedVariables false
namespace Go.Proofs.YtbddcodljmglfaaGreatDoor
open Go.RowKit

/-- What a line takes, by its words. -/
def takesG : List Nat → List BA → List BA
  | p :: ps, b :: bs => if p = 2 then b :: takesG ps bs else takesG ps bs
  | _, _ => []
theorem takesG_nil (bs : List BA) : takesG [] bs = [] := by simp [takesG]
def takesR (x0 : BA) (ws : List BA) : List BA := match kindOf x0 with | some kd => takesG (partsOf kd) (ws.drop 1) | none => []
theorem takesG_step {ps : List Nat} {bs : List BA} {k p : Nat} {b : BA} (hp : ps[k]? = some p) (hb : bs[k]? = some b) : takesG (ps.drop k) (bs.drop k) = (if p = 2 then [b] else []) ++ takesG (ps.drop (k + 1)) (bs.drop (k + 1)) := by
  obtain ⟨h1, h2⟩ := List.getElem?_eq_some_iff.1 hp
  obtain ⟨h3, h4⟩ := List.getElem?_eq_some_iff.1 hb
  rw [List.drop_eq_getElem_cons h1, List.drop_eq_getElem_cons h3, h2, h4]
  by_cases h : p = 2
  · simp [takesG, h]
  · simp [takesG, h]

set_option maxRecDepth 100000 in
set_option maxHeartbeats 4000000 in
theorem takes_any (w : World) (tb gL offL M capL i : Nat) (ws : List BA) (vw : Value) (x0 : BA) (hiM : i < M) (hM : M ≤ 1000000) (hcM : M ≤ capL)
    (t0 : w.cell? ⟨tb, 0, none⟩ = some (.slice (some ⟨gL, offL, none⟩) M capL)) 
    (ci : w.cell? ⟨gL, offL + i, none⟩ = some vw) (hw : WordsIn w vw x0 ws) (hpl : kindOf x0 = none ∨ plainR 0 x0 ws) :
    Calls Tryz.prog 40 #[.pointer (some ⟨tb, 0, none⟩), .int .i64 (i : Int)] w fun e w' => (∃ v, e = .returned v ∧ OwnS w' w.heap.size 9 1 v (takesR x0 ws).length (strs (takesR x0 ws))) ∧ Below w.heap.size w w' := by
  obtain ⟨gw, ow, cw, rfl, hgw, c0⟩ := hw.at
  have HBE : Hid (∀ w1, Calls Tryz.prog 73 #[.string x0] w1 fun e w' => e = .returned (.string (behS (kindOf x0))) ∧ w' = w1) := fun w1 => behind_any w1 x0
  have hN1 := hw.pos
  have hN2 := hw.len
  cases hk : kindOf x0 with
  | none =>
    rw [hk] at HBE
    have HL : Hid (takesR x0 ws = []) := by show _ = _; unfold takesR; rw [hk]
    have hq : (ByteArray.toList (behS none) == [63]) = true := by rw [ByteArray.toList_eq]; decide
    have hfz : (behS none).size = 1 := by decide
    generalize behS none = f at HBE hq hfz
    go_enter Tryz.func40, Tryz.ntmps40
    go_wp2_with (first | (go_at_call 73; refine (HBE.out _).mono ?_; rintro e w1 ⟨rfl, hw1⟩; rw [hw1]; clear hw1))
    go_loopg [5, 8] 0 (fun g v5 v8 wr => v5 = .slice none 0 0 ∧ v8 = .int .i64 0 ∧ wr = w)
    case atStart => exact ⟨rfl, rfl, rfl⟩
    case round =>
      obtain ⟨rfl, rfl, rfl⟩ := hrel
      go_wp2_with fail
      go_ret
      rw [HL.out]
      exact ⟨⟨_, rfl, OwnS.nil _ _ _ _⟩, Below.refl _ _⟩
  | some kd =>
    rw [hk] at HBE
    have hkd := kindOf_lt hk
    have hq : (ByteArray.toList (behS (some kd)) == [63]) = false := behS_q ⟨kd, hkd⟩
    have hfs := behS_size hkd
    have HFG : Hid (∀ j (hj : j < (behS (some kd)).size) p, (partsOf kd)[j]? = some p → (behS (some kd))[j] = partB p) := fun j hj p hp => behS_get hkd hj hp
    have HPR : Hid (∀ p ∈ partsOf kd, p = 1 ∨ p = 2 ∨ p = 3 ∨ p = 4) := parts_range ⟨kd, hkd⟩
    have hf3 : (behS (some kd)).size ≤ 3 := by rw [hfs]; exact partsF_len ⟨kd, hkd⟩
    have HL : Hid (takesR x0 ws = takesG (partsOf kd) (ws.drop 1)) := by show _ = _; unfold takesR; rw [hk]
    have hpl2 : ws.length = (partsOf kd).length + 1 ∧ ∀ j p x, (partsOf kd)[j]? = some p → ws[j + 1]? = some x → partOk 0 p x = true := by
      rcases hpl with h | ⟨kd', h, h2⟩
      · rw [hk] at h; cases h
      · rw [hk] at h; injection h with h; subst h; exact h2
    generalize behS (some kd) = f at HBE hq hfs HFG hf3
    obtain ⟨ps, hps⟩ : ∃ ps, ps = partsOf kd := ⟨_, rfl⟩
    rw [← hps] at hfs HFG HPR HL hpl2
    have HFS : Hid (f.size = ps.length) := hfs
    have HPO : Hid (∀ j p x, ps[j]? = some p → ws[j + 1]? = some x → partOk 0 p x = true) := hpl2.2
    obtain ⟨N, hN⟩ : ∃ N, N = ws.length := ⟨_, rfl⟩
    have HN : Hid (N = ws.length) := hN
    have hNf : N = f.size + 1 := by rw [hN, hpl2.1, hfs]
    have HCL : Hid (∀ W j x, Below w.heap.size w W → ws[j]? = some x → W.cell? ⟨gw, ow + j, none⟩ = some (.string x)) := by
      intro W j x hb hx
      obtain ⟨ao, cp, h1, -, h2⟩ := hw.row.cell
      obtain ⟨g, off, h3, h4, h5⟩ := h2 hN1
      injection h1 with h1 _ _
      rw [← h1] at h3
      injection h3 with h3
      injection h3 with h3 h6 _
      subst h3 h6
      rw [hb.cell (p := ⟨gw, ow + j, none⟩) h4]
      exact h5 j _ (by simp [strs, hx])
    have HS : Hid (∀ x ∈ ws, x.size ≤ 4294967280) := hw.small
    rw [← hN] at ci hN1 hN2
    clear hfs hpl2 hps hpl hw hk hN
    obtain ⟨i0, hi, hz0, hz1, hz2⟩ := info_parts infoString
    go_enter Tryz.func40, Tryz.ntmps40
    go_wp2_with (first | (go_at_call 73; refine (HBE.out _).mono ?_; rintro e w1 ⟨rfl, hw1⟩; rw [hw1]; clear hw1))
    go_loopg [5, 8] f.size (fun g v5 v8 wr => ∃ (k : Nat) (L : List BA), k + g = f.size ∧ v8 = .int .i64 k ∧ Hid (OwnS wr w.heap.size 9 1 v5 L.length (strs L)) ∧ Hid (Below w.heap.size w wr) ∧ L.length ≤ k ∧ Hid (takesG ps (ws.drop 1) = L ++ takesG (ps.drop k) ((ws.drop 1).drop k)))
    case atStart => exact ⟨0, [], by omega, rfl, OwnS.nil _ _ _ _, Below.refl _ _, by simp, by show _ = _; simp⟩
    case round =>
      obtain ⟨k, L, hkg, rfl, hown, hbel, hLk, heq⟩ := hrel
      obtain ⟨ao, cp, rfl⟩ := hown.out.len
      by_cases hkf : k < f.size
      · obtain ⟨p, hp⟩ : ∃ p, ps[k]? = some p := ⟨_, List.getElem?_eq_getElem (by have := HFS.out; omega)⟩
        obtain ⟨x, hx⟩ : ∃ x, ws[k + 1]? = some x := ⟨_, List.getElem?_eq_getElem (by have := HN.out; omega)⟩
        have hxs : x.size ≤ 4294967280 := HS.out x (List.mem_of_getElem? hx)
        have cx : wr.cell? ⟨gw, ow + (k + 1), none⟩ = some (.string x) := HCL.out wr (k + 1) x hbel.out hx
        have hx' : (ws.drop 1)[k]? = some x := by rw [List.getElem?_drop, Nat.add_comm]; exact hx
        have hst := takesG_step hp hx'
        have hpo := HPO.out k p x hp hx
        by_cases hp4 : p = 2
        · subst hp4
          have hfk : (f[k]).toNat = 120 := by rw [HFG.out k hkf _ hp]; rfl
          have HNX : Hid (takesG ps (ws.drop 1) = (L ++ [x]) ++ takesG (ps.drop (k + 1)) ((ws.drop 1).drop (k + 1))) := by
            show _ = _
            rw [heq.out, hst, if_pos rfl]
            simp
          clear hst heq hpo
          go_wp2_with (first
            | (at_builtin; refine wpList_append_ownS _ rfl _ _ 62 rfl w.heap.size 9 i0 (.string ByteArray.empty) 1 16 Tryz.underlying62 hi hz0 hz1 hz2 rfl (by decide) _ _ _ rfl (hown.out.alloc _) ⟨wr.heap.size, 0, none⟩ 1 1 [.string x] rfl rfl (cell_newL _ [_] _ _ rfl) (one1 rfl) (by decide) (by unfold maxLen; omega) (by omega) (by have := hbel.out.size; simp; omega) ?_; intro g' off' cap' w3 hown3 hgrow3 hloc3 hlt3; have HO3 : Hid _ := hown3; have HB3 : Hid (Below w.heap.size w w3) := hbel.out.trans (grown_below hown.out hgrow3 hbel.out.size); clear hown3 hgrow3 hloc3))
          go_roundg (f.size - (k + 1))
          case measure => omega
          case rel => exact ⟨k + 1, L ++ [x], by omega, by go_num, (by show OwnS _ _ _ _ _ _ _; rw [strs_snoc, len_snoc]; exact HO3.out), HB3, by simp; omega, HNX⟩
        · have hfk : ¬ (f[k]).toNat = 120 := by
            rw [HFG.out k hkf _ hp]
            rcases HPR.out p (List.mem_of_getElem? hp) with rfl | rfl | rfl | rfl
            · decide
            · exact absurd rfl hp4
            · decide
            · decide
          have HNX : Hid (takesG ps (ws.drop 1) = L ++ takesG (ps.drop (k + 1)) ((ws.drop 1).drop (k + 1))) := by
            show _ = _
            rw [heq.out, hst, if_neg hp4]
            simp
          clear hst heq hpo
          go_wp2_with fail
          go_roundg (f.size - (k + 1))
          case measure => omega
          case rel => exact ⟨k + 1, L, by omega, by go_num, hown, hbel, by omega, HNX⟩
      · have HE : Hid (takesR x0 ws = L) := by
          show _ = _
          have hd : ps.drop k = [] := List.drop_eq_nil_of_le (by have := HFS.out; omega)
          rw [HL.out, heq.out, hd, takesG_nil]
          simp
        clear heq
        go_wp2_with fail
        go_ret
        rw [HE.out]
        exact ⟨⟨_, rfl, hown.out⟩, hbel.out⟩


/-- What a line sets, by its words. -/
def setsR (x0 : BA) (ws : List BA) : BA := match kindOf x0 with | some kd => if (partsOf kd)[0]? = some 1 then ws.getD 1 ByteArray.empty else ByteArray.empty | none => ByteArray.empty
theorem parts_pos : ∀ k : Fin 10, 1 ≤ (partsOf k.val).length := by decide

set_option maxRecDepth 100000 in
set_option maxHeartbeats 4000000 in
theorem sets_any (w : World) (tb gL offL M capL i : Nat) (ws : List BA) (vw : Value) (x0 : BA) (hiM : i < M) (hM : M ≤ 1000000) (hcM : M ≤ capL)
    (t0 : w.cell? ⟨tb, 0, none⟩ = some (.slice (some ⟨gL, offL, none⟩) M capL)) (t2 : w.cell? ⟨tb, 2, none⟩ = some (.bool false))
    (ci : w.cell? ⟨gL, offL + i, none⟩ = some vw) (hw : WordsIn w vw x0 ws) (hpl : kindOf x0 = none ∨ plainR 0 x0 ws) :
    Calls Tryz.prog 38 #[.pointer (some ⟨tb, 0, none⟩), .int .i64 (i : Int)] w fun e w' => e = .returned (.string (setsR x0 ws)) ∧ ∃ n, w' = w.drewN n := by
  obtain ⟨gw, ow, cw, rfl, hgw, c0⟩ := hw.at
  have HBE : Hid (∀ w1, Calls Tryz.prog 73 #[.string x0] w1 fun e w' => e = .returned (.string (behS (kindOf x0))) ∧ w' = w1) := fun w1 => behind_any w1 x0
  have hN1 := hw.pos
  have hN2 := hw.len
  cases hk : kindOf x0 with
  | none =>
    rw [hk] at HBE
    have HL : Hid (setsR x0 ws = ByteArray.empty) := by show _ = _; unfold setsR; rw [hk]
    have hq : (ByteArray.toList (behS none) == [63]) = true := by rw [ByteArray.toList_eq]; decide
    have hfz : (behS none).size = 1 := by decide
    have hf0 : ∀ h : 0 < (behS none).size, ((behS none)[0]).toNat = 63 := by decide
    have hfp : 0 < (behS none).size := by decide
    generalize behS none = f at HBE hq hfz hf0 hfp
    have hf1 := hf0 hfp
    clear hf0
    go_enter Tryz.func38, Tryz.ntmps38
    go_wp2_with (first | (go_at_call 73; refine (HBE.out _).mono ?_; rintro e w1 ⟨rfl, hw1⟩; rw [hw1]; clear hw1))
    all_goals go_ret
    all_goals (rw [HL.out]; exact ⟨rfl, 0, rfl⟩)
  | some kd =>
    rw [hk] at HBE
    have hkd := kindOf_lt hk
    have hq : (ByteArray.toList (behS (some kd)) == [63]) = false := behS_q ⟨kd, hkd⟩
    have hfs := behS_size hkd
    have hfp : 0 < (behS (some kd)).size := by rw [hfs]; exact parts_pos ⟨kd, hkd⟩
    have HFG : Hid (∀ j (hj : j < (behS (some kd)).size) p, (partsOf kd)[j]? = some p → (behS (some kd))[j] = partB p) := fun j hj p hp => behS_get hkd hj hp
    have HPR : Hid (∀ p ∈ partsOf kd, p = 1 ∨ p = 2 ∨ p = 3 ∨ p = 4) := parts_range ⟨kd, hkd⟩
    have hlen : ws.length = (partsOf kd).length + 1 := by
      rcases hpl with h | ⟨kd', h, h2⟩
      · rw [hk] at h; cases h
      · rw [hk] at h; injection h with h; subst h; exact h2.1
    have HL : Hid (setsR x0 ws = if (partsOf kd)[0]? = some 1 then ws.getD 1 ByteArray.empty else ByteArray.empty) := by show _ = _; unfold setsR; rw [hk]
    generalize behS (some kd) = f at HBE hq hfs HFG hfp
    obtain ⟨ps, hps⟩ : ∃ ps, ps = partsOf kd := ⟨_, rfl⟩
    rw [← hps] at hfs HFG HPR HL hlen
    obtain ⟨p, hp⟩ : ∃ p, ps[0]? = some p := ⟨_, List.getElem?_eq_getElem (by omega)⟩
    obtain ⟨x, hx⟩ : ∃ x, ws[1]? = some x := ⟨_, List.getElem?_eq_getElem (by omega)⟩
    have cx : w.cell? ⟨gw, ow + 1, none⟩ = some (.string x) := by
      obtain ⟨ao, cp, h1, -, h2⟩ := hw.row.cell
      obtain ⟨g, off, h3, h4, h5⟩ := h2 hN1
      injection h1 with h1 _ _
      rw [← h1] at h3
      injection h3 with h3
      injection h3 with h3 h6 _
      subst h3 h6
      exact h5 1 _ (by simp [strs, hx])
    have hN3 : 2 ≤ ws.length := by omega
    obtain ⟨N, hN⟩ : ∃ N, N = ws.length := ⟨_, rfl⟩
    rw [← hN] at ci hN1 hN2 hN3
    have hf0 := HFG.out 0 hfp p hp
    clear hfs hlen hps hpl hw hk hN HFG
    by_cases hp1 : p = 1
    · subst hp1
      have HE : Hid (setsR x0 ws = x) := by
        show _ = _
        rw [HL.out, if_pos hp, List.getD_eq_getElem?_getD, hx]
        rfl
      have hf1 : (f[0]).toNat = 115 := by rw [hf0]; rfl
      clear hf0 HL
      go_enter Tryz.func38, Tryz.ntmps38
      go_wp2_with (first | (go_at_call 73; refine (HBE.out _).mono ?_; rintro e w1 ⟨rfl, hw1⟩; rw [hw1]; clear hw1))
      all_goals go_ret
      all_goals (rw [HE.out]; exact ⟨rfl, 0, rfl⟩)
    · have HE : Hid (setsR x0 ws = ByteArray.empty) := by
        show _ = _
        rw [HL.out, if_neg (fun h => by rw [hp] at h; injection h with h; exact hp1 h)]
      have hf1 : ¬ (f[0]).toNat = 115 := by
        rw [hf0]
        rcases HPR.out p (List.mem_of_getElem? hp) with rfl | rfl | rfl | rfl
        · exact absurd rfl hp1
        · decide
        · decide
        · decide
      clear hf0 HL
      go_enter Tryz.func38, Tryz.ntmps38
      go_wp2_with (first | (go_at_call 73; refine (HBE.out _).mono ?_; rintro e w1 ⟨rfl, hw1⟩; rw [hw1]; clear hw1))
      all_goals go_ret
      all_goals (rw [HE.out]; exact ⟨rfl, 0, rfl⟩)

/-- A list with one more, if it has it not yet. -/
def hasB (L : List BA) (x : BA) : Bool := L.any fun y => ByteArray.toList y == ByteArray.toList x
theorem hasB_iff {L : List BA} {x : BA} : hasB L x = true ↔ x ∈ L := by
  simp only [hasB, List.any_eq_true, beq_iff_eq]
  exact ⟨fun ⟨y, hy, h⟩ => ba_ext h ▸ hy, fun h => ⟨x, h, rfl⟩⟩
def addR (L : List BA) (x : BA) : List BA := if hasB L x = true then L else L ++ [x]

set_option maxRecDepth 100000 in
set_option maxHeartbeats 4000000 in
theorem added_any (w : World) (base : Nat) (v : Value) (L : List BA) (x : BA) (hv : OwnS w base 9 1 v L.length (strs L)) (hb : base ≤ w.heap.size) (hl : L.length ≤ 1000000) :
    Calls Tryz.prog 39 #[v, .string x] w fun e w' => (∃ v', e = .returned v' ∧ OwnS w' base 9 1 v' (addR L x).length (strs (addR L x)) ∧ ∀ k, v'.ownBlock = some k → v.ownBlock = some k ∨ w.heap.size ≤ k) ∧ Below base w w' ∧ ∀ k, k < w.heap.size → v.ownBlock ≠ some k → w'.heap[k]? = w.heap[k]? := by
  have HO : Hid (OwnS w base 9 1 v L.length (strs L)) := hv
  obtain ⟨ao, cp, rfl⟩ := hv.len
  obtain ⟨N, hN⟩ : ∃ N, N = L.length := ⟨_, rfl⟩
  have HN : Hid (N = L.length) := hN
  rw [← hN] at HO hl
  obtain ⟨i0, hi, hz0, hz1, hz2⟩ := info_parts infoString
  have HCL : Hid (0 < N → ∃ g off, ao = some ⟨g, off, none⟩ ∧ ∀ j y, L[j]? = some y → w.cell? ⟨g, off + j, none⟩ = some (.string y)) := by
    intro h
    obtain ⟨ao', cp', h1, -, h2⟩ := RdT.cell hv.rdT
    obtain ⟨g, off, h3, -, h5⟩ := h2 (by omega)
    injection h1 with h1 _ _
    exact ⟨g, off, h1.trans h3, fun j y hy => h5 j _ (by simp [strs, hy])⟩
  rw [← hN]
  clear hv hN
  go_enter Tryz.func39, Tryz.ntmps39
  go_wp2_with fail
  go_loopg [5] N (fun g v5 wr => ∃ (k : Nat), k + g = N ∧ v5 = .int .i64 k ∧ wr = w ∧ Hid (∀ j y, j < k → L[j]? = some y → ByteArray.toList y ≠ ByteArray.toList x))
  case atStart => exact ⟨0, by omega, rfl, rfl, fun j y h => absurd h (by omega)⟩
  case round =>
    obtain ⟨k, hkg, rfl, rfl, hno⟩ := hrel
    by_cases hkN : k < N
    · obtain ⟨y, hy⟩ : ∃ y, L[k]? = some y := ⟨_, List.getElem?_eq_getElem (by have := HN.out; omega)⟩
      obtain ⟨g, off, rfl, hcl⟩ := HCL.out (by omega)
      have cy := hcl k y hy
      clear hcl
      by_cases hyx : ByteArray.toList y = ByteArray.toList x
      · have HA : Hid (addR L x = L) := by
          show _ = _
          unfold addR
          rw [if_pos]
          simp only [hasB, List.any_eq_true, beq_iff_eq]
          exact ⟨y, List.mem_of_getElem? hy, hyx⟩
        have hyx' : (ByteArray.toList y == ByteArray.toList x) = true := by simpa using hyx
        clear hyx
        go_wp2_with fail
        go_ret
        rw [HA.out, ← HN.out]
        exact ⟨⟨_, rfl, HO.out, fun k hk => .inl hk⟩, Below.refl _ _, fun _ _ _ => rfl⟩
      · have hyx' : (ByteArray.toList y == ByteArray.toList x) = false := by simpa using hyx
        have HYX : Hid (ByteArray.toList y ≠ ByteArray.toList x) := hyx
        clear hyx
        go_wp2_with fail
        go_roundg (N - (k + 1))
        case measure => omega
        case rel => exact ⟨k + 1, by omega, by go_num, rfl, fun j z h1 h2 => by rcases Nat.lt_or_eq_of_le (Nat.le_of_lt_succ h1) with h' | h'; exact hno.out j z h' h2; subst h'; rw [hy] at h2; injection h2 with h2; subst h2; exact HYX.out⟩
    · have HA : Hid (addR L x = L ++ [x]) := by
        show _ = _
        unfold addR
        rw [if_neg]
        simp only [hasB, List.any_eq_true, beq_iff_eq]
        rintro ⟨y, hy, h⟩
        obtain ⟨j, hj, rfl⟩ := List.getElem_of_mem hy
        exact hno.out j _ (by have := HN.out; omega) (List.getElem?_eq_getElem hj) h
      clear hno
      go_wp2_with (first
        | (at_builtin; refine wpList_append_ownS _ rfl _ _ 62 rfl base 9 i0 (.string ByteArray.empty) 1 16 Tryz.underlying62 hi hz0 hz1 hz2 rfl (by decide) _ _ _ rfl (HO.out.alloc _) ⟨wr.heap.size, 0, none⟩ 1 1 [.string x] rfl rfl (cell_newL _ [_] _ _ rfl) (one1 rfl) (by decide) (by unfold maxLen; omega) (by omega) (by simp; omega) ?_; intro g' off' cap' w3 hown3 hgrow3 hloc3 hlt3; have HO3 : Hid _ := hown3; have HB3 : Hid (Below base wr w3) := grown_below HO.out hgrow3 hb; have HG3 : Hid ((wr.alloc _).grownBy w3 _) := hgrow3; have HL3 : Hid (_ ∨ g' = _) := hloc3; clear hown3 hgrow3 hloc3))
      go_ret
      rw [HA.out, strs_snoc, len_snoc, ← HN.out]
      exact ⟨⟨_, rfl, HO3.out, fun k hk => (by simp [Value.ownBlock] at hk; subst hk; rcases HL3.out with h | h; exact .inl h; right; rw [h]; simp)⟩, HB3.out, fun k hk hne => (by rw [HG3.out.block k (by simp; omega) (fun e => hne e.symm), Below.heap_alloc _ _ _ hk])⟩

end Go.Proofs.YtbddcodljmglfaaGreatDoor
