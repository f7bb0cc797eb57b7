/- The document's leads, Takes, Sets, of a form's lines. And what follows on it. -/
import Derived.Test.YtbddcodljmglfaaGreatDoorFormA
import Derived.Test.YtbddcodljmglfaaGreatDoorTextB
set_option linter.unusedSimpArgs false
set_option linter.unusedVariables false
namespace Go.Proofs.YtbddcodljmglfaaGreatDoor
open Go.RowKit

def PlainFR (x0 : BA) (ws : List BA) : Prop := (kindOf x0 = none ∧ (isPhi x0 = true → phiB ws = true)) ∨ plainR 1 x0 ws
def setsFR (x0 : BA) (ws : List BA) : BA := if isPhi x0 = true then ws.getD 1 ByteArray.empty else setsR x0 ws
theorem PlainFR.plain {x0 : BA} {ws : List BA} (h : PlainFR x0 ws) : kindOf x0 = none ∨ plainR 1 x0 ws := by
  rcases h with h | h
  · exact .inl h.1
  · exact .inr h

set_option maxRecDepth 100000 in
set_option maxHeartbeats 4000000 in
theorem leadsF_any (w : World) (tb gL offL M capL i : Nat) (ws : List BA) (vw : Value) (x0 : BA) (hiM : i < M) (hM : M ≤ 1000000) (hcM : M ≤ capL)
    (t0 : w.cell? ⟨tb, 0, none⟩ = some (.slice (some ⟨gL, offL, none⟩) M capL)) 
    (ci : w.cell? ⟨gL, offL + i, none⟩ = some vw) (hw : WordsIn w vw x0 ws) (hpl : kindOf x0 = none ∨ plainR 1 x0 ws) :
    Calls Tryz.prog 72 #[.pointer (some ⟨tb, 0, none⟩), .int .i64 (i : Int)] w fun e w' => (∃ v, e = .returned v ∧ OwnS w' w.heap.size 3 1 v (leadsR x0 ws).length (nums (leadsR x0 ws))) ∧ Below w.heap.size w w' := by
  obtain ⟨gw, ow, cw, rfl, hgw, c0⟩ := hw.at
  have HBE : Hid (∀ w1, Calls Tryz.prog 73 #[.string x0] w1 fun e w' => e = .returned (.string (behS (kindOf x0))) ∧ w' = w1) := fun w1 => behind_any w1 x0
  have hN1 := hw.pos
  have hN2 := hw.len
  cases hk : kindOf x0 with
  | none =>
    rw [hk] at HBE
    have HL : Hid (leadsR x0 ws = []) := by show _ = _; unfold leadsR; rw [hk]
    have hq : (ByteArray.toList (behS none) == [63]) = true := by rw [ByteArray.toList_eq]; decide
    have hfz : (behS none).size = 1 := by decide
    generalize behS none = f at HBE hq hfz
    go_enter Tryz.func72, Tryz.ntmps72
    go_wp2_with (first | (go_at_call 73; refine (HBE.out _).mono ?_; rintro e w1 ⟨rfl, hw1⟩; rw [hw1]; clear hw1))
    go_loopg [5, 8] 0 (fun g v5 v8 wr => v5 = .slice none 0 0 ∧ v8 = .int .i64 0 ∧ wr = w)
    case atStart => exact ⟨rfl, rfl, rfl⟩
    case round =>
      obtain ⟨rfl, rfl, rfl⟩ := hrel
      go_wp2_with fail
      go_ret
      rw [HL.out]
      exact ⟨⟨_, rfl, OwnS.nil _ _ _ _⟩, Below.refl _ _⟩
  | some kd =>
    rw [hk] at HBE
    have hkd := kindOf_lt hk
    have hq : (ByteArray.toList (behS (some kd)) == [63]) = false := behS_q ⟨kd, hkd⟩
    have hfs := behS_size hkd
    have HFG : Hid (∀ j (hj : j < (behS (some kd)).size) p, (partsOf kd)[j]? = some p → (behS (some kd))[j] = partB p) := fun j hj p hp => behS_get hkd hj hp
    have HPR : Hid (∀ p ∈ partsOf kd, p = 1 ∨ p = 2 ∨ p = 3 ∨ p = 4) := parts_range ⟨kd, hkd⟩
    have hf3 : (behS (some kd)).size ≤ 3 := by rw [hfs]; exact partsF_len ⟨kd, hkd⟩
    have HL : Hid (leadsR x0 ws = leadsG (partsOf kd) (ws.drop 1)) := by show _ = _; unfold leadsR; rw [hk]
    have hpl2 : ws.length = (partsOf kd).length + 1 ∧ ∀ j p x, (partsOf kd)[j]? = some p → ws[j + 1]? = some x → partOk 1 p x = true := by
      rcases hpl with h | ⟨kd', h, h2⟩
      · rw [hk] at h; cases h
      · rw [hk] at h; injection h with h; subst h; exact h2
    generalize behS (some kd) = f at HBE hq hfs HFG hf3
    obtain ⟨ps, hps⟩ : ∃ ps, ps = partsOf kd := ⟨_, rfl⟩
    rw [← hps] at hfs HFG HPR HL hpl2
    have HFS : Hid (f.size = ps.length) := hfs
    have HPO : Hid (∀ j p x, ps[j]? = some p → ws[j + 1]? = some x → partOk 1 p x = true) := hpl2.2
    obtain ⟨N, hN⟩ : ∃ N, N = ws.length := ⟨_, rfl⟩
    have HN : Hid (N = ws.length) := hN
    have hNf : N = f.size + 1 := by rw [hN, hpl2.1, hfs]
    have HCL : Hid (∀ W j x, Below w.heap.size w W → ws[j]? = some x → W.cell? ⟨gw, ow + j, none⟩ = some (.string x)) := by
      intro W j x hb hx
      obtain ⟨ao, cp, h1, -, h2⟩ := hw.row.cell
      obtain ⟨g, off, h3, h4, h5⟩ := h2 hN1
      injection h1 with h1 _ _
      rw [← h1] at h3
      injection h3 with h3
      injection h3 with h3 h6 _
      subst h3 h6
      rw [hb.cell (p := ⟨gw, ow + j, none⟩) h4]
      exact h5 j _ (by simp [strs, hx])
    have HS : Hid (∀ x ∈ ws, x.size ≤ 4294967280) := hw.small
    rw [← hN] at ci hN1 hN2
    clear hfs hpl2 hps hpl hw hk hN
    obtain ⟨i0, hi, hz0, hz1, hz2⟩ := info_parts infoInt
    go_enter Tryz.func72, Tryz.ntmps72
    go_wp2_with (first | (go_at_call 73; refine (HBE.out _).mono ?_; rintro e w1 ⟨rfl, hw1⟩; rw [hw1]; clear hw1))
    go_loopg [5, 8] f.size (fun g v5 v8 wr => ∃ (k : Nat) (L : List Nat), k + g = f.size ∧ v8 = .int .i64 k ∧ Hid (OwnS wr w.heap.size 3 1 v5 L.length (nums L)) ∧ Hid (Below w.heap.size w wr) ∧ L.length ≤ k ∧ Hid (leadsG ps (ws.drop 1) = L ++ leadsG (ps.drop k) ((ws.drop 1).drop k)))
    case atStart => exact ⟨0, [], by omega, rfl, OwnS.nil _ _ _ _, Below.refl _ _, by simp, by show _ = _; simp⟩
    case round =>
      obtain ⟨k, L, hkg, rfl, hown, hbel, hLk, heq⟩ := hrel
      obtain ⟨ao, cp, rfl⟩ := hown.out.len
      by_cases hkf : k < f.size
      · obtain ⟨p, hp⟩ : ∃ p, ps[k]? = some p := ⟨_, List.getElem?_eq_getElem (by have := HFS.out; omega)⟩
        obtain ⟨x, hx⟩ : ∃ x, ws[k + 1]? = some x := ⟨_, List.getElem?_eq_getElem (by have := HN.out; omega)⟩
        have hxs : x.size ≤ 4294967280 := HS.out x (List.mem_of_getElem? hx)
        have cx : wr.cell? ⟨gw, ow + (k + 1), none⟩ = some (.string x) := HCL.out wr (k + 1) x hbel.out hx
        have hx' : (ws.drop 1)[k]? = some x := by rw [List.getElem?_drop, Nat.add_comm]; exact hx
        have hst := leadsG_step hp hx'
        have hpo := HPO.out k p x hp hx
        by_cases hp4 : p = 4
        · subst hp4
          have hfk : (f[k]).toNat = 98 := by rw [HFG.out k hkf _ hp]; rfl
          obtain ⟨b, hb⟩ : ∃ b, blkB x = some b := by
            have : (blkB x).isSome = true := by simpa [partOk] using hpo
            exact Option.isSome_iff_exists.1 this
          have HNX : Hid (leadsG ps (ws.drop 1) = (L ++ [b]) ++ leadsG (ps.drop (k + 1)) ((ws.drop 1).drop (k + 1))) := by
            show _ = _
            rw [heq.out, hst, if_pos rfl, hb]
            simp
          have hb9 : (b : Int) ≤ 1000000000 := by
            have h1 := numR_blk x
            rw [hb] at h1
            unfold numR at h1
            split at h1 <;> split at h1 <;> simp at h1 <;> omega
          have HBL : Hid (∀ W, Calls Tryz.prog 94 #[.string x, .int .i64 0, .int .i64 1000000000] W fun e w' => e = .returned (.tuple #[.int .i64 (b : Int), .bool true]) ∧ w' = W) := fun W => (rNumber_any W x _ _ hxs (by omega) (by omega) (by omega) (by omega)).mono (by
            rintro e w' ⟨n, h1, h3, h2⟩
            rw [numR_blk, hb] at h1 h3
            have := h3 _ rfl
            subst this
            exact ⟨h1, h2⟩)
          clear hst heq hpo
          go_wp2_with (first
            | (go_at_call 94; refine (HBL.out _).mono ?_; rintro e w1 ⟨rfl, hw1⟩; rw [hw1]; clear hw1)
            | (at_builtin; refine wpList_append_ownS _ rfl _ _ 64 rfl w.heap.size 3 i0 (.int .i64 0) 1 8 Tryz.underlying64 hi hz0 hz1 hz2 rfl (by decide) _ _ _ rfl (hown.out.alloc _) ⟨wr.heap.size, 0, none⟩ 1 1 [.int .i64 (b : Int)] rfl rfl (cell_newL _ [_] _ _ rfl) (one1 rfl) (by decide) (by unfold maxLen; omega) (by omega) (by have := hbel.out.size; simp; omega) ?_; intro g' off' cap' w3 hown3 hgrow3 hloc3 hlt3; have HO3 : Hid _ := hown3; have HB3 : Hid (Below w.heap.size w w3) := hbel.out.trans (grown_below hown.out hgrow3 hbel.out.size); clear hown3 hgrow3 hloc3))
          go_roundg (f.size - (k + 1))
          case measure => omega
          case rel => exact ⟨k + 1, L ++ [b], by omega, by go_num, (by show OwnS _ _ _ _ _ _ _; rw [nums_snoc, len_snocN]; exact HO3.out), HB3, by simp; omega, HNX⟩
        · have hfk : ¬ (f[k]).toNat = 98 := by
            rw [HFG.out k hkf _ hp]
            rcases HPR.out p (List.mem_of_getElem? hp) with rfl | rfl | rfl | rfl
            · decide
            · decide
            · decide
            · exact absurd rfl hp4
          have HNX : Hid (leadsG ps (ws.drop 1) = L ++ leadsG (ps.drop (k + 1)) ((ws.drop 1).drop (k + 1))) := by
            show _ = _
            rw [heq.out, hst, if_neg hp4]
            simp
          clear hst heq hpo
          go_wp2_with fail
          go_roundg (f.size - (k + 1))
          case measure => omega
          case rel => exact ⟨k + 1, L, by omega, by go_num, hown, hbel, by omega, HNX⟩
      · have HE : Hid (leadsR x0 ws = L) := by
          show _ = _
          have hd : ps.drop k = [] := List.drop_eq_nil_of_le (by have := HFS.out; omega)
          rw [HL.out, heq.out, hd, leadsG_nil]
          simp
        clear heq
        go_wp2_with fail
        go_ret
        rw [HE.out]
        exact ⟨⟨_, rfl, hown.out⟩, hbel.out⟩

set_option maxRecDepth 100000 in
set_option maxHeartbeats 4000000 in
theorem takesF_any (w : World) (tb gL offL M capL i : Nat) (ws : List BA) (vw : Value) (x0 : BA) (hiM : i < M) (hM : M ≤ 1000000) (hcM : M ≤ capL)
    (t0 : w.cell? ⟨tb, 0, none⟩ = some (.slice (some ⟨gL, offL, none⟩) M capL)) 
    (ci : w.cell? ⟨gL, offL + i, none⟩ = some vw) (hw : WordsIn w vw x0 ws) (hpl : kindOf x0 = none ∨ plainR 1 x0 ws) :
    Calls Tryz.prog 40 #[.pointer (some ⟨tb, 0, none⟩), .int .i64 (i : Int)] w fun e w' => (∃ v, e = .returned v ∧ OwnS w' w.heap.size 9 1 v (takesR x0 ws).length (strs (takesR x0 ws))) ∧ Below w.heap.size w w' := by
  obtain ⟨gw, ow, cw, rfl, hgw, c0⟩ := hw.at
  have HBE : Hid (∀ w1, Calls Tryz.prog 73 #[.string x0] w1 fun e w' => e = .returned (.string (behS (kindOf x0))) ∧ w' = w1) := fun w1 => behind_any w1 x0
  have hN1 := hw.pos
  have hN2 := hw.len
  cases hk : kindOf x0 with
  | none =>
    rw [hk] at HBE
    have HL : Hid (takesR x0 ws = []) := by show _ = _; unfold takesR; rw [hk]
    have hq : (ByteArray.toList (behS none) == [63]) = true := by rw [ByteArray.toList_eq]; decide
    have hfz : (behS none).size = 1 := by decide
    generalize behS none = f at HBE hq hfz
    go_enter Tryz.func40, Tryz.ntmps40
    go_wp2_with (first | (go_at_call 73; refine (HBE.out _).mono ?_; rintro e w1 ⟨rfl, hw1⟩; rw [hw1]; clear hw1))
    go_loopg [5, 8] 0 (fun g v5 v8 wr => v5 = .slice none 0 0 ∧ v8 = .int .i64 0 ∧ wr = w)
    case atStart => exact ⟨rfl, rfl, rfl⟩
    case round =>
      obtain ⟨rfl, rfl, rfl⟩ := hrel
      go_wp2_with fail
      go_ret
      rw [HL.out]
      exact ⟨⟨_, rfl, OwnS.nil _ _ _ _⟩, Below.refl _ _⟩
  | some kd =>
    rw [hk] at HBE
    have hkd := kindOf_lt hk
    have hq : (ByteArray.toList (behS (some kd)) == [63]) = false := behS_q ⟨kd, hkd⟩
    have hfs := behS_size hkd
    have HFG : Hid (∀ j (hj : j < (behS (some kd)).size) p, (partsOf kd)[j]? = some p → (behS (some kd))[j] = partB p) := fun j hj p hp => behS_get hkd hj hp
    have HPR : Hid (∀ p ∈ partsOf kd, p = 1 ∨ p = 2 ∨ p = 3 ∨ p = 4) := parts_range ⟨kd, hkd⟩
    have hf3 : (behS (some kd)).size ≤ 3 := by rw [hfs]; exact partsF_len ⟨kd, hkd⟩
    have HL : Hid (takesR x0 ws = takesG (partsOf kd) (ws.drop 1)) := by show _ = _; unfold takesR; rw [hk]
    have hpl2 : ws.length = (partsOf kd).length + 1 ∧ ∀ j p x, (partsOf kd)[j]? = some p → ws[j + 1]? = some x → partOk 1 p x = true := by
      rcases hpl with h | ⟨kd', h, h2⟩
      · rw [hk] at h; cases h
      · rw [hk] at h; injection h with h; subst h; exact h2
    generalize behS (some kd) = f at HBE hq hfs HFG hf3
    obtain ⟨ps, hps⟩ : ∃ ps, ps = partsOf kd := ⟨_, rfl⟩
    rw [← hps] at hfs HFG HPR HL hpl2
    have HFS : Hid (f.size = ps.length) := hfs
    have HPO : Hid (∀ j p x, ps[j]? = some p → ws[j + 1]? = some x → partOk 1 p x = true) := hpl2.2
    obtain ⟨N, hN⟩ : ∃ N, N = ws.length := ⟨_, rfl⟩
    have HN : Hid (N = ws.length) := hN
    have hNf : N = f.size + 1 := by rw [hN, hpl2.1, hfs]
    have HCL : Hid (∀ W j x, Below w.heap.size w W → ws[j]? = some x → W.cell? ⟨gw, ow + j, none⟩ = some (.string x)) := by
      intro W j x hb hx
      obtain ⟨ao, cp, h1, -, h2⟩ := hw.row.cell
      obtain ⟨g, off, h3, h4, h5⟩ := h2 hN1
      injection h1 with h1 _ _
      rw [← h1] at h3
      injection h3 with h3
      injection h3 with h3 h6 _
      subst h3 h6
      rw [hb.cell (p := ⟨gw, ow + j, none⟩) h4]
      exact h5 j _ (by simp [strs, hx])
    have HS : Hid (∀ x ∈ ws, x.size ≤ 4294967280) := hw.small
    rw [← hN] at ci hN1 hN2
    clear hfs hpl2 hps hpl hw hk hN
    obtain ⟨i0, hi, hz0, hz1, hz2⟩ := info_parts infoString
    go_enter Tryz.func40, Tryz.ntmps40
    go_wp2_with (first | (go_at_call 73; refine (HBE.out _).mono ?_; rintro e w1 ⟨rfl, hw1⟩; rw [hw1]; clear hw1))
    go_loopg [5, 8] f.size (fun g v5 v8 wr => ∃ (k : Nat) (L : List BA), k + g = f.size ∧ v8 = .int .i64 k ∧ Hid (OwnS wr w.heap.size 9 1 v5 L.length (strs L)) ∧ Hid (Below w.heap.size w wr) ∧ L.length ≤ k ∧ Hid (takesG ps (ws.drop 1) = L ++ takesG (ps.drop k) ((ws.drop 1).drop k)))
    case atStart => exact ⟨0, [], by omega, rfl, OwnS.nil _ _ _ _, Below.refl _ _, by simp, by show _ = _; simp⟩
    case round =>
      obtain ⟨k, L, hkg, rfl, hown, hbel, hLk, heq⟩ := hrel
      obtain ⟨ao, cp, rfl⟩ := hown.out.len
      by_cases hkf : k < f.size
      · obtain ⟨p, hp⟩ : ∃ p, ps[k]? = some p := ⟨_, List.getElem?_eq_getElem (by have := HFS.out; omega)⟩
        obtain ⟨x, hx⟩ : ∃ x, ws[k + 1]? = some x := ⟨_, List.getElem?_eq_getElem (by have := HN.out; omega)⟩
        have hxs : x.size ≤ 4294967280 := HS.out x (List.mem_of_getElem? hx)
        have cx : wr.cell? ⟨gw, ow + (k + 1), none⟩ = some (.string x) := HCL.out wr (k + 1) x hbel.out hx
        have hx' : (ws.drop 1)[k]? = some x := by rw [List.getElem?_drop, Nat.add_comm]; exact hx
        have hst := takesG_step hp hx'
        have hpo := HPO.out k p x hp hx
        by_cases hp4 : p = 2
        · subst hp4
          have hfk : (f[k]).toNat = 120 := by rw [HFG.out k hkf _ hp]; rfl
          have HNX : Hid (takesG ps (ws.drop 1) = (L ++ [x]) ++ takesG (ps.drop (k + 1)) ((ws.drop 1).drop (k + 1))) := by
            show _ = _
            rw [heq.out, hst, if_pos rfl]
            simp
          clear hst heq hpo
          go_wp2_with (first
            | (at_builtin; refine wpList_append_ownS _ rfl _ _ 62 rfl w.heap.size 9 i0 (.string ByteArray.empty) 1 16 Tryz.underlying62 hi hz0 hz1 hz2 rfl (by decide) _ _ _ rfl (hown.out.alloc _) ⟨wr.heap.size, 0, none⟩ 1 1 [.string x] rfl rfl (cell_newL _ [_] _ _ rfl) (one1 rfl) (by decide) (by unfold maxLen; omega) (by omega) (by have := hbel.out.size; simp; omega) ?_; intro g' off' cap' w3 hown3 hgrow3 hloc3 hlt3; have HO3 : Hid _ := hown3; have HB3 : Hid (Below w.heap.size w w3) := hbel.out.trans (grown_below hown.out hgrow3 hbel.out.size); clear hown3 hgrow3 hloc3))
          go_roundg (f.size - (k + 1))
          case measure => omega
          case rel => exact ⟨k + 1, L ++ [x], by omega, by go_num, (by show OwnS _ _ _ _ _ _ _; rw [strs_snoc, len_snoc]; exact HO3.out), HB3, by simp; omega, HNX⟩
        · have hfk : ¬ (f[k]).toNat = 120 := by
            rw [HFG.out k hkf _ hp]
            rcases HPR.out p (List.mem_of_getElem? hp) with rfl | rfl | rfl | rfl
            · decide
            · exact absurd rfl hp4
            · decide
            · decide
          have HNX : Hid (takesG ps (ws.drop 1) = L ++ takesG (ps.drop (k + 1)) ((ws.drop 1).drop (k + 1))) := by
            show _ = _
            rw [heq.out, hst, if_neg hp4]
            simp
          clear hst heq hpo
          go_wp2_with fail
          go_roundg (f.size - (k + 1))
          case measure => omega
          case rel => exact ⟨k + 1, L, by omega, by go_num, hown, hbel, by omega, HNX⟩
      · have HE : Hid (takesR x0 ws = L) := by
          show _ = _
          have hd : ps.drop k = [] := List.drop_eq_nil_of_le (by have := HFS.out; omega)
          rw [HL.out, heq.out, hd, takesG_nil]
          simp
        clear heq
        go_wp2_with fail
        go_ret
        rw [HE.out]
        exact ⟨⟨_, rfl, hown.out⟩, hbel.out⟩

set_option maxRecDepth 100000 in
set_option maxHeartbeats 4000000 in
theorem setsF_any (w : World) (tb gL offL M capL i : Nat) (ws : List BA) (vw : Value) (x0 : BA) (hiM : i < M) (hM : M ≤ 1000000) (hcM : M ≤ capL)
    (t0 : w.cell? ⟨tb, 0, none⟩ = some (.slice (some ⟨gL, offL, none⟩) M capL)) (t2 : w.cell? ⟨tb, 2, none⟩ = some (.bool true))
    (ci : w.cell? ⟨gL, offL + i, none⟩ = some vw) (hw : WordsIn w vw x0 ws) (hpl : PlainFR x0 ws) :
    Calls Tryz.prog 38 #[.pointer (some ⟨tb, 0, none⟩), .int .i64 (i : Int)] w fun e w' => e = .returned (.string (setsFR x0 ws)) ∧ ∃ n, w' = w.drewN n := by
  obtain ⟨gw, ow, cw, rfl, hgw, c0⟩ := hw.at
  have HBE : Hid (∀ w1, Calls Tryz.prog 73 #[.string x0] w1 fun e w' => e = .returned (.string (behS (kindOf x0))) ∧ w' = w1) := fun w1 => behind_any w1 x0
  have hN1 := hw.pos
  have hN2 := hw.len
  cases hk : kindOf x0 with
  | none =>
    rw [hk] at HBE
    have hq : (ByteArray.toList (behS none) == [63]) = true := by rw [ByteArray.toList_eq]; decide
    have hfz : (behS none).size = 1 := by decide
    have hf0 : ∀ h : 0 < (behS none).size, ((behS none)[0]).toNat = 63 := by decide
    have hfp : 0 < (behS none).size := by decide
    generalize behS none = f at HBE hq hfz hf0 hfp
    have hf1 := hf0 hfp
    clear hf0
    by_cases hph : isPhi x0 = true
    · have hpb : phiB ws = true := by
        rcases hpl with h | ⟨kd', h, h2⟩
        · exact h.2 hph
        · rw [hk] at h; cases h
      have hN3 : 2 ≤ ws.length := by
        unfold phiB at hpb
        simp at hpb
        exact hpb.1.1
      obtain ⟨x, hx⟩ : ∃ x, ws[1]? = some x := ⟨_, List.getElem?_eq_getElem (by omega)⟩
      have cx : w.cell? ⟨gw, ow + 1, none⟩ = some (.string x) := by
        obtain ⟨ao, cp, h1, -, h2⟩ := hw.row.cell
        obtain ⟨g, off, h3, h4, h5⟩ := h2 hN1
        injection h1 with h1 _ _
        rw [← h1] at h3
        injection h3 with h3
        injection h3 with h3 h6 _
        subst h3 h6
        exact h5 1 _ (by simp [strs, hx])
      have HE : Hid (setsFR x0 ws = x) := by
        show _ = _
        unfold setsFR
        rw [if_pos hph, List.getD_eq_getElem?_getD, hx]
        rfl
      have hph' : (ByteArray.toList x0 == [112, 104, 105]) = true := hph
      obtain ⟨N, hN⟩ : ∃ N, N = ws.length := ⟨_, rfl⟩
      rw [← hN] at ci hN1 hN2 hN3
      clear hpl hw hk hN hph hpb
      go_enter Tryz.func38, Tryz.ntmps38
      go_wp2_with (first | (go_at_call 73; refine (HBE.out _).mono ?_; rintro e w1 ⟨rfl, hw1⟩; rw [hw1]; clear hw1))
      all_goals go_ret
      all_goals (rw [HE.out]; exact ⟨rfl, 0, rfl⟩)
    · have HL : Hid (setsFR x0 ws = ByteArray.empty) := by show _ = _; unfold setsFR setsR; rw [if_neg hph, hk]
      have hph' : (ByteArray.toList x0 == [112, 104, 105]) = false := by simpa [isPhi] using hph
      go_enter Tryz.func38, Tryz.ntmps38
      go_wp2_with (first | (go_at_call 73; refine (HBE.out _).mono ?_; rintro e w1 ⟨rfl, hw1⟩; rw [hw1]; clear hw1))
      all_goals go_ret
      all_goals (rw [HL.out]; exact ⟨rfl, 0, rfl⟩)
  | some kd =>
    rw [hk] at HBE
    have hkd := kindOf_lt hk
    have hq : (ByteArray.toList (behS (some kd)) == [63]) = false := behS_q ⟨kd, hkd⟩
    have hfs := behS_size hkd
    have hfp : 0 < (behS (some kd)).size := by rw [hfs]; exact parts_pos ⟨kd, hkd⟩
    have HFG : Hid (∀ j (hj : j < (behS (some kd)).size) p, (partsOf kd)[j]? = some p → (behS (some kd))[j] = partB p) := fun j hj p hp => behS_get hkd hj hp
    have HPR : Hid (∀ p ∈ partsOf kd, p = 1 ∨ p = 2 ∨ p = 3 ∨ p = 4) := parts_range ⟨kd, hkd⟩
    have hlen : ws.length = (partsOf kd).length + 1 := by
      rcases hpl with ⟨h, -⟩ | ⟨kd', h, h2⟩
      · rw [hk] at h; cases h
      · rw [hk] at h; injection h with h; subst h; exact h2.1
    have hph : isPhi x0 = false := by
      cases h : isPhi x0 with
      | false => rfl
      | true => rw [kind_phi h] at hk; cases hk
    have hph' : (ByteArray.toList x0 == [112, 104, 105]) = false := hph
    have HL : Hid (setsFR x0 ws = if (partsOf kd)[0]? = some 1 then ws.getD 1 ByteArray.empty else ByteArray.empty) := by show _ = _; unfold setsFR setsR; rw [if_neg (by rw [hph]; decide), hk]
    generalize behS (some kd) = f at HBE hq hfs HFG hfp
    obtain ⟨ps, hps⟩ : ∃ ps, ps = partsOf kd := ⟨_, rfl⟩
    rw [← hps] at hfs HFG HPR HL hlen
    obtain ⟨p, hp⟩ : ∃ p, ps[0]? = some p := ⟨_, List.getElem?_eq_getElem (by omega)⟩
    obtain ⟨x, hx⟩ : ∃ x, ws[1]? = some x := ⟨_, List.getElem?_eq_getElem (by omega)⟩
    have cx : w.cell? ⟨gw, ow + 1, none⟩ = some (.string x) := by
      obtain ⟨ao, cp, h1, -, h2⟩ := hw.row.cell
      obtain ⟨g, off, h3, h4, h5⟩ := h2 hN1
      injection h1 with h1 _ _
      rw [← h1] at h3
      injection h3 with h3
      injection h3 with h3 h6 _
      subst h3 h6
      exact h5 1 _ (by simp [strs, hx])
    have hN3 : 2 ≤ ws.length := by omega
    obtain ⟨N, hN⟩ : ∃ N, N = ws.length := ⟨_, rfl⟩
    rw [← hN] at ci hN1 hN2 hN3
    have hf0 := HFG.out 0 hfp p hp
    clear hfs hlen hps hpl hw hk hN HFG hph
    by_cases hp1 : p = 1
    · subst hp1
      have HE : Hid (setsFR x0 ws = x) := by
        show _ = _
        rw [HL.out, if_pos hp, List.getD_eq_getElem?_getD, hx]
        rfl
      have hf1 : (f[0]).toNat = 115 := by rw [hf0]; rfl
      clear hf0 HL
      go_enter Tryz.func38, Tryz.ntmps38
      go_wp2_with (first | (go_at_call 73; refine (HBE.out _).mono ?_; rintro e w1 ⟨rfl, hw1⟩; rw [hw1]; clear hw1))
      all_goals go_ret
      all_goals (rw [HE.out]; exact ⟨rfl, 0, rfl⟩)
    · have HE : Hid (setsFR x0 ws = ByteArray.empty) := by
        show _ = _
        rw [HL.out, if_neg (fun h => by rw [hp] at h; injection h with h; exact hp1 h)]
      have hf1 : ¬ (f[0]).toNat = 115 := by
        rw [hf0]
        rcases HPR.out p (List.mem_of_getElem? hp) with rfl | rfl | rfl | rfl
        · exact absurd rfl hp1
        · decide
        · decide
        · decide
      clear hf0 HL
      go_enter Tryz.func38, Tryz.ntmps38
      go_wp2_with (first | (go_at_call 73; refine (HBE.out _).mono ?_; rintro e w1 ⟨rfl, hw1⟩; rw [hw1]; clear hw1))
      all_goals go_ret
      all_goals (rw [HE.out]; exact ⟨rfl, 0, rfl⟩)

end Go.Proofs.YtbddcodljmglfaaGreatDoor

namespace Go.Proofs.YtbddcodljmglfaaGreatDoor
open Go.RowKit

set_option maxRecDepth 100000 in
set_option maxHeartbeats 4000000 in
/-- A form of too many lines. -/
theorem rreadF_long (w : World) (s : BA) (hs : s.size ≤ 4294967280) (hl : 1000 < (cuts 10 s).length) :
    Calls Tryz.prog 37 #[.string s, .bool true] w fun e w' => e = .returned (.tuple #[.pointer none, .int .i64 6, .int .i64 0]) ∧ Below w.heap.size w w' := by
  have HSP : Hid (Calls Tryz.prog 69 #[.string s, .int .u8 10] w fun e w' => (∃ v, e = .returned v ∧ OwnS w' w.heap.size 9 1 v (cuts 10 s).length (strs (cuts 10 s))) ∧ Below w.heap.size w w') := rSplit_any w s 10 hs
  generalize cuts 10 s = T at *
  obtain ⟨N, hN⟩ : ∃ N, N = T.length := ⟨_, rfl⟩
  have HN : Hid (N = T.length) := hN
  rw [← hN] at HSP hl
  have hl' : (1000 : Int) < (N : Int) := by omega
  clear hN
  go_enter Tryz.func37, Tryz.ntmps37
  go_wp2_with (first | (go_at_call 69; refine HSP.out.mono ?_; rintro e w1 ⟨⟨v, rfl, hv⟩, hb⟩; obtain ⟨ao, cp, rfl⟩ := hv.len; have HB1 : Hid (Below w.heap.size w w1) := hb; clear hb hv))
  go_ret3
  exact ⟨rfl, HB1.out⟩

/-- A form as far as it is read. -/
structure TextF (base : Nat) (W : World) (tb : Nat) (L : List BA) (bl : List Nat) (lv bv : Value) (vals : List Value) : Prop where
  box : BoxIn W tb 66 [lv, bv, .bool true]
  rows : OwnS W base 62 1 lv L.length vals
  vlen : vals.length = L.length
  words : ∀ (j : Nat) (s : BA) (v : Value), L[j]? = some s → vals[j]? = some v → WordsIn W v (hd (cuts 32 s)) (cuts 32 s)
  blocks : OwnS W base 3 1 bv bl.length (nums bl)
  lo : base ≤ tb
theorem TextF.below {base : Nat} {W W' : World} {tb : Nat} {L : List BA} {bl : List Nat} {lv bv : Value} {vals : List Value} (h : TextF base W tb L bl lv bv vals) (hb : Below W.heap.size W W') : TextF base W' tb L bl lv bv vals :=
  ⟨h.box.below hb, own_below h.rows hb, h.vlen, fun j s v hs hv => (h.words j s v hs hv).below hb, own_below h.blocks hb, h.lo⟩


/-- A line of a form that may stand. -/
def PlainF (s : BA) : Prop := PlainFR (hd (cuts 32 s)) (cuts 32 s)
theorem standsF_iff (i nb : Nat) (last s : BA) : standsFB i nb last (cuts 32 s) = true ↔ standsF i nb (hd (cuts 32 s)) last (cuts 32 s) := by
  obtain ⟨bs, h⟩ := hd_cuts s
  generalize hd (cuts 32 s) = x at *
  rw [h]
  exact standsFB_iff i nb x last bs
theorem standsF_plain {i nb : Nat} {last s : BA} (h : standsFB i nb last (cuts 32 s) = true) : PlainF s := by
  rw [standsF_iff] at h
  unfold standsF at h
  unfold PlainF PlainFR
  split at h
  · left
    refine ⟨?_, fun hp => ?_⟩
    · unfold kindOf
      rw [h.1]
      decide
    · unfold isPhi at hp
      rw [h.1] at hp
      exact absurd hp (by decide)
  · split at h
    · rename_i hb
      left
      refine ⟨?_, fun hp => ?_⟩
      · unfold kindOf
        rw [hb]
        decide
      · unfold isPhi at hp
        rw [hb] at hp
        exact absurd hp (by decide)
    · obtain ⟨-, h⟩ := h
      split at h
      · rename_i hp
        exact .inl ⟨kind_phi (by simpa [isPhi] using hp), fun _ => h.1⟩
      · exact .inr h
theorem docLF_cons (i nb : Nat) (last s : BA) (r : List BA) : docLF i nb last (s :: r) = if standsFB i nb last (cuts 32 s) = true then docLF (i + 1) (if isBlock (hd (cuts 32 s)) = true then nb + 1 else nb) (hd (cuts 32 s)) r else .error i := rfl

section
variable {base : Nat} {W w3 : World} {tb : Nat} {L : List BA} {bl : List Nat} {lv bv : Value} {vals : List Value}
/-- A line is put in. -/
theorem TextF.addLine (h : TextF base W tb L bl lv bv vals) {o : Obj} {g off cap : Nat} {wv : Value} {s : BA}
    (hown : OwnS w3 base 62 1 (.slice (some ⟨g, off, none⟩) (L.length + 1) cap) (L.length + 1) (vals ++ [wv])) (hg : (W.alloc o).grownBy w3 lv.ownBlock) (hw : WordsIn W wv (hd (cuts 32 s)) (cuts 32 s)) :
    TextF base (w3.setCell ⟨tb, 0, none⟩ (.slice (some ⟨g, off, none⟩) (L.length + 1) cap)) tb (L ++ [s]) bl (.slice (some ⟨g, off, none⟩) (L.length + 1) cap) bv (vals ++ [wv]) := by
  have box' : w3.heap[tb]? = some (.cells [lv, bv, .bool true].toArray 66 (0, 0)) := grown_box h.rows hg h.box (by decide)
  have kp : Keeps 9 W (w3.setCell ⟨tb, 0, none⟩ (.slice (some ⟨g, off, none⟩) (L.length + 1) cap)) := (grown_keeps h.rows hg (by decide)).setCell box' (by decide) _
  refine ⟨?_, ?_, ?_, ?_, ?_, h.lo⟩
  · show (w3.setCell _ _).heap[tb]? = _
    rw [set_block box']
    simp
  · rw [List.length_append]
    exact hown.set_other box' (by decide) _
  · simp [h.vlen]
  · intro j x v hx hv
    by_cases hj : j < L.length
    · rw [List.getElem?_append_left hj] at hx
      rw [List.getElem?_append_left (by rw [h.vlen]; exact hj)] at hv
      exact (h.words j x v hx hv).keep kp
    · rw [List.getElem?_append_right (by omega)] at hx
      rw [List.getElem?_append_right (by rw [h.vlen]; omega)] at hv
      rw [h.vlen] at hv
      cases hd : j - L.length with
      | zero =>
        rw [hd] at hx hv
        simp at hx hv
        subst hx hv
        exact hw.keep kp
      | succ m => rw [hd] at hx; simp at hx
  · exact (grown_own h.rows hg h.blocks (by decide)).set_other box' (by decide) _

/-- A block begins. -/
theorem TextF.addBlock (h : TextF base W tb L bl lv bv vals) {o : Obj} {g off cap i : Nat}
    (hown : OwnS w3 base 3 1 (.slice (some ⟨g, off, none⟩) (bl.length + 1) cap) (bl.length + 1) (nums bl ++ [.int .i64 (i : Int)])) (hg : (W.alloc o).grownBy w3 bv.ownBlock) :
    TextF base (w3.setCell ⟨tb, 1, none⟩ (.slice (some ⟨g, off, none⟩) (bl.length + 1) cap)) tb L (bl ++ [i]) lv (.slice (some ⟨g, off, none⟩) (bl.length + 1) cap) vals := by
  have box' : w3.heap[tb]? = some (.cells [lv, bv, .bool true].toArray 66 (0, 0)) := grown_box h.blocks hg h.box (by decide)
  have kp : Keeps 9 W (w3.setCell ⟨tb, 1, none⟩ (.slice (some ⟨g, off, none⟩) (bl.length + 1) cap)) := (grown_keeps h.blocks hg (by decide)).setCell box' (by decide) _
  refine ⟨?_, ?_, h.vlen, fun j x v hx hv => (h.words j x v hx hv).keep kp, ?_, h.lo⟩
  · show (w3.setCell _ _).heap[tb]? = _
    rw [set_block box']
    simp
  · exact (grown_own h.blocks hg h.rows (by decide)).set_other box' (by decide) _
  · rw [List.length_append, nums_snoc]
    exact hown.set_other box' (by decide) _

/-- Line j's words, where the text has them. -/
theorem TextF.at (h : TextF base W tb L bl lv bv vals) {j : Nat} (hj : j < L.length) : ∃ g off cap v, lv = .slice (some ⟨g, off, none⟩) L.length cap ∧ L.length ≤ cap ∧ g < W.heap.size ∧ W.cell? ⟨g, off + j, none⟩ = some v ∧ WordsIn W v (hd (cuts 32 L[j])) (cuts 32 L[j]) := by
  obtain ⟨v, hv⟩ : ∃ v, vals[j]? = some v := ⟨_, List.getElem?_eq_getElem (by rw [h.vlen]; exact hj)⟩
  obtain ⟨ao, cp, rfl, hcp, hc⟩ := h.rows.rdT.cell
  obtain ⟨g, off, rfl, hg, hx⟩ := hc (by omega)
  exact ⟨g, off, cp, v, rfl, hcp, hg, hx j v hv, h.words j _ v (List.getElem?_eq_getElem hj) hv⟩
theorem TextF.line {g off n cap : Nat} (h : TextF base W tb L bl (.slice (some ⟨g, off, none⟩) n cap) bv vals) {j : Nat} {x : BA} (hx : L[j]? = some x) : ∃ v, W.cell? ⟨g, off + j, none⟩ = some v ∧ WordsIn W v (hd (cuts 32 x)) (cuts 32 x) ∧ n ≤ cap := by
  obtain ⟨hj, hxe⟩ := List.getElem?_eq_some_iff.1 hx
  obtain ⟨g', off', cap', v, h1, h2, h3, h4, h5⟩ := h.at hj
  injection h1 with h1 h6 h7
  injection h1 with h1
  injection h1 with h1 h8 _
  subst h1 h8 h6 h7
  rw [hxe] at h5
  exact ⟨v, h4, h5, h2⟩
end
/-- What read hands back. -/
def RdOutF (base : Nat) (T : List BA) (e : Ending) (w' : World) : Prop :=
  (∀ i, docLF 0 0 ByteArray.empty T = .error i → e = .returned (.tuple #[.pointer none, .int .i64 7, .int .i64 (i : Int)])) ∧
  (∀ nb, docLF 0 0 ByteArray.empty T = .ok nb → (∀ i, docLost nb 0 T = some i → e = .returned (.tuple #[.pointer none, .int .i64 8, .int .i64 (i : Int)])) ∧
    (docLost nb 0 T = none → ∃ tb bl lv bv vals, e = .returned (.tuple #[.pointer (some ⟨tb, 0, none⟩), .int .i64 0, .int .i64 0]) ∧ TextF base w' tb T bl lv bv vals ∧ bl = blkIdx 0 T ∧ ∀ x ∈ T, PlainF x))
theorem RdOutF.err {base : Nat} {T : List BA} {e : Ending} {w' : World} {i : Nat} (h : docLF 0 0 ByteArray.empty T = .error i) (he : e = .returned (.tuple #[.pointer none, .int .i64 7, .int .i64 (i : Int)])) : RdOutF base T e w' :=
  ⟨fun j hj => (by rw [h] at hj; injection hj with hj; subst hj; exact he), fun nb hn => (by rw [h] at hn; cases hn)⟩
theorem RdOutF.lost {base : Nat} {T : List BA} {e : Ending} {w' : World} {i nb : Nat} (h : docLF 0 0 ByteArray.empty T = .ok nb) (hl : docLost nb 0 T = some i) (he : e = .returned (.tuple #[.pointer none, .int .i64 8, .int .i64 (i : Int)])) : RdOutF base T e w' :=
  ⟨fun j hj => (by rw [h] at hj; cases hj), fun nb' hn => by
    rw [h] at hn; injection hn with hn; subst hn
    exact ⟨fun j hj => (by rw [hl] at hj; injection hj with hj; subst hj; exact he), fun hn => (by rw [hl] at hn; cases hn)⟩⟩
theorem RdOutF.ok {base : Nat} {T : List BA} {e : Ending} {w' : World} {nb : Nat} (h : docLF 0 0 ByteArray.empty T = .ok nb) (hl : docLost nb 0 T = none) {tb : Nat} {bl : List Nat} {lv bv : Value} {vals : List Value} (he : e = .returned (.tuple #[.pointer (some ⟨tb, 0, none⟩), .int .i64 0, .int .i64 0])) (hT : TextF base w' tb T bl lv bv vals) (hbl : bl = blkIdx 0 T) (hp : ∀ x ∈ T, PlainF x) : RdOutF base T e w' :=
  ⟨fun j hj => (by rw [h] at hj; cases hj), fun nb' hn => by
    rw [h] at hn; injection hn with hn; subst hn
    exact ⟨fun j hj => (by rw [hl] at hj; cases hj), fun _ => ⟨tb, bl, lv, bv, vals, he, hT, hbl, hp⟩⟩⟩

end Go.Proofs.YtbddcodljmglfaaGreatDoor
