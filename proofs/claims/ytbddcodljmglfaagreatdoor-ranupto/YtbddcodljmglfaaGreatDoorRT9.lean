/- The document's leads. -/
import Derived.Test.YtbddcodljmglfaaGreatDoorRT8
set_option linter.unusedSimpArgs false
set_option linter.unusedVariables false
namespace Go.Proofs.YtbddcodljmglfaaGreatDoor
open Go.RowKit

/-- Where a line leads, by its words. -/
def leadsG : List Nat → List BA → List Nat
  | p :: ps, b :: bs => if p = 4 then (blkB b).getD 0 :: leadsG ps bs else leadsG ps bs
  | _, _ => []
theorem leadsG_nil (bs : List BA) : leadsG [] bs = [] := by simp [leadsG]
def leadsR (x0 : BA) (ws : List BA) : List Nat := match kindOf x0 with | some kd => leadsG (partsOf kd) (ws.drop 1) | none => []

theorem leadsG_step {ps : List Nat} {bs : List BA} {k p : Nat} {b : BA} (hp : ps[k]? = some p) (hb : bs[k]? = some b) : leadsG (ps.drop k) (bs.drop k) = (if p = 4 then [(blkB b).getD 0] else []) ++ leadsG (ps.drop (k + 1)) (bs.drop (k + 1)) := by
  obtain ⟨h1, h2⟩ := List.getElem?_eq_some_iff.1 hp
  obtain ⟨h3, h4⟩ := List.getElem?_eq_some_iff.1 hb
  rw [List.drop_eq_getElem_cons h1, List.drop_eq_getElem_cons h3, h2, h4]
  by_cases h : p = 4
  · simp [leadsG, h]
  · simp [leadsG, h]
theorem nums_snoc (L : List Nat) (n : Nat) : nums (L ++ [n]) = nums L ++ [.int .i64 (n : Int)] := by simp [nums]
theorem len_snocN (L : List Nat) (n : Nat) : (L ++ [n]).length = L.length + 1 := by simp

set_option maxRecDepth 100000 in
set_option maxHeartbeats 4000000 in
theorem leads_any (w : World) (tb gL offL M capL i : Nat) (ws : List BA) (vw : Value) (x0 : BA) (hiM : i < M) (hM : M ≤ 1000000) (hcM : M ≤ capL)
    (t0 : w.cell? ⟨tb, 0, none⟩ = some (.slice (some ⟨gL, offL, none⟩) M capL)) 
    (ci : w.cell? ⟨gL, offL + i, none⟩ = some vw) (hw : WordsIn w vw x0 ws) (hpl : kindOf x0 = none ∨ plainR 0 x0 ws) :
    Calls Tryz.prog 72 #[.pointer (some ⟨tb, 0, none⟩), .int .i64 (i : Int)] w fun e w' => (∃ v, e = .returned v ∧ OwnS w' w.heap.size 3 1 v (leadsR x0 ws).length (nums (leadsR x0 ws))) ∧ Below w.heap.size w w' := by
  obtain ⟨gw, ow, cw, rfl, hgw, c0⟩ := hw.at
  have HBE : Hid (∀ w1, Calls Tryz.prog 73 #[.string x0] w1 fun e w' => e = .returned (.string (behS (kindOf x0))) ∧ w' = w1) := fun w1 => behind_any w1 x0
  have hN1 := hw.pos
  have hN2 := hw.len
  cases hk : kindOf x0 with
  | none =>
    rw [hk] at HBE
    have HL : Hid (leadsR x0 ws = []) := by show _ = _; unfold leadsR; rw [hk]
    have hq : (ByteArray.toList (behS none) == [63]) = true := by rw [ByteArray.toList_eq]; decide
    have hfz : (behS none).size = 1 := by decide
    generalize behS none = f at HBE hq hfz
    go_enter Tryz.func72, Tryz.ntmps72
    go_wp2_with (first | (go_at_call 73; refine (HBE.out _).mono ?_; rintro e w1 ⟨rfl, hw1⟩; rw [hw1]; clear hw1))
    go_loopg [5, 8] 0 (fun g v5 v8 wr => v5 = .slice none 0 0 ∧ v8 = .int .i64 0 ∧ wr = w)
    case atStart => exact ⟨rfl, rfl, rfl⟩
    case round =>
      obtain ⟨rfl, rfl, rfl⟩ := hrel
      go_wp2_with fail
      go_ret
      rw [HL.out]
      exact ⟨⟨_, rfl, OwnS.nil _ _ _ _⟩, Below.refl _ _⟩
  | some kd =>
    rw [hk] at HBE
    have hkd := kindOf_lt hk
    have hq : (ByteArray.toList (behS (some kd)) == [63]) = false := behS_q ⟨kd, hkd⟩
    have hfs := behS_size hkd
    have HFG : Hid (∀ j (hj : j < (behS (some kd)).size) p, (partsOf kd)[j]? = some p → (behS (some kd))[j] = partB p) := fun j hj p hp => behS_get hkd hj hp
    have HPR : Hid (∀ p ∈ partsOf kd, p = 1 ∨ p = 2 ∨ p = 3 ∨ p = 4) := parts_range ⟨kd, hkd⟩
    have hf3 : (behS (some kd)).size ≤ 3 := by rw [hfs]; exact partsF_len ⟨kd, hkd⟩
    have HL : Hid (leadsR x0 ws = leadsG (partsOf kd) (ws.drop 1)) := by show _ = _; unfold leadsR; rw [hk]
    have hpl2 : ws.length = (partsOf kd).length + 1 ∧ ∀ j p x, (partsOf kd)[j]? = some p → ws[j + 1]? = some x → partOk 0 p x = true := by
      rcases hpl with h | ⟨kd', h, h2⟩
      · rw [hk] at h; cases h
      · rw [hk] at h; injection h with h; subst h; exact h2
    generalize behS (some kd) = f at HBE hq hfs HFG hf3
    obtain ⟨ps, hps⟩ : ∃ ps, ps = partsOf kd := ⟨_, rfl⟩
    rw [← hps] at hfs HFG HPR HL hpl2
    have HFS : Hid (f.size = ps.length) := hfs
    have HPO : Hid (∀ j p x, ps[j]? = some p → ws[j + 1]? = some x → partOk 0 p x = true) := hpl2.2
    obtain ⟨N, hN⟩ : ∃ N, N = ws.length := ⟨_, rfl⟩
    have HN : Hid (N = ws.length) := hN
    have hNf : N = f.size + 1 := by rw [hN, hpl2.1, hfs]
    have HCL : Hid (∀ W j x, Below w.heap.size w W → ws[j]? = some x → W.cell? ⟨gw, ow + j, none⟩ = some (.string x)) := by
      intro W j x hb hx
      obtain ⟨ao, cp, h1, -, h2⟩ := hw.row.cell
      obtain ⟨g, off, h3, h4, h5⟩ := h2 hN1
      injection h1 with h1 _ _
      rw [← h1] at h3
      injection h3 with h3
      injection h3 with h3 h6 _
      subst h3 h6
      rw [hb.cell (p := ⟨gw, ow + j, none⟩) h4]
      exact h5 j _ (by simp [strs, hx])
    have HS : Hid (∀ x ∈ ws, x.size ≤ 4294967280) := hw.small
    rw [← hN] at ci hN1 hN2
    clear hfs hpl2 hps hpl hw hk hN
    obtain ⟨i0, hi, hz0, hz1, hz2⟩ := info_parts infoInt
    go_enter Tryz.func72, Tryz.ntmps72
    go_wp2_with (first | (go_at_call 73; refine (HBE.out _).mono ?_; rintro e w1 ⟨rfl, hw1⟩; rw [hw1]; clear hw1))
    go_loopg [5, 8] f.size (fun g v5 v8 wr => ∃ (k : Nat) (L : List Nat), k + g = f.size ∧ v8 = .int .i64 k ∧ Hid (OwnS wr w.heap.size 3 1 v5 L.length (nums L)) ∧ Hid (Below w.heap.size w wr) ∧ L.length ≤ k ∧ Hid (leadsG ps (ws.drop 1) = L ++ leadsG (ps.drop k) ((ws.drop 1).drop k)))
    case atStart => exact ⟨0, [], by omega, rfl, OwnS.nil _ _ _ _, Below.refl _ _, by simp, by show _ = _; simp⟩
    case round =>
      obtain ⟨k, L, hkg, rfl, hown, hbel, hLk, heq⟩ := hrel
      obtain ⟨ao, cp, rfl⟩ := hown.out.len
      by_cases hkf : k < f.size
      · obtain ⟨p, hp⟩ : ∃ p, ps[k]? = some p := ⟨_, List.getElem?_eq_getElem (by have := HFS.out; omega)⟩
        obtain ⟨x, hx⟩ : ∃ x, ws[k + 1]? = some x := ⟨_, List.getElem?_eq_getElem (by have := HN.out; omega)⟩
        have hxs : x.size ≤ 4294967280 := HS.out x (List.mem_of_getElem? hx)
        have cx : wr.cell? ⟨gw, ow + (k + 1), none⟩ = some (.string x) := HCL.out wr (k + 1) x hbel.out hx
        have hx' : (ws.drop 1)[k]? = some x := by rw [List.getElem?_drop, Nat.add_comm]; exact hx
        have hst := leadsG_step hp hx'
        have hpo := HPO.out k p x hp hx
        by_cases hp4 : p = 4
        · subst hp4
          have hfk : (f[k]).toNat = 98 := by rw [HFG.out k hkf _ hp]; rfl
          obtain ⟨b, hb⟩ : ∃ b, blkB x = some b := by
            have : (blkB x).isSome = true := by simpa [partOk] using hpo
            exact Option.isSome_iff_exists.1 this
          have HNX : Hid (leadsG ps (ws.drop 1) = (L ++ [b]) ++ leadsG (ps.drop (k + 1)) ((ws.drop 1).drop (k + 1))) := by
            show _ = _
            rw [heq.out, hst, if_pos rfl, hb]
            simp
          have hb9 : (b : Int) ≤ 1000000000 := by
            have h1 := numR_blk x
            rw [hb] at h1
            unfold numR at h1
            split at h1 <;> split at h1 <;> simp at h1 <;> omega
          have HBL : Hid (∀ W, Calls Tryz.prog 94 #[.string x, .int .i64 0, .int .i64 1000000000] W fun e w' => e = .returned (.tuple #[.int .i64 (b : Int), .bool true]) ∧ w' = W) := fun W => (rNumber_any W x _ _ hxs (by omega) (by omega) (by omega) (by omega)).mono (by
            rintro e w' ⟨n, h1, h3, h2⟩
            rw [numR_blk, hb] at h1 h3
            have := h3 _ rfl
            subst this
            exact ⟨h1, h2⟩)
          clear hst heq hpo
          go_wp2_with (first
            | (go_at_call 94; refine (HBL.out _).mono ?_; rintro e w1 ⟨rfl, hw1⟩; rw [hw1]; clear hw1)
            | (at_builtin; refine wpList_append_ownS _ rfl _ _ 64 rfl w.heap.size 3 i0 (.int .i64 0) 1 8 Tryz.underlying64 hi hz0 hz1 hz2 rfl (by decide) _ _ _ rfl (hown.out.alloc _) ⟨wr.heap.size, 0, none⟩ 1 1 [.int .i64 (b : Int)] rfl rfl (cell_newL _ [_] _ _ rfl) (one1 rfl) (by decide) (by unfold maxLen; omega) (by omega) (by have := hbel.out.size; simp; omega) ?_; intro g' off' cap' w3 hown3 hgrow3 hloc3 hlt3; have HO3 : Hid _ := hown3; have HB3 : Hid (Below w.heap.size w w3) := hbel.out.trans (grown_below hown.out hgrow3 hbel.out.size); clear hown3 hgrow3 hloc3))
          go_roundg (f.size - (k + 1))
          case measure => omega
          case rel => exact ⟨k + 1, L ++ [b], by omega, by go_num, (by show OwnS _ _ _ _ _ _ _; rw [nums_snoc, len_snocN]; exact HO3.out), HB3, by simp; omega, HNX⟩
        · have hfk : ¬ (f[k]).toNat = 98 := by
            rw [HFG.out k hkf _ hp]
            rcases HPR.out p (List.mem_of_getElem? hp) with rfl | rfl | rfl | rfl
            · decide
            · decide
            · decide
            · exact absurd rfl hp4
          have HNX : Hid (leadsG ps (ws.drop 1) = L ++ leadsG (ps.drop (k + 1)) ((ws.drop 1).drop (k + 1))) := by
            show _ = _
            rw [heq.out, hst, if_neg hp4]
            simp
          clear hst heq hpo
          go_wp2_with fail
          go_roundg (f.size - (k + 1))
          case measure => omega
          case rel => exact ⟨k + 1, L, by omega, by go_num, hown, hbel, by omega, HNX⟩
      · have HE : Hid (leadsR x0 ws = L) := by
          show _ = _
          have hd : ps.drop k = [] := List.drop_eq_nil_of_le (by have := HFS.out; omega)
          rw [HL.out, heq.out, hd, leadsG_nil]
          simp
        clear heq
        go_wp2_with fail
        go_ret
        rw [HE.out]
        exact ⟨⟨_, rfl, hown.out⟩, hbel.out⟩

end Go.Proofs.YtbddcodljmglfaaGreatDoor
