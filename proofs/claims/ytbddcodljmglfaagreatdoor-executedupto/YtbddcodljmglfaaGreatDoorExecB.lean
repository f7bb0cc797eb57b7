/- The document's put: what it leaves as it was. And what follows on it. -/
import Derived.Test.YtbddcodljmglfaaGreatDoorVarsB
import Derived.Test.YtbddcodljmglfaaGreatDoorEX1
import Derived.Test.YtbddcodljmglfaaGreatDoorDocA
import Derived.Deep.RegionHeld3
set_option linter.unusedSimpArgs false
set_option linter.unusedVariables false
namespace Go.Proofs.YtbddcodljmglfaaGreatDoor
open Go.RowKit

/-- What a put leaves as it was, and where what is new lies. -/
structure Spare (w w' : World) (vb : Nat) (nv vv nv' vv' : Value) : Prop where
  rest : ∀ k, k < w.heap.size → k ≠ vb → nv.ownBlock ≠ some k → vv.ownBlock ≠ some k → w'.heap[k]? = w.heap[k]?
  names : ∀ k, nv'.ownBlock = some k → nv.ownBlock = some k ∨ w.heap.size ≤ k
  values : ∀ k, vv'.ownBlock = some k → vv.ownBlock = some k ∨ w.heap.size ≤ k

set_option maxRecDepth 100000 in
set_option maxHeartbeats 4000000 in
theorem put_spare (w : World) (base vb : Nat) (V : List (Ver × Int)) (nv vv : Value) (x : BA) (n : Int) (h : VarsIn base w vb V nv vv) (hnd : (V.map (·.1)).Nodup) (hb : base ≤ w.heap.size) (hfew : V.length ≤ 999999) :
    Calls Tryz.prog 74 #[.pointer (some ⟨vb, 0, none⟩), .string x, .int .i64 n] w fun e w' => e = .returned (.tuple #[]) ∧ (∃ nv' vv', VarsIn base w' vb (putV V (x, 0) n) nv' vv' ∧ Spare w w' vb nv vv nv' vv') ∧ Below base w w' ∧ Keeps 44 w w' := by
  obtain ⟨ao, cp, rfl, hcp, hcl⟩ := h.names.rdT.cell
  obtain ⟨ao2, cp2, rfl, hcp2, hcl2⟩ := h.values.rdT.cell
  have T0 : w.cell? ⟨vb, 0, none⟩ = some (.slice ao V.length cp) := h.box.cell rfl
  have T1 : w.cell? ⟨vb, 1, none⟩ = some (.slice ao2 V.length cp2) := h.box.cell rfl
  have HZ : Hid (∀ x ∈ V, x.1.2 = 0) := h.zero
  have HND : Hid ((V.map (·.1)).Nodup) := hnd
  have HV : Hid (VarsIn base w vb V (.slice ao V.length cp) (.slice ao2 V.length cp2)) := h
  obtain ⟨N, hN⟩ : ∃ N, N = V.length := ⟨_, rfl⟩
  have HN : Hid (N = V.length) := hN
  rw [← hN] at T0 T1 hcl hcl2 hfew
  clear hN h hnd
  go_enter Tryz.func74, Tryz.ntmps74
  go_wp2_with fail
  go_loopg [6] N (fun g v6 wr => ∃ k : Nat, k + g = N ∧ v6 = .int .i64 k ∧ wr = w ∧ Hid (∀ j (hj : j < V.length), j < k → V[j].1 ≠ (x, 0)))
  case atStart => exact ⟨0, by omega, rfl, rfl, fun j hj h => absurd h (by omega)⟩
  case round =>
    obtain ⟨k, hkg, rfl, hwr, hno⟩ := hrel
    subst hwr
    by_cases hkN : k < N
    · have hlt : k < V.length := by rw [← HN.out]; exact hkN
      obtain ⟨g, off, rfl, hg, hx⟩ := hcl (by omega)
      obtain ⟨g2, off2, rfl, hg2, hx2⟩ := hcl2 (by omega)
      have c1 : wr.cell? ⟨g, off + k, none⟩ = some (.string V[k].1.1) := hx k _ (by simp [strs, hlt])
      have c2 : wr.cell? ⟨g2, off2 + k, none⟩ = some (.int .i64 V[k].2) := hx2 k _ (by simp [ints, hlt])
      have hk0 : (0 : Int) ≤ (k : Int) := by omega
      have hk1 : (k : Int) < (N : Int) := by omega
      have hiff := name_eq HZ.out hlt x
      by_cases he : ByteArray.toList V[k].1.1 = ByteArray.toList x
      · have hbe : (ByteArray.toList V[k].1.1 == ByteArray.toList x) = true := by simpa using he
        have HG : Hid (putV V (x, 0) n = V.set k ((x, 0), n)) := putV_at HND.out hlt (hiff.2 he)
        have f2 : wr.frozen? ⟨g2, off2 + k, none⟩ = false := own_frozen HV.out.values _
        have HKE : Hid (V[k].1 = (x, 0)) := hiff.2 he
        generalize V[k].1.1 = nm at c1 hbe
        generalize V[k].2 = val at c2
        clear hiff hx hx2 he
        go_wp2_with fail
        refine bodyPost_ret (results_none rfl _ _ _) rfl ?_
        obtain ⟨cur2, hcur2⟩ : ∃ cur, wr.heap[g2]? = some (.cells cur 2 (0, 0)) := by
          rcases HV.out.values.2 with ⟨h1, -⟩ | ⟨g', off', cap', cur, h1, h2, h3, -⟩
          · cases h1
          · injection h1 with h1
            injection h1 with h1
            injection h1 with h1 _ _
            subst h1
            exact ⟨cur, h3⟩
        refine ⟨rfl, ⟨.slice (some ⟨g, off, none⟩) V.length cp, .slice (some ⟨g2, off2, none⟩) V.length cp2, ?_, ⟨fun q hq h1 h2 h3 => Below.heap_setCell _ _ _ _ (fun e => h3 (by rw [e]; rfl)), fun q hq => .inl hq, fun q hq => .inl hq⟩⟩, (Below.refl _ _).setCell (HV.out.values.lt g2 rfl).1 _, set_keeps hcur2 (by decide) _⟩
        have hl : (V.set k ((x, 0), n)).length = V.length := by simp
        have hval : ints ((V.set k ((x, 0), n)).map (·.2)) = (ints (V.map (·.2))).set k (.int .i64 n) := by simp [ints, List.map_set]
        have hnam : (V.set k ((x, 0), n)).map (·.1.1) = V.map (·.1.1) := by
          apply List.ext_getElem?
          intro i
          rw [List.getElem?_map, List.getElem?_map]
          by_cases hik : k = i
          · subst hik
            rw [List.getElem?_set_self hlt, List.getElem?_eq_getElem hlt]
            simp [HKE.out]
          · rw [List.getElem?_set_ne hik]
        rw [HG.out]
        have hbox := HV.out.box
        refine ⟨hbox.of_block (Below.heap_setCell _ _ _ _ ?_), ?_, ?_, fun y hy => ?_, HV.out.lo, by rw [hl]; exact HV.out.few⟩
        · show vb ≠ g2
          rintro rfl
          rw [show wr.heap[vb]? = _ from hbox] at hcur2
          simp at hcur2
        · rw [hl, hnam]
          exact HV.out.names.set_other hcur2 (by decide) _
        · rw [hl, hval]
          exact HV.out.values.setAt hlt _
        · rcases List.mem_or_eq_of_mem_set hy with h | h
          · exact HZ.out y h
          · rw [h]
      · have hbe : (ByteArray.toList V[k].1.1 == ByteArray.toList x) = false := by simpa using he
        have HNO : Hid (∀ j (hj : j < V.length), j < k + 1 → V[j].1 ≠ (x, 0)) := by
          intro j hj hlt2
          rcases Nat.lt_or_eq_of_le (Nat.le_of_lt_succ hlt2) with h | h
          · exact hno.out j hj h
          · subst h; exact fun e => he (hiff.1 e)
        generalize V[k].1.1 = nm at c1 hbe
        clear hiff hx hx2 he hno c2
        go_wp2_with fail
        go_roundg (N - (k + 1))
        case measure => omega
        case rel => exact ⟨k + 1, by omega, by go_num, rfl, HNO⟩
    · have hnm : Hid ((x, 0) ∉ V.map (·.1)) := by
        intro hm
        obtain ⟨y, hy, he⟩ := List.mem_map.1 hm
        obtain ⟨j, hj, rfl⟩ := List.getElem_of_mem hy
        exact hno.out j hj (by have := HN.out; omega) he
      clear hno
      obtain ⟨i0, hi, hz0, hz1, hz2⟩ := info_parts infoString
      obtain ⟨j0, hj, hy0, hy1, hy2⟩ := info_parts infoInt64
      have hval := HV.out.values
      have hnam := HV.out.names
      rw [← HN.out] at hval hnam
      have HVA : Hid (OwnS wr base 2 1 (.slice ao2 N cp2) N (ints (V.map (·.2)))) := hval
      have HNA : Hid (OwnS wr base 9 1 (.slice ao N cp) N (strs (V.map (·.1.1)))) := hnam
      have HBX : Hid (BoxIn wr vb 126 [.slice ao N cp, .slice ao2 N cp2]) := by have := HV.out.box; rw [← HN.out] at this; exact this
      have hlo := HV.out.lo
      clear hval hnam
      go_wp2_with (first
        | (at_builtin; refine wpList_append_ownS _ rfl _ _ 62 rfl base 9 i0 (.string ByteArray.empty) 1 16 Tryz.underlying62 hi hz0 hz1 hz2 rfl (by decide) _ _ _ rfl (HNA.out.alloc _) ⟨wr.heap.size, 0, none⟩ 1 1 [.string x] rfl rfl (cell_newL _ [_] _ _ rfl) (one1 rfl) (by decide) (by unfold maxLen; omega) (by omega) (by simp; omega) ?_; intro g' off' cap' w7 hown7 hgrow7 hloc7 hlt7; have hb7 := grown_box HNA.out hgrow7 HBX.out (by decide); have c70 := BoxIn.cell hb7 (k := 0) rfl; have f70 := BoxIn.frozen hb7 0; have HB7 : Hid (BoxIn w7 vb _ _) := hb7; have HO7 : Hid (OwnS w7 base 9 1 (.slice (some ⟨g', off', none⟩) (N + 1) cap') (N + 1) (strs (V.map (·.1.1)) ++ [.string x])) := hown7; have HV7 : Hid (OwnS w7 base 2 1 (.slice ao2 N cp2) N (ints (V.map (·.2)))) := grown_own HNA.out hgrow7 HVA.out (by decide); have HL7 : Hid (Below base wr w7) := grown_below HNA.out hgrow7 hb; have HS7 : Hid (∀ q, q < wr.heap.size → (Value.slice ao N cp).ownBlock ≠ some q → w7.heap[q]? = wr.heap[q]?) := (fun q hq hn => (hgrow7.block q (by simp; omega) (fun e => hn e.symm)).trans (Below.heap_alloc _ _ _ hq)); have HO7' : Hid ((Value.slice ao N cp).ownBlock = some g' ∨ wr.heap.size ≤ g') := (by rcases hloc7 with h | h; exact .inl h; exact .inr (by simp at h; omega)); have HZ7 : Hid (wr.heap.size ≤ w7.heap.size) := HL7.out.size; have HK7 : Hid (Keeps 44 wr w7) := grown_keeps HNA.out hgrow7 (by decide); have c71 : ∀ u, (w7.setCell ⟨vb, 0, none⟩ u).cell? ⟨vb, 1, none⟩ = some (.slice ao2 N cp2) := (fun u => (by rw [World.cell?_setCell_other _ _ _ _ (by simp)]; exact BoxIn.cell HB7.out (k := 1) rfl)); clear hown7 hgrow7 hloc7 hb7)
        | (at_builtin; refine wpList_append_ownS _ rfl _ _ 24 rfl base 2 j0 (.int .i64 0) 1 8 Tryz.underlying24 hj hy0 hy1 hy2 rfl (by decide) _ _ _ rfl ((HV7.out.set_other HB7.out (by decide) _).alloc _) ⟨w7.heap.size, 0, none⟩ 1 1 [.int .i64 n] rfl rfl (cell_newL _ [_] _ _ (by simp [World.setCell])) (one1 rfl) (by decide) (by unfold maxLen; omega) (by omega) (by have := HL7.out.size; simp [World.setCell]; omega) ?_; intro g9 off9 cap9 w9 hown9 hgrow9 hloc9 hlt9; have hb9 := grown_box (HV7.out.set_other HB7.out (by decide) _) hgrow9 (BoxIn.set (i := 0) (u := .slice (some ⟨g', off', none⟩) (N + 1) cap') HB7.out) (by decide); have c91 := BoxIn.cell hb9 (k := 1) rfl; have f91 := BoxIn.frozen hb9 1; have HB9 : Hid (BoxIn w9 vb 126 [.slice (some ⟨g', off', none⟩) (N + 1) cap', .slice ao2 N cp2]) := hb9; have HO9 : Hid (OwnS w9 base 2 1 (.slice (some ⟨g9, off9, none⟩) (N + 1) cap9) (N + 1) (ints (V.map (·.2)) ++ [.int .i64 n])) := hown9; have HN9 : Hid (OwnS w9 base 9 1 (.slice (some ⟨g', off', none⟩) (N + 1) cap') (N + 1) (strs (V.map (·.1.1)) ++ [.string x])) := grown_own (HV7.out.set_other HB7.out (by decide) _) hgrow9 (HO7.out.set_other HB7.out (by decide) _) (by decide); have HS9 : Hid (∀ q, q < wr.heap.size → q ≠ vb → (Value.slice ao N cp).ownBlock ≠ some q → (Value.slice ao2 N cp2).ownBlock ≠ some q → w9.heap[q]? = wr.heap[q]?) := (fun q hq h1 h2 h3 => ((hgrow9.block q (by have := HZ7.out; simp [World.setCell]; omega) (fun e => h3 e.symm)).trans (Below.heap_alloc _ _ _ (by have := HZ7.out; simp [World.setCell]; omega))).trans ((Below.heap_setCell _ _ _ _ h1).trans (HS7.out q hq h2))); have HO9' : Hid ((Value.slice ao2 N cp2).ownBlock = some g9 ∨ wr.heap.size ≤ g9) := (by rcases hloc9 with h | h; exact .inl h; exact .inr (by have := HZ7.out; simp [World.setCell] at h; omega)); have HK9 : Hid (Keeps 44 wr w9) := (HK7.out.trans (set_keeps HB7.out (by decide) _)).trans (grown_keeps (HV7.out.set_other HB7.out (by decide) _) hgrow9 (by decide)); have HL9 : Hid (Below base wr w9) := (HL7.out.setCell hlo _).trans (grown_below (HV7.out.set_other HB7.out (by decide) _) hgrow9 (by have := HL7.out.size; simp [World.setCell]; omega)); clear hown9 hgrow9 hloc9 hb9))
      go_end0
      refine ⟨rfl, ⟨.slice (some ⟨g', off', none⟩) (N + 1) cap', .slice (some ⟨g9, off9, none⟩) (N + 1) cap9, ?_, ⟨fun q hq h1 h2 h3 => (Below.heap_setCell _ _ _ _ h1).trans (HS9.out q hq h1 (by rw [HN.out]; exact h2) (by rw [HN.out]; exact h3)), fun q hq => (by simp [Value.ownBlock] at hq; subst hq; have := HO7'.out; rw [HN.out] at this; exact this), fun q hq => (by simp [Value.ownBlock] at hq; subst hq; have := HO9'.out; rw [HN.out] at this; exact this)⟩⟩, HL9.out.setCell hlo _, HK9.out.trans (set_keeps HB9.out (by decide) _)⟩
      rw [putV_new hnm.out]
      refine ⟨HB9.out.set (i := 1), ?_, ?_, fun y hy => ?_, hlo, by simp; have := HN.out; omega⟩
      · rw [List.length_append, ← HN.out, List.map_append]
        have e : strs (V.map (·.1.1) ++ [((x, 0), n)].map (·.1.1)) = strs (V.map (·.1.1)) ++ [.string x] := by simp [strs]
        rw [e]
        exact HN9.out.set_other HB9.out (by decide) _
      · rw [List.length_append, ← HN.out, List.map_append]
        have e : ints (V.map (·.2) ++ [((x, (0 : Nat)), n)].map (·.2)) = ints (V.map (·.2)) ++ [.int .i64 n] := by simp [ints]
        rw [e]
        exact HO9.out.set_other HB9.out (by decide) _
      · rcases List.mem_append.1 hy with h | h
        · exact HZ.out y h
        · rw [List.mem_singleton] at h; rw [h]

end Go.Proofs.YtbddcodljmglfaaGreatDoor

namespace Go.Proofs.YtbddcodljmglfaaGreatDoor
open Go.RowKit

/-- A phi's only choice for a block. -/
def OneFor (p : PhiG) (fr : Nat) : Prop := ∃ A c B, p.choices = A ++ c :: B ∧ c.1 = fr ∧ (∀ d ∈ A, d.1 ≠ fr) ∧ ∀ d ∈ B, d.1 ≠ fr
theorem OneFor.taken {p : PhiG} {fr : Nat} (h : OneFor p fr) : ∃ c, takenP p fr = c.2 ∧ p.choices.filter (fun c => decide (c.1 = fr)) = [c] := by
  obtain ⟨A, c, B, h1, h2, h3, h4⟩ := h
  refine ⟨c, ?_, ?_⟩
  · unfold takenP
    rw [h1, List.find?_append, List.find?_eq_none.2 (fun d hd => by simpa using h3 d hd)]
    simp [h2]
  · rw [h1, List.filter_append, List.filter_cons, List.filter_eq_nil_iff.2 (fun d hd => by simpa using h3 d hd), List.filter_eq_nil_iff.2 (fun d hd => by simpa using h4 d hd)]
    simp [h2]
/-- The phis that stand from a line on. -/
structure PhisIn (T : List BA) (i : Nat) (ps : List PhiG) (fr : Nat) : Prop where
  text : ∀ (j : Nat) p, ps[j]? = some p → ∃ x, T[i + j]? = some x ∧ isPhi (hd (cuts 32 x)) = true ∧ choicesOf ((cuts 32 x).drop 2) = some p.choices ∧ 2 ≤ (cuts 32 x).length ∧ readVer 1 ((cuts 32 x).getD 1 ByteArray.empty) = some p.sets ∧ OneFor p fr
  more : ∃ x, T[i + ps.length]? = some x ∧ isPhi (hd (cuts 32 x)) = false

theorem DRun.put2 {w wr : World} {rb : Nat} {V : List (Ver × Int)} {nv vv : Value} {rc : List Value} (h : DRun w wr rb V nv vv rc) (x : BA) (n : Int) (hn : fits64 n) (hl : V.length ≤ 999999) : Calls Tryz.prog 74 #[.pointer (some ⟨w.heap.size + 1, 0, none⟩), .string x, .int .i64 n] wr fun e w' => e = .returned (.tuple #[]) ∧ (∃ nv' vv', DRun w w' rb (putV V (x, 0) n) nv' vv' rc ∧ Spare wr w' (w.heap.size + 1) nv vv nv' vv') ∧ Below (w.heap.size + 1) wr w' := by
  refine (put_spare wr _ _ V nv vv x n h.vars h.nodup h.hi hl).mono ?_
  rintro e w' ⟨h1, ⟨nv', vv', h2, h5⟩, h3, h4⟩
  exact ⟨h1, ⟨nv', vv', ⟨h2, h.res.of_block (h3.block _ (by omega)), h4 _ _ _ h.r, h.lo, h.bel.trans (h3.mono (by omega)), putV_nodup h.nodup, h.fits.put _ hn⟩, h5⟩, h3⟩

theorem putAll_snoc (V l : List (Ver × Int)) (x : Ver × Int) : putAll V (l ++ [x]) = putV (putAll V l) x.1 x.2 := by
  unfold putAll
  rw [List.foldl_append]
  rfl
theorem putAll_len (V : List (Ver × Int)) : ∀ l : List (Ver × Int), (putAll V l).length ≤ V.length + l.length := by
  intro l
  have := foldV_len l V
  unfold putAll
  simpa using this

set_option maxRecDepth 100000 in
set_option maxHeartbeats 8000000 in
theorem phisO (w w1 : World) (tb : Nat) (T : List BA) (lv bv : Value) (rb : Nat) (V : List (Ver × Int)) (nv vv : Value) (rc : List Value) (hT : TextO w tb T lv bv) (hD : DRun w w1 rb V nv vv rc) (hTl : T.length ≤ 1000) (i : Nat) (ps : List PhiG) (fr : Nat) (hP : PhisIn T i ps fr) (hfr : fr ≤ 1000) (hVl : V.length ≤ 900000) :
    Calls Tryz.prog 75 #[.pointer (some ⟨tb, 0, none⟩), .pointer (some ⟨w.heap.size + 1, 0, none⟩), .int .i64 (i : Int), .int .i64 (fr : Int)] w1 fun e w' => e = .returned (.int .i64 ((i + ps.length : Nat) : Int)) ∧ ∃ nv' vv', DRun w w' rb (meetG V (ps.map renP) fr) nv' vv' rc := by
  have HD : Hid (DRun w w1 rb V nv vv rc) := hD
  have HT : Hid (∀ W, Below w.heap.size w W → TextO W tb T lv bv) := fun W hb => hT.below hb
  have HP : Hid (PhisIn T i ps fr) := hP
  obtain ⟨xe, hxe, hpe⟩ := hP.more
  have hie := (List.getElem?_eq_some_iff.1 hxe).1
  obtain ⟨gL, oL, cL, hlv, hcap⟩ : ∃ gL oL cL, lv = .slice (some ⟨gL, oL, none⟩) T.length cL ∧ T.length ≤ cL := by
    obtain ⟨g, off, cap, v, h1, h2, -⟩ := hT.line hxe
    exact ⟨g, off, cap, h1, h2⟩
  subst hlv
  -- what is read of the text
  have HLN : Hid (∀ (k : Nat) (x : BA), T[k]? = some x → ∃ gw ow cw, (cuts 32 x)[0]? = some (hd (cuts 32 x)) ∧ (cuts 32 x).length ≤ 4294967290 ∧ (∀ (j : Nat) (z : BA), (cuts 32 x)[j]? = some z → z.size ≤ 4294967280) ∧ ∀ W, Below w.heap.size w W → W.cell? ⟨tb, 0, none⟩ = some (.slice (some ⟨gL, oL, none⟩) T.length cL) ∧ W.cell? ⟨tb, 2, none⟩ = some (.bool true) ∧ W.cell? ⟨gL, oL + k, none⟩ = some (.slice (some ⟨gw, ow, none⟩) (cuts 32 x).length cw) ∧ (∀ (j : Nat) (z : BA), (cuts 32 x)[j]? = some z → W.cell? ⟨gw, ow + j, none⟩ = some (.string z))) := by
    intro k x hx
    obtain ⟨g, off, cap, v, h1, -, h3, h4, h5, h6, h7, -⟩ := hT.line hx
    injection h1 with h1 _ h1c
    injection h1 with h1
    injection h1 with h1 h1o _
    subst h1 h1o h1c
    obtain ⟨gw, ow, cw, rfl, hgw, -⟩ := h7.at
    refine ⟨gw, ow, cw, h7.fst, h7.len, fun j z hz => h7.small z (List.mem_of_getElem? hz), fun W hW => ⟨(hW.cell (p := ⟨tb, 0, none⟩) (World.block_lt_of_cell? w _ h3)).trans h3, (hW.cell (p := ⟨tb, 2, none⟩) (World.block_lt_of_cell? w _ h4)).trans h4, (hW.cell (p := ⟨gL, oL + k, none⟩) h5).trans h6, fun j z hz => (hW.cell (p := ⟨gw, ow + j, none⟩) hgw).trans ?_⟩⟩
    obtain ⟨ao, cp, q1, -, q2⟩ := h7.row.cell
    obtain ⟨g', o', q3, -, q5⟩ := q2 h7.pos
    injection q1 with q1 _ _
    rw [← q1] at q3
    injection q3 with q3
    injection q3 with q3 q6 _
    subst q3 q6
    exact q5 j _ (by simp [strs, hz])
  have hbw := hD.bel
  have HBW : Hid (Below w.heap.size w w1) := hbw
  have hhi := hD.hi
  obtain ⟨vals, hvals⟩ : ∃ vals, vals = ps.map (fun p => getV V (rho (takenP p fr))) := ⟨_, rfl⟩
  have HVA : Hid (vals = ps.map (fun p => getV V (rho (takenP p fr)))) := hvals
  have HMG : Hid (meetG V (ps.map renP) fr = putAll V ((ps.map fun p => rho p.sets).zip vals)) := by
    show _ = _
    unfold meetG
    rw [hvals, List.zip_map', List.map_map]
    congr 1
    apply List.map_congr_left
    intro p _
    simp only [Function.comp, takenP_ren]
    rfl
  have HFV : Hid (FitV V) := hD.fits
  obtain ⟨P, hPp⟩ : ∃ P, P = ps.length := ⟨_, rfl⟩
  have HPL : Hid (P = ps.length) := hPp
  obtain ⟨M, hM⟩ : ∃ M, M = T.length := ⟨_, rfl⟩
  have HM : Hid (M = T.length) := hM
  rw [← hM] at HLN hcap hTl hie
  rw [← hPp] at hxe hie ⊢
  have HXE : Hid (T[i + P]? = some xe) := hxe
  have HPE : Hid (isPhi (hd (cuts 32 xe)) = false) := hpe
  clear hT hD hP hvals hPp hM hbw hxe hpe
  go_enter Tryz.func75, Tryz.ntmps75
  go_wp2_with fail
  go_loopg [2, 9] P (fun g v2 v9 wr => ∃ (j : Nat), j + g = P ∧ v2 = .int .i64 ((i + j : Nat) : Int) ∧ Hid (OwnS wr w1.heap.size 2 1 v9 j (ints (vals.take j))) ∧ Hid (Below w1.heap.size w1 wr))
  case atStart => exact ⟨0, by omega, rfl, OwnS.nil _ _ _ _, Below.refl _ _⟩
  case round =>
    obtain ⟨j, hjg, rfl, hown, hbel⟩ := hrel
    have hWW : Hid (Below w.heap.size w wr) := HBW.out.trans (hbel.out.mono HBW.out.size)
    by_cases hjP : j < P
    · obtain ⟨p, hp⟩ : ∃ p, ps[j]? = some p := ⟨_, List.getElem?_eq_getElem (by have := HPL.out; omega)⟩
      obtain ⟨x, hx, hxp, hcs, h2w, -, hone⟩ := HP.out.text j p hp
      obtain ⟨c1, hc1, hc2⟩ := hone.taken
      have hij := (List.getElem?_eq_some_iff.1 hx).1
      obtain ⟨gw, ow, cw, hf0, hwl, hsz, hcc⟩ := HLN.out (i + j) x hx
      obtain ⟨c0, c2, ci, hz⟩ := hcc wr hWW.out
      have cz := hz 0 _ hf0
      rw [Nat.add_zero] at cz
      have HCC : Hid (∀ W, Below w.heap.size w W → W.cell? ⟨tb, 0, none⟩ = some (.slice (some ⟨gL, oL, none⟩) M cL) ∧ W.cell? ⟨tb, 2, none⟩ = some (.bool true) ∧ W.cell? ⟨gL, oL + (i + j), none⟩ = some (.slice (some ⟨gw, ow, none⟩) (cuts 32 x).length cw) ∧ (∀ (j : Nat) (z : BA), (cuts 32 x)[j]? = some z → W.cell? ⟨gw, ow + j, none⟩ = some (.string z))) := hcc
      have HSZ : Hid (∀ (j : Nat) (z : BA), (cuts 32 x)[j]? = some z → z.size ≤ 4294967280) := hsz
      have hq : (ByteArray.toList (hd (cuts 32 x)) == [112, 104, 105]) = true := hxp
      have hi0 : (0 : Int) ≤ ((i + j : Nat) : Int) := by omega
      have hi1 : ((i + j : Nat) : Int) < (M : Int) := by have := HM.out; omega
      have HCA : Hid ((cuts 32 x).length = p.choices.length + 2 ∧ ∀ (k : Nat) (z : BA), (cuts 32 x)[k]? = some z → 2 ≤ k → ∃ c, p.choices[k - 2]? = some c ∧ blkB (cutHead 58 z) = some c.1 ∧ readVer 1 (cutTail 58 z) = some c.2) := by
        obtain ⟨h1, h2⟩ := choices_at _ _ hcs
        refine ⟨by simp at h1; omega, fun k z hz hk => ?_⟩
        obtain ⟨c, h3, h4⟩ := h2 (k - 2) z (by rw [List.getElem?_drop, show 2 + (k - 2) = k by omega]; exact hz)
        exact ⟨c, h3, choice_what h4⟩
      have HVJ : Hid (vals.take (j + 1) = vals.take j ++ [getV V (rho c1.2)]) := by
        show _ = _
        have : vals[j]? = some (getV V (rho c1.2)) := by rw [HVA.out, List.getElem?_map, hp, ← hc1]; rfl
        rw [List.take_add_one, this]
        rfl
      have HFI : Hid (p.choices.filter (fun c => decide (c.1 = fr)) = [c1]) := hc2
      obtain ⟨ao9, cp9, rfl⟩ := hown.out.len
      obtain ⟨K, hK⟩ : ∃ K, K = (cuts 32 x).length := ⟨_, rfl⟩
      have HK : Hid (K = (cuts 32 x).length) := hK
      rw [← hK] at ci HCC HCA hwl h2w
      have hwp : 0 < K := by omega
      generalize hd (cuts 32 x) = x0 at *
      generalize cuts 32 x = ws at *
      clear hz hf0 hcc hsz hx hxp hcs hone hc1 hc2 hp hK
      go_wp2_with fail
      clear c0 c2 ci cz hWW
      go_loopg [9, 12] (K - 2) (fun g v9 v12 wr => ∃ (k : Nat) (mid : List Int), k + g = K ∧ 2 ≤ k ∧ v12 = .int .i64 k ∧ mid.length ≤ k ∧ Hid (OwnS wr w1.heap.size 2 1 v9 (j + mid.length) (ints (vals.take j ++ mid))) ∧ Hid (mid = ((p.choices.take (k - 2)).filter (fun c => decide (c.1 = fr))).map (fun c => getV V (rho c.2))) ∧ Hid (Below w1.heap.size w1 wr))
      case atStart => exact ⟨2, [], by omega, by omega, rfl, by simp, (by show OwnS _ _ _ _ _ _ _; simpa using hown.out), (by show _ = _; simp), hbel.out⟩
      case round =>
        clear hown hbel
        obtain ⟨k, mid, hkg, hk2, rfl, hml, hown, hmid, hbel⟩ := hrel
        obtain ⟨ao9, cp9, rfl⟩ := hown.out.len
        have hWW : Hid (Below w.heap.size w wr) := HBW.out.trans (hbel.out.mono HBW.out.size)
        have hszr := hbel.out.size
        by_cases hkK : k < K
        · have hkK' : (k : Int) < (K : Int) := by omega
          obtain ⟨z, hz⟩ : ∃ z, ws[k]? = some z := ⟨_, List.getElem?_eq_getElem (by have := HK.out; omega)⟩
          obtain ⟨c, hc, hcb, hcv⟩ := HCA.out.2 k z hz hk2
          obtain ⟨-, -, -, hzz⟩ := HCC.out wr hWW.out
          have cz := hzz k z hz
          have hzs := HSZ.out k z hz
          have hhz := headSize 58 z
          have htz := cutTail_size 58 z
          have hrho := rho_of hcv
          have HCU : Hid (∀ W, Calls Tryz.prog 92 #[.string z, .int .u8 58] W fun e w' => e = .returned (.tuple #[.string (cutHead 58 z), .string (cutTail 58 z), .bool (cutAt 58 z).isSome]) ∧ ∃ n, w' = W.drewN n) := fun W => cut_any W z 58 hzs
          have HNU : Hid (∀ W, Calls Tryz.prog 94 #[.string (cutHead 58 z), .int .i64 0, .int .i64 1000000000] W fun e w' => e = .returned (.tuple #[.int .i64 (c.1 : Int), .bool true]) ∧ w' = W) := fun W => (rNumber_any W _ _ _ (by omega) (by omega) (by omega) (by omega) (by omega)).mono (by
            rintro e w' ⟨n, h1, h3, h2⟩
            have := numR_blk (cutHead 58 z)
            rw [hcb] at this
            have h4 := h3 _ (by simpa using this)
            rw [this] at h1
            subst h4
            exact ⟨h1, h2⟩)
          have HGE : Hid (∀ W, Below w1.heap.size w1 W → Calls Tryz.prog 76 #[.pointer (some ⟨w.heap.size + 1, 0, none⟩), .string (cutTail 58 z)] W fun e w' => e = .returned (.int .i64 (getV V (rho c.2))) ∧ w' = W) := fun W hb => by rw [hrho]; exact (HD.out.below hb).get _
          have hstep : (p.choices.take (k + 1 - 2)) = p.choices.take (k - 2) ++ [c] := by rw [show k + 1 - 2 = k - 2 + 1 by omega, List.take_add_one, hc]; rfl
          have hfs : (p.choices.take (k + 1 - 2)).filter (fun c => decide (c.1 = fr)) = (p.choices.take (k - 2)).filter (fun c => decide (c.1 = fr)) ++ (if c.1 = fr then [c] else []) := by
            rw [hstep, List.filter_append, List.filter_cons]
            by_cases h : c.1 = fr <;> simp [h]
          generalize cutHead 58 z = zh at *
          generalize cutTail 58 z = zt at *
          generalize (cutAt 58 z).isSome = zb at *
          obtain ⟨y, hy⟩ : ∃ y, y = getV V (rho c.2) := ⟨_, rfl⟩
          rw [← hy] at HGE
          by_cases hcf : c.1 = fr
          · have hqc : ((c.1 : Int) == (fr : Int)) = true := by simp [hcf]
            have HM1 : Hid (mid ++ [y] = ((p.choices.take (k + 1 - 2)).filter (fun c => decide (c.1 = fr))).map (fun c => getV V (rho c.2))) := by
              show _ = _
              rw [hfs, if_pos hcf, List.map_append, ← hmid.out, hy]
              rfl
            obtain ⟨j0, hj, hy0, hy1, hy2⟩ := info_parts infoInt64
            have HIN : Hid (ints (vals.take j ++ (mid ++ [y])) = ints (vals.take j ++ mid) ++ [.int .i64 y]) := by show _ = _; simp [ints]
            generalize c.1 = c0 at *
            clear hc hcb hcv hz hzz hzs hhz htz hrho hstep hfs hmid hy hcf
            go_wp2_with (first
              | (go_at_call 92; refine Calls.mono (HCU.out wr) ?_; rintro e w4 ⟨rfl, n4, rfl⟩; have HB4 : Hid (Below w1.heap.size w1 (wr.drewN n4)) := below_drewN hbel.out n4; have HO4 : Hid (OwnS (wr.drewN n4) w1.heap.size 2 1 (.slice ao9 (j + mid.length) cp9) (j + mid.length) (ints (vals.take j ++ mid))) := own_below hown.out (below_drewN (Below.refl _ _) n4))
              | (go_at_call 94; refine Calls.mono (HNU.out _) ?_; rintro e w5 ⟨rfl, rfl⟩)
              | (go_at_call 76; refine Calls.mono (HGE.out _ HB4.out) ?_; rintro e w6 ⟨rfl, rfl⟩)
              | (at_builtin; refine wpList_append_ownS _ rfl _ _ 24 rfl w1.heap.size 2 j0 (.int .i64 0) 1 8 Tryz.underlying24 hj hy0 hy1 hy2 rfl (by decide) _ _ _ rfl (HO4.out.alloc _) ⟨(wr.drewN n4).heap.size, 0, none⟩ 1 1 [.int .i64 y] rfl rfl (cell_newL _ [_] _ _ rfl) (one1 rfl) (by decide) (by unfold maxLen; omega) (by omega) (by have := HB4.out.size; simp; omega) ?_; intro g' off' cap' w7 hown7 hgrow7 hloc7 hlt7; have HO7 : Hid (OwnS w7 w1.heap.size 2 1 (.slice (some ⟨g', off', none⟩) (j + mid.length + 1) cap') (j + mid.length + 1) (ints (vals.take j ++ mid) ++ [.int .i64 y])) := hown7; have HB7 : Hid (Below w1.heap.size w1 w7) := HB4.out.trans (grown_below HO4.out hgrow7 HB4.out.size); clear hown7 hgrow7 hloc7 hlt7))
            go_roundg (K - (k + 1))
            case measure => omega
            case rel => exact ⟨k + 1, mid ++ [y], by omega, by omega, by go_num, by simp; omega, (by show OwnS _ _ _ _ _ _ _; rw [HIN.out, List.length_append]; exact HO7.out), HM1, HB7⟩
          · have hqc : ((c.1 : Int) == (fr : Int)) = false := by simp; omega
            have HM1 : Hid (mid = ((p.choices.take (k + 1 - 2)).filter (fun c => decide (c.1 = fr))).map (fun c => getV V (rho c.2))) := by
              show _ = _
              rw [hfs, if_neg hcf, List.append_nil]
              exact hmid.out
            generalize c.1 = c0 at *
            clear hc hcb hcv hz hzz hzs hhz htz hrho hstep hfs hmid hy hcf
            go_wp2_with (first
              | (go_at_call 92; refine Calls.mono (HCU.out wr) ?_; rintro e w4 ⟨rfl, n4, rfl⟩; have HB4 : Hid (Below w1.heap.size w1 (wr.drewN n4)) := below_drewN hbel.out n4; have HO4 : Hid (OwnS (wr.drewN n4) w1.heap.size 2 1 (.slice ao9 (j + mid.length) cp9) (j + mid.length) (ints (vals.take j ++ mid))) := own_below hown.out (below_drewN (Below.refl _ _) n4))
              | (go_at_call 94; refine Calls.mono (HNU.out _) ?_; rintro e w5 ⟨rfl, rfl⟩))
            go_roundg (K - (k + 1))
            case measure => omega
            case rel => exact ⟨k + 1, mid, by omega, by omega, by go_num, by omega, HO4, HM1, HB4⟩
        · have hkK' : ¬ (k : Int) < (K : Int) := by omega
          have HMD : Hid (mid = [getV V (rho c1.2)]) := by
            show _ = _
            rw [hmid.out, List.take_of_length_le (by have := HCA.out.1; omega), HFI.out]
            rfl
          have HOW : Hid (OwnS wr w1.heap.size 2 1 (.slice ao9 (j + mid.length) cp9) (j + 1) (ints (vals.take (j + 1)))) := by
            have h1 := hown.out
            rw [HMD.out, ← HVJ.out] at h1
            show OwnS _ _ _ _ _ _ _
            rw [HMD.out]
            exact h1
          clear hmid hown
          go_wp2_with fail
          go_roundg (P - (j + 1))
          case measure => omega
          case rel => exact ⟨j + 1, by omega, by go_num, HOW, hbel⟩
    · have hjE : j = P := by omega
      subst hjE
      obtain ⟨gw, ow, cw, hf0, hwl, -, hcc⟩ := HLN.out (i + j) xe HXE.out
      obtain ⟨c0, c2, ci, hz⟩ := hcc wr hWW.out
      have cz := hz 0 _ hf0
      clear hcc
      rw [Nat.add_zero] at cz
      have hq : (ByteArray.toList (hd (cuts 32 xe)) == [112, 104, 105]) = false := HPE.out
      have hi0 : (0 : Int) ≤ ((i + j : Nat) : Int) := by omega
      have hi1 : ((i + j : Nat) : Int) < (M : Int) := by omega
      have hwp : 0 < (cuts 32 xe).length := (List.getElem?_eq_some_iff.1 hf0).1
      obtain ⟨ao9, cp9, rfl⟩ := hown.out.len
      generalize (cuts 32 xe).length = NW at *
      generalize hd (cuts 32 xe) = x0 at *
      have hvl : vals.length = j := by rw [HVA.out, HPL.out]; simp
      have HRD : Hid (RdT wr 2 1 (.slice ao9 j cp9) j (ints vals)) := by
        have := hown.out.rdT
        rw [List.take_of_length_le (by omega)] at this
        exact this
      have HAP : Hid (∀ q, (Value.slice ao9 j cp9).ownBlock = some q → q ≠ w.heap.size + 1 ∧ nv.ownBlock ≠ some q ∧ vv.ownBlock ≠ some q ∧ q < wr.heap.size) := by
        intro q hq
        obtain ⟨h1, h2⟩ := hown.out.lt q hq
        refine ⟨?_, fun e => ?_, fun e => ?_, h2⟩
        · have := HD.out.vars.box.lt
          omega
        · have := (HD.out.vars.names.lt q e).2
          omega
        · have := (HD.out.vars.values.lt q e).2
          omega
      have HD2 : Hid (DRun w wr rb V nv vv rc) := HD.out.below hbel.out
      clear hz hf0 hown
      go_wp2_with fail
      clear c0 c2 ci cz hq hi0 hi1 hwp hwl
      go_loopg [18] j (fun g v18 wr => ∃ (k : Nat) (nv vv : Value), k + g = j ∧ v18 = .int .i64 k ∧ Hid (DRun w wr rb (putAll V (((ps.map fun p => rho p.sets).zip vals).take k)) nv vv rc) ∧ Hid (RdT wr 2 1 (.slice ao9 j cp9) j (ints vals)) ∧ Hid (∀ q, (Value.slice ao9 j cp9).ownBlock = some q → q ≠ w.heap.size + 1 ∧ nv.ownBlock ≠ some q ∧ vv.ownBlock ≠ some q ∧ q < wr.heap.size))
      case atStart => exact ⟨0, nv, vv, by omega, rfl, HD2.out, HRD.out, HAP.out⟩
      case round =>
        obtain ⟨k, nv2, vv2, hkg, rfl, hD3, hrd, hap⟩ := hrel
        clear HD2 HRD HAP hWW hbel
        have hhi2 := hD3.out.hi
        by_cases hkj : k < j
        · obtain ⟨p, hp⟩ : ∃ p, ps[k]? = some p := ⟨_, List.getElem?_eq_getElem (by have := HPL.out; omega)⟩
          obtain ⟨x, hx, -, -, h2w, hsv, -⟩ := HP.out.text k p hp
          obtain ⟨y, hy⟩ : ∃ y, (cuts 32 x)[1]? = some y := ⟨_, List.getElem?_eq_getElem (by omega)⟩
          rw [List.getD_eq_getElem?_getD, hy] at hsv
          simp only [Option.getD_some] at hsv
          have hrho := rho_of hsv
          obtain ⟨z, hz⟩ : ∃ z, vals[k]? = some z := ⟨_, List.getElem?_eq_getElem (by omega)⟩
          have HZIP : Hid (putAll V (((ps.map fun p => rho p.sets).zip vals).take (k + 1)) = putV (putAll V (((ps.map fun p => rho p.sets).zip vals).take k)) (y, 0) z) := by
            show _ = _
            have : ((ps.map fun p => rho p.sets).zip vals)[k]? = some ((y, 0), z) := by
              rw [List.getElem?_zip_eq_some]
              exact ⟨by rw [List.getElem?_map, hp]; simp [hrho], hz⟩
            rw [List.take_add_one, this]
            exact putAll_snoc _ _ _
          have hzf : Hid (fits64 z) := by
            have := hz
            rw [HVA.out, List.getElem?_map] at this
            rw [Option.map_eq_some_iff] at this
            obtain ⟨p', -, rfl⟩ := this
            exact HFV.out.get _
          have hlenV : (putAll V (((ps.map fun p => rho p.sets).zip vals).take k)).length ≤ 999999 := by
            have := putAll_len V (((ps.map fun p => rho p.sets).zip vals).take k)
            rw [List.length_take] at this
            have := HPL.out
            omega
          have HPU : Hid (∀ W, Below wr.heap.size wr W → Calls Tryz.prog 74 #[.pointer (some ⟨w.heap.size + 1, 0, none⟩), .string y, .int .i64 z] W fun e w' => e = .returned (.tuple #[]) ∧ (∃ nv' vv', DRun w w' rb (putV (putAll V (((ps.map fun p => rho p.sets).zip vals).take k)) (y, 0) z) nv' vv' rc ∧ RdT w' 2 1 (.slice ao9 j cp9) j (ints vals) ∧ (∀ q, (Value.slice ao9 j cp9).ownBlock = some q → q ≠ w.heap.size + 1 ∧ nv'.ownBlock ≠ some q ∧ vv'.ownBlock ≠ some q ∧ q < w'.heap.size)) ∧ Below w.heap.size w w') := fun W hW => ((hD3.out.below hW).put2 y z hzf.out hlenV).mono (by
            rintro e w' ⟨h1, ⟨nv', vv', h2, h3⟩, h4⟩
            refine ⟨h1, ⟨nv', vv', h2, (hrd.out.below hW).of_own (fun q q1 q2 => ?_), fun q hq => ?_⟩, h2.bel⟩
            · obtain ⟨a1, a2, a3, a4⟩ := hap.out q q1
              exact h3.rest q q2 a1 a2 a3
            · obtain ⟨a1, a2, a3, a4⟩ := hap.out q hq
              have hWs := hW.size
              refine ⟨a1, fun e' => ?_, fun e' => ?_, ?_⟩
              · rcases h3.names q e' with h | h
                · exact a2 h
                · omega
              · rcases h3.values q e' with h | h
                · exact a3 h
                · omega
              · have := h4.size
                omega)
          obtain ⟨gw, ow, cw, -, hwl, -, hcc⟩ := HLN.out (i + k) x hx
          obtain ⟨g9, o9, rfl, hg9, hc9⟩ := hrd.out.at (by omega)
          have HS : Hid (∀ W, Below w.heap.size w W → RdT W 2 1 (.slice (some ⟨g9, o9, none⟩) j cp9) j (ints vals) → W.cell? ⟨tb, 0, none⟩ = some (.slice (some ⟨gL, oL, none⟩) M cL) ∧ W.cell? ⟨gL, oL + (i + k), none⟩ = some (.slice (some ⟨gw, ow, none⟩) (cuts 32 x).length cw) ∧ W.cell? ⟨gw, ow + 1, none⟩ = some (.string y) ∧ W.cell? ⟨g9, o9 + k, none⟩ = some (.int .i64 z)) := fun W hW hr => by
            obtain ⟨a1, -, a3, a4⟩ := hcc W hW
            refine ⟨a1, a3, a4 1 y hy, ?_⟩
            obtain ⟨g', o', q1, -, q2⟩ := hr.at (by omega)
            injection q1 with q1
            injection q1 with q1 q3 _
            subst q1 q3
            exact q2 k _ (by simp [ints, hz])
          obtain ⟨d0, d1, d2, d3⟩ := HS.out wr hD3.out.bel hrd.out
          have HS0 : Hid (∀ W, Below wr.heap.size wr W → W.cell? ⟨tb, 0, none⟩ = some (.slice (some ⟨gL, oL, none⟩) M cL) ∧ W.cell? ⟨gL, oL + (i + k), none⟩ = some (.slice (some ⟨gw, ow, none⟩) (cuts 32 x).length cw) ∧ W.cell? ⟨gw, ow + 1, none⟩ = some (.string y) ∧ W.cell? ⟨g9, o9 + k, none⟩ = some (.int .i64 z)) := fun W hW => HS.out W (hD3.out.bel.trans (hW.mono hD3.out.bel.size)) (hrd.out.below hW)
          have hkj' : (k : Int) < (j : Int) := by omega
          have hk0 : (0 : Int) ≤ (k : Int) := by omega
          have hik0 : (0 : Int) ≤ (i : Int) + (k : Int) := by omega
          have hik1 : (i : Int) + (k : Int) < (M : Int) := by have := (List.getElem?_eq_some_iff.1 hx).1; have := HM.out; omega
          have hikn : ((i : Int) + (k : Int)).toNat = i + k := by omega
          have hwr1 : IntKind.i64.wrap ((i : Int) + (k : Int)) = (i : Int) + (k : Int) := (IntWalk.i64_left _).trans (IntWalk.wrap64_in _ (by omega))
          have h1w : (1 : Int) < ((cuts 32 x).length : Int) := by omega
          have h1w' : 1 < (cuts 32 x).length := by omega
          generalize putAll V (((ps.map fun p => rho p.sets).zip vals).take k) = V2 at *
          generalize (cuts 32 x).length = NW at *
          clear hcc hc9 hx hy hz hsv hrho hp h2w hrd
          go_wp2_with fail
          go_region_held3 (fun w' => w'.cell? ⟨tb, 0, none⟩ = some (.slice (some ⟨gL, oL, none⟩) M cL) ∧ w'.cell? ⟨gL, oL + (i + k), none⟩ = some (.slice (some ⟨gw, ow, none⟩) NW cw) ∧ w'.cell? ⟨gw, ow + 1, none⟩ = some (.string y) ∧ w'.cell? ⟨g9, o9 + k, none⟩ = some (.int .i64 z))
            (first | exact HS.out _ HB9.out HR9.out | exact HS0.out _ (Below.refl _ _).drew | go_keep)
            (first | (go_at_call 74; refine Calls.mono (HPU.out _ ?_) ?_; (repeat (first | assumption | exact Below.refl _ _ | apply Below.drew)); rintro e w9 ⟨rfl, ⟨nv9, vv9, hd9, hr9, ha9⟩, hb9⟩; have HD9 : Hid (DRun w w9 rb (putV V2 (y, 0) z) nv9 vv9 rc) := hd9; have HR9 : Hid (RdT w9 2 1 (.slice (some ⟨g9, o9, none⟩) j cp9) j (ints vals)) := hr9; have HA9 : Hid (∀ q, (Value.slice (some ⟨g9, o9, none⟩) j cp9).ownBlock = some q → q ≠ w.heap.size + 1 ∧ nv9.ownBlock ≠ some q ∧ vv9.ownBlock ≠ some q ∧ q < w9.heap.size) := ha9; have HB9 : Hid (Below w.heap.size w w9) := hb9; clear hd9 hr9 ha9 hb9))
          go_wp2_with fail
          go_roundg (j - (k + 1))
          case measure => omega
          case rel => exact ⟨k + 1, nv9, vv9, by omega, by go_num, (by rw [HZIP.out]; exact HD9), HR9, HA9⟩
        · have hkj' : ¬ (k : Int) < (j : Int) := by omega
          have HFIN : Hid (DRun w wr rb (meetG V (ps.map renP) fr) nv2 vv2 rc) := by
            have h1 := hD3.out
            rw [List.take_of_length_le (by rw [List.length_zip]; simp; omega)] at h1
            show DRun _ _ _ _ _ _ _
            rw [HMG.out]
            exact h1
          clear hD3
          go_wp2_with fail
          go_ret
          exact ⟨rfl, nv2, vv2, HFIN.out⟩

end Go.Proofs.YtbddcodljmglfaaGreatDoor

namespace Go.Proofs.YtbddcodljmglfaaGreatDoor
open Go.RowKit

set_option maxRecDepth 100000 in
set_option maxHeartbeats 4000000 in
theorem phis_none (w : World) (tb vb i : Nat) (fr : Int) (T : List BA) (lv bv : Value) (hT : TextO w tb T lv bv) (x : BA) (hx : T[i]? = some x) (hp : isPhi (hd (cuts 32 x)) = false) (hTl : T.length ≤ 1000) :
    Calls Tryz.prog 75 #[.pointer (some ⟨tb, 0, none⟩), .pointer (some ⟨vb, 0, none⟩), .int .i64 (i : Int), .int .i64 fr] w fun e w' => e = .returned (.int .i64 (i : Int)) ∧ w' = w := by
  obtain ⟨g, off, cap, v, rfl, h2, h3, h4, h5, h6, h7, -⟩ := hT.line hx
  have hi := (List.getElem?_eq_some_iff.1 hx).1
  obtain ⟨gw, ow, cw, rfl, hgw, c0⟩ := h7.at
  have hwp := h7.pos
  have hq : (ByteArray.toList (hd (cuts 32 x)) == [112, 104, 105]) = false := hp
  generalize (cuts 32 x).length = NW at *
  generalize hd (cuts 32 x) = x0 at *
  generalize T.length = M at *
  have hi0 : (0 : Int) ≤ (i : Int) := by omega
  have hi1 : (i : Int) < (M : Int) := by omega
  clear hT h7 hx hp
  go_enter Tryz.func75, Tryz.ntmps75
  go_wp2_with fail
  go_loopg [2, 9] 0 (fun g v2 v9 wr => v2 = .int .i64 (i : Int) ∧ v9 = .slice none 0 0 ∧ wr = w)
  case atStart => exact ⟨rfl, rfl, rfl⟩
  case round =>
    obtain ⟨rfl, rfl, rfl⟩ := hrel
    go_wp2_with fail
    go_loopg [18] 0 (fun g v18 wr2 => v18 = .int .i64 0 ∧ Hid (wr2.heap = wr.heap ∧ wr2 = wr))
    case atStart => exact ⟨rfl, ⟨rfl, rfl⟩⟩
    case round =>
      obtain ⟨rfl, hw2⟩ := hrel
      go_wp2_with fail
      go_ret
      exact ⟨rfl, hw2.out.2⟩

/-- The lines ahead in block b: what they say, that they end the block, where they lead, what they set. -/
structure LsF (T : List BA) (bl : List Nat) (U : List Ver) (bs : List BlockG) (b i : Nat) (ls : List LineG) : Prop where
  text : ∀ (k : Nat) l, ls[k]? = some l → ∃ x, T[i + k]? = some x ∧ LineW (cuts 32 x) l ∧ leadsS x = l.leads ∧ LineOK l ∧ bCnt bl (i + k) = b + 1
  ends : ∃ pre last, ls = pre ++ [last] ∧ endsK last.word = true
  leads : ∀ l ∈ ls, ∀ k ∈ l.leads, k < bl.length ∧ PhisIn T (bl.getD k 0 + 1) (phisAt bs k) b
  sets : ∀ l ∈ ls, l.word < 6 → l.sets ∈ U
theorem LsF.some {T : List BA} {bl : List Nat} {U : List Ver} {bs : List BlockG} {b i : Nat} {ls : List LineG} (h : LsF T bl U bs b i ls) : ∃ l r, ls = l :: r := by
  obtain ⟨pre, last, rfl, -⟩ := h.ends
  cases pre with
  | nil => exact ⟨_, _, rfl⟩
  | cons a r => exact ⟨_, _, rfl⟩
theorem LsF.next {T : List BA} {bl : List Nat} {U : List Ver} {bs : List BlockG} {b i : Nat} {l : LineG} {r : List LineG} (h : LsF T bl U bs b i (l :: r)) (he : endsK l.word = false) : LsF T bl U bs b (i + 1) r := by
  refine ⟨fun k l' hk => ?_, ?_, fun l' hl => h.leads l' (List.mem_cons_of_mem _ hl), fun l' hl => h.sets l' (List.mem_cons_of_mem _ hl)⟩
  · obtain ⟨x, h1, h2⟩ := h.text (k + 1) l' hk
    rw [show i + (k + 1) = i + 1 + k by omega] at h1 h2
    exact ⟨x, h1, h2⟩
  · obtain ⟨pre, last, h1, h2⟩ := h.ends
    cases pre with
    | nil =>
      simp at h1
      rw [h1.1] at he
      rw [he] at h2
      cases h2
    | cons a p =>
      injection h1 with _ h1
      exact ⟨p, last, h1, h2⟩

/-- No more keys than there are in a list that has them all. -/
theorem few_keys : ∀ (l U : List Ver), l.Nodup → (∀ x ∈ l, x ∈ U) → l.length ≤ U.length
  | [], U, _, _ => by simp
  | a :: l, U, hn, hs => by
    have ha := hs a (by simp)
    rw [List.nodup_cons] at hn
    obtain ⟨s, t, rfl⟩ := List.append_of_mem ha
    have := few_keys l (s ++ t) hn.2 (fun x hx => by
      have hne : x ≠ a := fun e => hn.1 (e ▸ hx)
      rcases List.mem_append.1 (hs x (by simp [hx])) with h | h
      · exact List.mem_append_left _ h
      · rcases List.mem_cons.1 h with h | h
        · exact absurd h hne
        · exact List.mem_append_right _ h)
    simp at this ⊢
    omega
def KeysIn (V : List (Ver × Int)) (U : List Ver) : Prop := ∀ x ∈ V, x.1 ∈ U
theorem KeysIn.put {V : List (Ver × Int)} {U : List Ver} (h : KeysIn V U) {p : Ver} (hp : p ∈ U) (n : Int) : KeysIn (putV V p n) U := by
  unfold putV
  split
  · intro x hx
    obtain ⟨y, hy, rfl⟩ := List.mem_map.1 hx
    split
    · exact hp
    · exact h y hy
  · intro x hx
    rcases List.mem_append.1 hx with hx | hx
    · exact h x hx
    · rw [List.mem_singleton] at hx; subst hx; exact hp
theorem KeysIn.putAll {V : List (Ver × Int)} {U : List Ver} (h : KeysIn V U) : ∀ (l : List (Ver × Int)), (∀ x ∈ l, x.1 ∈ U) → KeysIn (putAll V l) U := by
  intro l
  induction l generalizing V with
  | nil => intro _; exact h
  | cons y r ih => intro hl; exact ih (h.put (hl y (by simp)) y.2) (fun z hz => hl z (List.mem_cons_of_mem _ hz))
theorem KeysIn.meet {V : List (Ver × Int)} {U : List Ver} (h : KeysIn V U) {ps : List PhiG} (hp : ∀ p ∈ ps, rho p.sets ∈ U) (fr : Nat) : KeysIn (meetG V (ps.map renP) fr) U := by
  refine h.putAll _ (fun x hx => ?_)
  obtain ⟨q, hq, rfl⟩ := List.mem_map.1 hx
  obtain ⟨p, hp', rfl⟩ := List.mem_map.1 hq
  exact hp p hp'
theorem KeysIn.len {V : List (Ver × Int)} {U : List Ver} (h : KeysIn V U) (hn : (V.map (·.1)).Nodup) : V.length ≤ U.length := by
  have := few_keys (V.map (·.1)) U hn (fun x hx => by
    obtain ⟨y, hy, rfl⟩ := List.mem_map.1 hx
    exact h y hy)
  simpa using this
theorem KeysIn.start {A U : List Ver} (hA : ∀ a ∈ A, a ∈ U) (xs : List Int) : KeysIn (startG A xs) U := by
  have := KeysIn.putAll (V := []) (U := U) (fun x hx => by cases hx) (A.zip xs) (fun x hx => hA _ (List.of_mem_zip hx).1)
  exact this

end Go.Proofs.YtbddcodljmglfaaGreatDoor
