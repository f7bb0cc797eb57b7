/- slices.Clone of versions. And what follows on it. -/
import Derived.Test.YtbddcodljmglfaaGreatDoorReadAll
import Derived.Lib.SliceRun
import Derived.Test.YtbddcodljmglfaaGreatDoorLostFn
set_option linter.unusedSimpArgs false
set_option linter.unusedVariables false
namespace Go.Proofs.YtbddcodljmglfaaGreatDoor
open Go.RowKit

theorem eqNilV (w : World) (a : Option Addr) (n c n' c' : Nat) : (binOp .eql 49 (.slice a n c) (.slice none n' c')).run Tryz.prog w = .ok (.bool a.isNone) w := Lib.run_eql_slice_nil w _ _ a n c n' c' Tryz.underlying49

set_option maxRecDepth 100000 in
theorem clone_nil (w : World) : Calls Tryz.prog 83 #[.slice none 0 0] w fun e w' => e = .returned (.slice none 0 0) ∧ w' = w := by
  have q := eqNilV
  go_enter Tryz.func83, Tryz.ntmps83
  go_wp2_with fail
  go_ret
  exact ⟨rfl, rfl⟩

theorem vers_one (A : List Ver) : ∀ u ∈ vers A, u.oneCell' = true := by
  induction A with
  | nil => simp [vers]
  | cons a r ih =>
    intro u hu
    simp [vers] at hu
    rcases hu with rfl | rfl | hu
    · rfl
    · rfl
    · exact ih u hu
theorem OwnS.made (w : World) (t : TypeId) (size : Nat) : OwnS (w.alloc (.cells #[] t)) w.heap.size t size (.slice (some ⟨w.heap.size, 0, none⟩) 0 0) 0 [] := ⟨by simp, .inr ⟨_, _, _, _, rfl, Nat.le_refl _, heap_alloc_new w _, Nat.le_refl _, Nat.zero_le _, by simp, by simp⟩⟩

set_option maxRecDepth 100000 in
set_option maxHeartbeats 4000000 in
theorem clone_some (w : World) (g off cap : Nat) (A : List Ver) (hA : A.length ≤ 1000000) (h0 : 0 < A.length) (hc : ∀ j u, (vers A)[j]? = some u → w.cell? ⟨g, off + j, none⟩ = some u) : Calls Tryz.prog 83 #[.slice (some ⟨g, off, none⟩) A.length cap] w fun e w' => (∃ v, e = .returned v ∧ OwnS w' w.heap.size 111 2 v A.length (vers A)) ∧ Below w.heap.size w w' := by
  have q := eqNilV
  have HC : Hid (∀ j u, (vers A)[j]? = some u → w.cell? ⟨g, off + j, none⟩ = some u) := hc
  obtain ⟨i0, hi, hz0, hz1, hz2⟩ := info_parts infoVersion
  clear hc
  go_enter Tryz.func83, Tryz.ntmps83
  go_wp2_with (first | (at_builtin; refine wpList_append_ownS _ rfl _ _ 49 rfl w.heap.size 111 i0 _ 2 24 Tryz.underlying49 hi hz0 hz1 hz2 rfl (by decide) _ _ _ rfl (OwnS.made w _ _) ⟨g, off, none⟩ A.length cap (vers A) rfl (vers_length A) (fun j u hj => (by rw [Addr.add_lit]; have hq := HC.out j u hj; rw [World.cell?_of_block (Below.heap_alloc w _ _ (World.block_lt_of_cell? w _ hq))]; exact hq)) (vers_one A) h0 (by unfold maxLen; omega) (by omega) (by simp) ?_; intro g' off' cap' w7 hown7 hgrow7 hloc7 hlt7))
  go_ret
  refine ⟨⟨_, rfl, by simpa using hown7⟩, ?_⟩
  have hb : Below w.heap.size w (w.alloc (.cells #[] 111)) := (Below.refl _ _).alloc (Nat.le_refl _) _
  refine hb.trans ⟨hgrow7.os, hgrow7.tape, hgrow7.output, hgrow7.size, fun k hk => hgrow7.block k (by simp; omega) (fun e => ?_)⟩
  injection e with e
  have e2 : k = w.heap.size := e
  omega

end Go.Proofs.YtbddcodljmglfaaGreatDoor

namespace Go.Proofs.YtbddcodljmglfaaGreatDoor
open Go.RowKit

theorem vers_one2 (A : List Ver) : ∀ u ∈ vers A, u.oneCell' = true := by
  induction A with
  | nil => simp [vers]
  | cons a r ih =>
    intro u hu
    simp [vers] at hu
    rcases hu with rfl | rfl | hu
    · rfl
    · rfl
    · exact ih u hu

theorem run_append_zero (a : Addr) (n cap : Nat) (ao : Option Addr) (c : Nat) (hn : n ≤ cap) (ty : TypeId) (w : World) : (Builtin.append_ #[49, 49] ty #[.slice (some a) n cap, .slice ao 0 c]).run Tryz.prog w = .ok (.slice (some a) n cap) w := by
  have hu : Tryz.prog.underlying 49 = some (.slice 111) := Tryz.underlying49
  obtain ⟨i0, hi, hz0, hz1, hz2⟩ := info_parts infoVersion
  cases ao with
  | none =>
    simp [Builtin.append_, run_underlying hu, sizeOf, typeInfo, hi, Builtin.lenOf, hn]
    simp [Builtin.firstCells, storeCells]
  | some b =>
    simp [Builtin.append_, run_underlying hu, sizeOf, typeInfo, hi, Builtin.lenOf, hn]
    simp [Builtin.firstCells, storeCells, loadCells, loadCellsFrom]

theorem OwnS.made2 (w : World) (t : TypeId) (a b : Value) : OwnS (w.alloc (.cells #[a, b] t)) w.heap.size t 2 (.slice (some ⟨w.heap.size, 0, none⟩) 1 1) 1 [a, b] :=
  ⟨rfl, .inr ⟨_, _, _, _, rfl, Nat.le_refl _, heap_alloc_new w _, Nat.le_refl _, by unfold maxLen; omega, by simp, fun j u hj => by simpa using hj⟩⟩

set_option maxRecDepth 100000 in
theorem run_append_vs (W : World) (s : Ver) (ao : Option Addr) (cp : Nat) (l : List Ver) (hl : l.length ≤ 1000000) (hr : RdT W 111 2 (.slice ao l.length cp) l.length (vers l)) (ty : TypeId) :
    ∃ g off cap w', (Builtin.append_ #[49, 49] ty #[.slice (some ⟨W.heap.size, 0, none⟩) 1 1, .slice ao l.length cp]).run Tryz.prog (W.alloc (.cells #[.string s.1, .int .i64 (s.2 : Int)] 111)) = .ok (.slice (some ⟨g, off, none⟩) (1 + l.length) cap) w' ∧
      (∀ j u, (vers (s :: l))[j]? = some u → w'.cell? ⟨g, off + j, none⟩ = some u) ∧ 1 + l.length ≤ cap ∧ W.heap.size ≤ g ∧ g < w'.heap.size ∧ Below W.heap.size W w' := by
  have hb : Below W.heap.size W (W.alloc (.cells #[.string s.1, .int .i64 (s.2 : Int)] 111)) := (Below.refl _ _).alloc (Nat.le_refl _) _
  by_cases h0 : l.length = 0
  · have hnil : l = [] := List.eq_nil_of_length_eq_zero h0
    subst hnil
    refine ⟨_, _, _, _, run_append_zero _ 1 1 ao cp (Nat.le_refl _) ty _, fun j u hj => ?_, Nat.le_refl _, Nat.le_refl _, by simp, hb⟩
    rw [Nat.zero_add]
    exact (BoxIn.new W 111 [.string s.1, .int .i64 (s.2 : Int)]).cell hj
  · obtain ⟨g0, off0, rfl, hg0, hc⟩ := hr.at (by omega)
    obtain ⟨i0, hi, hz0, hz1, hz2⟩ := info_parts infoVersion
    obtain ⟨g, off, cap, w', hrun, h1, h2, h3, h4⟩ := run_append_ownS (P := Tryz.prog) (W.alloc (.cells #[.string s.1, .int .i64 (s.2 : Int)] 111)) W.heap.size 49 ty 111 i0 _ 2 24 Tryz.underlying49 hi hz0 hz1 hz2 rfl (by decide) _ _ _ (OwnS.made2 W 111 (.string s.1) (.int .i64 (s.2 : Int))) ⟨g0, off0, none⟩ l.length cp (vers l) (vers_length l) (fun j u hj => by
      rw [Addr.add_lit]
      have hq := hc j u hj
      rw [World.cell?_of_block (Below.heap_alloc W _ _ hg0)]
      exact hq) (vers_one2 l) (by omega) (by unfold maxLen; omega) (by omega) (by simp)
    refine ⟨g, off, cap, w', hrun, ?_, ?_, ?_, h4, ?_⟩
    · intro j u hj
      rcases h1.2 with ⟨h5, _⟩ | ⟨g', off', cap', cur, h5, _, h6, _, _, _, h7⟩
      · cases h5
      · injection h5 with h5 h8 h9
        injection h5 with h5
        injection h5 with h5 h5'
        subst h5 h5'
        have := h7 j u hj
        simp [World.cell?, h6, this]
    · rcases h1.2 with ⟨h5, _⟩ | ⟨g', off', cap', cur, h5, _, _, h6, _⟩
      · cases h5
      · injection h5 with h5 h8 h9
        rw [h9]
        exact h6
    · exact (h1.lt g rfl).1
    · refine hb.trans ⟨h2.os, h2.tape, h2.output, h2.size, fun k hk => h2.block k (by simp; omega) (fun e => ?_)⟩
      injection e with e
      have e2 : k = W.heap.size := e
      omega

theorem wpList_append_run {P : Program} {ops : Array Oper} {rest : List Oper} {o : Oper} {a : Act} {w : World} {Q : Exit → Act → World → Prop} (hgd : o.guard = none) (s x : Operand) (t : TypeId)
    (ho : o.op = .call { callee := .builtin .append, args := #[s, x], argTypes := #[t, t] }) (v1 v2 : Value) (hs : a.eval s = v1) (hx : a.eval x = v2) (r : Value) (w' : World) (hr : (Builtin.append_ #[t, t] o.type #[v1, v2]).run P w = .ok r w')
    (h : wpList P ops Q rest (a.put o.dst r) w') : wpList P ops Q (o :: rest) a w := by
  refine wpList_plain hgd fun _ hK => ?_
  unfold Oper.wp execOp
  simp only [ho, resolve, invoke, builtin, Sem.run_bind, Sem.run_pure, Result.andThen_ok, List.map_toArray, List.map_cons, List.map_nil, hs, hx, hr]
  exact hK _ _ h

end Go.Proofs.YtbddcodljmglfaaGreatDoor

namespace Go.Proofs.YtbddcodljmglfaaGreatDoor
open Go.RowKit

theorem clone_any (w : World) (av : Value) (A : List Ver) (hA : A.length ≤ 1000000) (h : RdT w 111 2 av A.length (vers A)) (hnil : A = [] → av = .slice none 0 0) :
    Calls Tryz.prog 83 #[av] w fun e w' => (∃ v, e = .returned v ∧ OwnS w' w.heap.size 111 2 v A.length (vers A)) ∧ Below w.heap.size w w' := by
  cases A with
  | nil =>
    rw [hnil rfl]
    refine (clone_nil w).mono ?_
    rintro e w' ⟨rfl, rfl⟩
    exact ⟨⟨_, rfl, OwnS.nil _ _ _ _⟩, Below.refl _ _⟩
  | cons a r =>
    obtain ⟨ao, cap, rfl⟩ := h.form
    obtain ⟨g, off, rfl, -, hc⟩ := h.at (by simp)
    exact clone_some w g off cap (a :: r) hA (by simp) hc

theorem toList_empty (x : BA) : (ByteArray.toList x == []) = decide (x.size = 0) := by
  rw [toList_data, Bool.eq_iff_iff, beq_iff_eq, decide_eq_true_eq, ← len_ba]
  exact ⟨fun h => by rw [h]; rfl, fun h => List.eq_nil_of_length_eq_zero h⟩

/-- The program's names, so far. -/
theorem named_len (l : List Ver) (v : Ver) : (named l v).length ≤ l.length + 1 := by
  unfold named
  split
  · omega
  · split
    · omega
    · simp
theorem namedAll_len (vs : List Ver) : ∀ l : List Ver, (namedAll l vs).length ≤ l.length + vs.length := by
  induction vs with
  | nil => intro l; simp [namedAll]
  | cons v r ih => intro l; have h1 := ih (named l v); have h2 := named_len l v; simp only [namedAll, List.foldl_cons, List.length_cons] at h1 ⊢; omega
theorem crowdG_step (names : List Ver) (b : BlockG) (r : List BlockG) : crowdG names (b :: r) = match crowdB b names 0 b.lines with | .inl i => some i | .inr names' => crowdG names' r := rfl
theorem crowdB_step (b : BlockG) (names : List Ver) (j : Nat) (l : LineG) (r : List LineG) : crowdB b names j (l :: r) = if 8 < (namedAll names (l.sets :: l.takes)).length then .inl (b.first + b.phis.length + j) else crowdB b (namedAll names (l.sets :: l.takes)) (j + 1) r := rfl

set_option maxRecDepth 100000 in
set_option maxHeartbeats 4000000 in
theorem crowded_any (w : World) (pb : Nat) (av bv : Value) (A : List Ver) (B : List BV) (hP : ProgIn w av bv A B) (hb : BoxIn w pb 52 [av, bv]) (hN : B.length ≤ 1000000) (hA : A.length ≤ 4) (hF : ∀ b ∈ B, b.first ≤ 1000000 ∧ b.phis.length ≤ 1000000 ∧ b.lines.length ≤ 1000000) :
    Calls Tryz.prog 43 #[.pointer (some ⟨pb, 0, none⟩)] w fun e w' => (∃ i : Nat, e = .returned (.tuple #[.int .i64 (i : Int), .bool (crowdG A (B.map BV.g)).isSome]) ∧ ∀ k, crowdG A (B.map BV.g) = some k → i = k) ∧ Below w.heap.size w w' := by
  have HP : Hid (ProgIn w av bv A B) := hP
  have HF : Hid (∀ b ∈ B, b.first ≤ 1000000 ∧ b.phis.length ≤ 1000000 ∧ b.lines.length ≤ 1000000) := hF
  have HCL : Hid (Calls _ _ _ _ _) := clone_any w av A (by omega) hP.args hP.anil
  have HPB : Hid (BoxIn w pb 52 [av, bv]) := hb
  obtain ⟨aoB, cpB, rfl⟩ := hP.rows.form
  obtain ⟨aoA, cpA, hav⟩ := hP.args.form
  obtain ⟨N, hNN⟩ : ∃ N, N = B.length := ⟨_, rfl⟩
  have HNN : Hid (N = B.length) := hNN
  have HROWS : Hid (RdT w 109 3 (.slice aoB N cpB) N (cellsB B)) := by rw [hNN]; exact hP.rows
  have HBLK : Hid (∀ b ∈ B, b.ok w w.heap.size) := hP.blocks
  rw [← hNN] at hN HPB
  have c0 : w.cell? ⟨pb, 0, none⟩ = some av := HPB.out.cell rfl
  have c1 : w.cell? ⟨pb, 1, none⟩ = some (.slice aoB N cpB) := HPB.out.cell rfl
  have hpb : pb < w.heap.size := HPB.out.lt
  subst hav
  clear hP hb hF hNN HP
  go_enter Tryz.func43, Tryz.ntmps43
  go_wp2_with (first | (go_at_call 83; refine HCL.out.mono ?_; rintro e w1 ⟨⟨v, rfl, hv0⟩, hb0⟩; have hv : Hid (OwnS w1 w.heap.size 111 2 v A.length (vers A)) := hv0; have hb1 : Hid (Below w.heap.size w w1) := hb0; have c11 : w1.cell? ⟨pb, 1, none⟩ = some (.slice aoB N cpB) := (hb0.cell (p := ⟨pb, 1, none⟩) hpb).trans c1; clear hv0 hb0))
  go_loopg [4, 21] N (fun g v4 v21 wr => ∃ (j : Nat) (nm : List Ver), j + g = N ∧ v21 = .int .i64 j ∧ Hid (Below w.heap.size w wr) ∧ Hid (OwnS wr w.heap.size 111 2 v4 nm.length (vers nm)) ∧ nm.length ≤ 8 ∧ Hid (crowdG A (B.map BV.g) = crowdG nm ((B.drop j).map BV.g)))
  case atStart => exact ⟨0, A, by omega, rfl, hb1, hv, by omega, rfl⟩
  case round =>
    obtain ⟨j, nm, hjg, rfl, hbel, hown, hnm8, hcrowd⟩ := hrel
    by_cases hjN : j < N
    · have hlt' : j < B.length := HNN.out ▸ hjN
      obtain ⟨b, hb⟩ : ∃ b, B[j] = b := ⟨_, rfl⟩
      have hmem : b ∈ B := by rw [← hb]; exact List.getElem_mem hlt'
      have hdrop : B.drop j = b :: B.drop (j + 1) := by rw [List.drop_eq_getElem_cons hlt', hb]
      have hst : Hid (crowdG A (B.map BV.g) = match crowdB b.g nm 0 b.g.lines with | .inl i => some i | .inr names' => crowdG names' ((B.drop (j + 1)).map BV.g)) := by
        show _ = _
        rw [hcrowd.out, hdrop]
        rfl
      obtain ⟨gB, offB, rfl, hgB, hcell⟩ := HROWS.out.at (by omega)
      have d0 := hcell (j * 3 + 0) _ (by rw [cellsB_get hlt' (by omega), hb]; rfl)
      have d1 := hcell (j * 3 + 1) _ (by rw [cellsB_get hlt' (by omega), hb]; rfl)
      have d2 := hcell (j * 3 + 2) _ (by rw [cellsB_get hlt' (by omega), hb]; rfl)
      have hok := HBLK.out b hmem
      obtain ⟨f1, f2, f3⟩ := HF.out b hmem
      obtain ⟨first, phis, lns, pv, blv⟩ := b
      obtain ⟨aoP, cpP, hpv⟩ := hok.phis.1.form
      obtain ⟨aoL, cpL, hblv⟩ := hok.lines.1.form
      simp only at hpv hblv f1 f2 f3
      subst hpv
      subst hblv
      have e0 : wr.cell? ⟨gB, offB + j * 3, none⟩ = some (.int .i64 (first : Int)) := (hbel.out.cell hgB).trans d0
      have e1 : wr.cell? ⟨gB, offB + j * 3 + 1, none⟩ = some (.slice aoP phis.length cpP) := (hbel.out.cell hgB).trans (by rw [Nat.add_assoc]; exact d1)
      have e2 : wr.cell? ⟨gB, offB + j * 3 + 2, none⟩ = some (.slice aoL lns.length cpL) := (hbel.out.cell hgB).trans (by rw [Nat.add_assoc]; exact d2)
      have hj1 : (0 : Int) ≤ (j : Int) := by omega
      have hj2 : (j : Int) < (N : Int) := by omega
      have hszr := hbel.out.size
      obtain ⟨M, hM⟩ : ∃ M, M = lns.length := ⟨_, rfl⟩
      have HM : Hid (M = lns.length) := hM
      obtain ⟨bg, hbg⟩ : ∃ bg, BV.g ⟨first, phis, lns, .slice aoP phis.length cpP, .slice aoL lns.length cpL⟩ = bg := ⟨_, rfl⟩
      have HBG : Hid (bg.first = first ∧ bg.phis.length = phis.length ∧ bg.lines = lns.map (·.l)) := by
        rw [← hbg]
        exact ⟨rfl, by simp [BV.g], rfl⟩
      have HLN : Hid (RdT w 117 6 (.slice aoL M cpL) M (cellsL lns)) := by
        have := hok.lines.1
        rw [hM]
        exact this
      have HLV : Hid (∀ x ∈ lns, x.ok w) := hok.line
      rw [hbg] at hst
      rw [← hM] at e2 f3
      obtain ⟨bb, hbb⟩ : ∃ bb, bb = wr.heap.size := ⟨_, rfl⟩
      have hbbw : w.heap.size ≤ bb := by omega
      have HBB : Hid (bb = wr.heap.size) := hbb
      clear hb hdrop hcrowd hcell d0 d1 d2 hok hmem hbg hM
      go_wp2_with fail
      rw [← hbb]
      clear hbb
      go_loopg [4, 28] M (fun g v4 v28 wr2 => ∃ (i : Nat) (nm2 : List Ver), i + g = M ∧ v28 = .int .i64 i ∧ Hid (Below w.heap.size w wr2) ∧ Hid (BoxIn wr2 bb 109 [.int .i64 (first : Int), .slice aoP phis.length cpP, .slice aoL M cpL]) ∧ Hid (OwnS wr2 w.heap.size 111 2 v4 nm2.length (vers nm2)) ∧ nm2.length ≤ 8 ∧ Hid (crowdB bg nm 0 bg.lines = crowdB bg nm2 i ((lns.drop i).map (·.l))))
      case atStart => exact ⟨0, nm, by omega, rfl, hbel.out.alloc hszr _, (by rw [HBB.out]; exact BoxIn.new _ _ [_, _, _]), hown.out.alloc _, hnm8, by rw [HBG.out.2.2]; rfl⟩
      case round =>
        obtain ⟨i, nm2, hig, rfl, hbel2, hbx, hown2, hnm2, hlb⟩ := hrel
        have hs2 := hbel2.out.size
        by_cases hiM : i < M
        · have hltL : i < lns.length := HM.out ▸ hiM
          obtain ⟨x, hx⟩ : ∃ x, lns[i] = x := ⟨_, rfl⟩
          have hxm : x ∈ lns := by rw [← hx]; exact List.getElem_mem hltL
          have hdl : lns.drop i = x :: lns.drop (i + 1) := by rw [List.drop_eq_getElem_cons hltL, hx]
          have hstl : Hid (crowdB bg nm 0 bg.lines = if 8 < (namedAll nm2 (x.l.sets :: x.l.takes)).length then .inl (bg.first + bg.phis.length + i) else crowdB bg (namedAll nm2 (x.l.sets :: x.l.takes)) (i + 1) ((lns.drop (i + 1)).map (·.l))) := by
            show _ = _
            rw [hlb.out, hdl]
            rfl
          obtain ⟨gL, offL, rfl, hgL, hcellL⟩ := HLN.out.at (by omega)
          have hxo := HLV.out x hxm
          have hc : ∀ t, t < 6 → ∀ u, x.cells[t]? = some u → wr.cell? ⟨gL, offL + i * 6 + t, none⟩ = some u := fun t ht u hu => (hbel2.out.cell (p := ⟨gL, offL + i * 6 + t, none⟩) hgL).trans (by rw [Nat.add_assoc]; exact hcellL (i * 6 + t) u (by rw [cellsL_get hltL ht, hx]; exact hu))
          obtain ⟨l, tv, lv⟩ := x
          obtain ⟨aoT, cpT, htv⟩ := hxo.1.form
          obtain ⟨aoE, cpE, hlv⟩ := hxo.2.1.form
          simp only at htv hlv
          subst htv
          subst hlv
          have g0 := hc 0 (by omega) _ rfl
          have g1 := hc 1 (by omega) _ rfl
          have g2 := hc 2 (by omega) _ rfl
          have g3 := hc 3 (by omega) _ rfl
          have g4 := hc 4 (by omega) _ rfl
          have g5 := hc 5 (by omega) _ rfl
          rw [Nat.add_zero] at g0
          have HTK : Hid (RdT w 111 2 (.slice aoT l.takes.length cpT) l.takes.length (vers l.takes)) := hxo.1
          have hfew := hxo.2.2.1
          have hi1 : (0 : Int) ≤ (i : Int) := by omega
          have hi2 : (i : Int) < (M : Int) := by omega
          simp only at hfew g5
          clear hx hdl hlb hcellL hxo hc hxm
          obtain ⟨gV, offV, cpV, w7, happ, hcV, hcapV, hgV1, hgV2, hbV⟩ := run_append_vs (wr.alloc (.cells #[.int .i64 (l.word : Int), .string l.sets.1, .int .i64 (l.sets.2 : Int), .slice aoT l.takes.length cpT, .int .i64 l.number, .slice aoE l.leads.length cpE] 117)) l.sets aoT cpT l.takes (by omega) ((HTK.out.below (hbel2.out.mono (Nat.le_refl _))).below ((Below.refl _ _).alloc (Nat.le_refl _) _)) 49
          rw [World.size_alloc] at happ
          have HAPP : Hid (Sem.run Tryz.prog _ _ = _) := happ
          have HCV : Hid (∀ j u, (vers (l.sets :: l.takes))[j]? = some u → w7.cell? ⟨gV, offV + j, none⟩ = some u) := hcV
          have HBV : Hid (Below wr.heap.size wr w7) := ((Below.refl _ _).alloc (Nat.le_refl _) _).trans (hbV.mono (by simp))
          have hgV3 : wr.heap.size < gV := by simp at hgV1; omega
          clear happ hcV hbV hgV1
          go_wp2_with (first | (at_builtin; go_must (refine wpList_append_run rfl _ _ 49 rfl _ _ rfl rfl _ _ HAPP.out ?_)))
          have hs7 := HBV.out.size
          obtain ⟨vs, hvs⟩ : ∃ vs, l.sets :: l.takes = vs := ⟨_, rfl⟩
          obtain ⟨T, hT⟩ : ∃ T, 1 + l.takes.length = T := ⟨_, rfl⟩
          have HT : Hid (vs.length = T) := by show _ = _; rw [← hvs, ← hT, List.length_cons]; omega
          have hT4 : T ≤ 4 := by omega
          have hTi : (1 : Int) + (l.takes.length : Int) = (T : Int) := by omega
          have HOWN7 : Hid (OwnS w7 w.heap.size 111 2 _ nm2.length (vers nm2)) := hown2.out.of_block fun k hk => HBV.out.block _ (hown2.out.lt k hk).2
          have hne7 : Hid (∀ g, _ = some g → g ≠ gV) := fun g hg => by have := (hown2.out.lt g hg).2; omega
          rw [hvs] at hstl HCV
          rw [hT] at hcapV ⊢
          simp only [hTi]
          clear hvs hT hTi HAPP g0 g1 g2 g3 g4 g5 HTK hfew
          go_loopg [4, 40] T (fun g v4 v40 wr3 => ∃ (k : Nat) (nm3 : List Ver), k + g = T ∧ v40 = .int .i64 k ∧ Hid (Below w.heap.size w wr3) ∧ Hid (BoxIn wr3 bb 109 [.int .i64 (first : Int), .slice aoP phis.length cpP, .slice (some ⟨gL, offL, none⟩) M cpL]) ∧ Hid (OwnS wr3 w.heap.size 111 2 v4 nm3.length (vers nm3)) ∧ nm3.length ≤ 8 + k ∧ Hid (nm3 = namedAll nm2 (vs.take k)) ∧ Hid (∀ j u, (vers vs)[j]? = some u → wr3.cell? ⟨gV, offV + j, none⟩ = some u) ∧ Hid (∀ g, v4.ownBlock = some g → g ≠ gV) ∧ gV < wr3.heap.size)
          case atStart => exact ⟨0, nm2, by omega, rfl, hbel2.out.trans (HBV.out.mono hs2), hbx.out.below HBV.out, HOWN7, by omega, rfl, HCV, hne7, hgV2⟩
          case round =>
            obtain ⟨k, nm3, hkg, rfl, hbel3, hbx3, hown3, hn3, hnm3, hcv3, hne3, hgV4⟩ := hrel
            have hs3 := hbel3.out.size
            by_cases hkT : k < T
            · have hltT : k < vs.length := by have := HT.out; omega
              obtain ⟨x, hx⟩ : ∃ x, vs[k] = x := ⟨_, rfl⟩
              have htk : Hid (namedAll nm2 (vs.take (k + 1)) = named nm3 x) := by
                show _ = _
                rw [List.take_add_one, List.getElem?_eq_getElem hltT, hx, hnm3.out]
                simp [namedAll]
              have x0 : wr.cell? ⟨gV, offV + k * 2, none⟩ = some (.string x.1) := hcv3.out _ _ (by rw [(vers_get hltT).1, hx])
              have x1 : wr.cell? ⟨gV, offV + k * 2 + 1, none⟩ = some (.int .i64 (x.2 : Int)) := by rw [Nat.add_assoc]; exact hcv3.out _ _ (by rw [(vers_get hltT).2, hx])
              obtain ⟨xa, xn⟩ := x
              simp only at x0 x1
              have hk1 : (0 : Int) ≤ (k : Int) := by omega
              have hk2 : (k : Int) < (T : Int) := by omega
              obtain ⟨ao4, cp4, rfl⟩ := hown3.out.len
              clear hx
              by_cases hz : xa.size = 0
              · have hz' : (ByteArray.toList xa == []) = true := by rw [toList_empty]; simp [hz]
                have hsame : Hid (nm3 = namedAll nm2 (vs.take (k + 1))) := by
                  show _ = _
                  rw [htk.out]
                  simp [named, hz]
                go_wp2_with fail
                go_roundg (T - (k + 1))
                case measure => omega
                case rel => exact ⟨k + 1, nm3, by omega, by go_num, hbel3.out.alloc hs3 _, hbx3.out.below ((Below.refl _ _).alloc (Nat.le_refl _) _), hown3.out.alloc _, by omega, hsame, (fun j u hj => (by rw [World.cell?_of_block (Below.heap_alloc wr _ _ hgV4)]; exact hcv3.out j u hj)), hne3, (by simp; omega)⟩
              · have hz' : (ByteArray.toList xa == []) = false := by rw [toList_empty]; simp [hz]
                have HCC : Hid (∀ W v7, RdT W 111 2 v7 nm3.length (vers nm3) → Calls Tryz.prog 84 #[v7, .agg #[.string xa, .int .i64 (xn : Int)]] W fun e w' => e = .returned (.bool (verHas nm3 (xa, xn))) ∧ Below W.heap.size W w') := fun W v7 h => contains_any W v7 nm3 (xa, xn) h (by omega)
                cases hcon : verHas nm3 (xa, xn) with
                | true =>
                  rw [hcon] at HCC
                  have hsame : Hid (nm3 = namedAll nm2 (vs.take (k + 1))) := by
                    show _ = _
                    rw [htk.out]
                    simp [named, hz, hcon]
                  go_wp2_with (first | (go_at_call 84; refine (HCC.out _ _ (hown3.out.alloc _).rdT).mono ?_; rintro e w5 ⟨rfl, hb5⟩; have hbb5 : Hid (Below wr.heap.size wr w5) := ((Below.refl _ _).alloc (Nat.le_refl _) _).trans (hb5.mono (by simp)); clear hb5))
                  go_roundg (T - (k + 1))
                  case measure => omega
                  case rel => exact ⟨k + 1, nm3, by omega, by go_num, hbel3.out.trans (hbb5.out.mono hs3), hbx3.out.below hbb5.out, hown3.out.of_block (fun k hk => hbb5.out.block _ (hown3.out.lt k hk).2), by omega, hsame, (fun j u hj => (by rw [World.cell?_of_block (hbb5.out.block _ hgV4)]; exact hcv3.out j u hj)), hne3, (by have := hbb5.out.size; omega)⟩
                | false =>
                  rw [hcon] at HCC
                  have hadd : Hid (nm3 ++ [(xa, xn)] = namedAll nm2 (vs.take (k + 1))) := by
                    show _ = _
                    rw [htk.out]
                    simp [named, hz, hcon]
                  obtain ⟨i0, hi, hz0, hz1, hz2⟩ := info_parts infoVersion
                  go_wp2_with (first
                    | (go_at_call 84; refine (HCC.out _ _ (hown3.out.alloc _).rdT).mono ?_; rintro e w5 ⟨rfl, hb5⟩; obtain ⟨p0, p1, -, -, -, -, -, hs5⟩ := var2_after hb5; have hbb5 : Hid (Below wr.heap.size wr w5) := ((Below.refl _ _).alloc (Nat.le_refl _) _).trans (hb5.mono (by simp)); have HO5 : Hid (OwnS w5 w.heap.size 111 2 (.slice ao4 nm3.length cp4) nm3.length (vers nm3)) := hown3.out.of_block (fun k hk => hbb5.out.block _ (hown3.out.lt k hk).2); clear hb5)
                    | (at_builtin; refine wpList_append_ownS _ rfl _ _ 49 rfl w.heap.size 111 i0 _ 2 24 Tryz.underlying49 hi hz0 hz1 hz2 rfl (by decide) _ _ _ rfl (HO5.out.alloc _) ⟨w5.heap.size, 0, none⟩ 1 1 [.string xa, .int .i64 (xn : Int)] rfl rfl (cell_newL _ [_, _] _ _ rfl) (one2 rfl rfl) (by decide) (by unfold maxLen; omega) (by omega) (by simp; omega) ?_; intro g' off' cap' w8 hown8 hgrow8 hloc8 hlt8))
                  go_roundg (T - (k + 1))
                  case measure => omega
                  case rel =>
                    have hgB8 : ∀ q, q < w5.heap.size → (Value.slice ao4 nm3.length cp4).ownBlock ≠ some q → w8.heap[q]? = w5.heap[q]? := fun q hq hne => (hgrow8.block q (by simp; omega) (Ne.symm hne)).trans (Below.heap_alloc _ _ _ hq)
                    have hbw := grown_below HO5.out hgrow8 (by omega)
                    refine ⟨k + 1, nm3 ++ [(xa, xn)], by omega, by go_num, (hbel3.out.trans (hbb5.out.mono hs3)).trans hbw, ?_, ?_, (by simp; omega), hadd, ?_, ?_, ?_⟩
                    · exact grown_box HO5.out hgrow8 (hbx3.out.below hbb5.out) (by decide)
                    · show OwnS _ _ _ _ _ _ _
                      rw [vers_append, List.length_append]
                      exact hown8
                    · intro j u hj
                      have h5 : w5.cell? ⟨gV, offV + j, none⟩ = some u := by rw [World.cell?_of_block (hbb5.out.block _ hgV4)]; exact hcv3.out j u hj
                      rw [World.cell?_of_block (hgB8 gV (by omega) (fun e => hne3.out gV e rfl))]
                      exact h5
                    · intro q hq e
                      subst e
                      rcases hloc8 with h | h
                      · injection hq with hq
                        have hq' : g' = q := hq
                        rw [hq'] at h
                        exact hne3.out q h rfl
                      · injection hq with hq
                        have hq' : g' = q := hq
                        simp at h
                        omega
                    · have := hbw.size
                      omega
            · have hk9 : k = T := by omega
              have hall : Hid (nm3 = namedAll nm2 vs) := by
                show _ = _
                rw [hnm3.out, List.take_of_length_le (by have := HT.out; omega)]
              by_cases h8 : 8 < nm3.length
              · have h8' : (8 : Int) < (nm3.length : Int) := by omega
                have hfound : Hid (crowdG A (B.map BV.g) = some (first + phis.length + i)) := by
                  show _ = _
                  have : crowdB bg nm 0 bg.lines = .inl (first + phis.length + i) := by
                    rw [hstl.out, if_pos (by rw [← hall.out]; exact h8), HBG.out.1, HBG.out.2.1]
                  rw [hst.out, this]
                have HLA : Hid (∀ W, Below wr.heap.size wr W → Calls Tryz.prog 85 #[.pointer (some ⟨bb, 0, none⟩), .int .i64 (i : Int)] W fun e w' => e = .returned (.int .i64 ((first + phis.length + i : Nat) : Int)) ∧ ∃ n, w' = W.drewN n) := fun W hW => lineAt_any W bb first phis.length i aoP cpP _ (hbx3.out.below hW) f1 f2 (by omega)
                obtain ⟨ao4, cp4, rfl⟩ := hown3.out.len
                subst hk9
                go_wp2_with (first | (go_at_call 85; refine (HLA.out _ (Below.refl _ _)).mono ?_; rintro e w5 ⟨rfl, n5, rfl⟩))
                go_ret2
                exact ⟨⟨first + phis.length + i, by rw [hfound.out]; rfl, fun k h => by rw [hfound.out] at h; injection h⟩, below_drewN hbel3.out _⟩
              · have h8' : (nm3.length : Int) ≤ (8 : Int) := by omega
                have hnext : Hid (crowdB bg nm 0 bg.lines = crowdB bg nm3 (i + 1) ((lns.drop (i + 1)).map (·.l))) := by
                  show _ = _
                  rw [hstl.out, if_neg (by rw [← hall.out]; exact h8), ← hall.out]
                obtain ⟨ao4, cp4, rfl⟩ := hown3.out.len
                subst hk9
                go_wp2_with fail
                go_roundg (M - (i + 1))
                case measure => omega
                case rel => exact ⟨i + 1, nm3, by omega, by go_num, hbel3, hbx3, hown3, by omega, hnext⟩
        · have hend : Hid (crowdG A (B.map BV.g) = crowdG nm2 ((B.drop (j + 1)).map BV.g)) := by
            show _ = _
            have : crowdB bg nm 0 bg.lines = .inr nm2 := by
              rw [hlb.out, List.drop_eq_nil_of_le (by have := HM.out; omega)]
              rfl
            rw [hst.out, this]
          go_wp2_with fail
          go_roundg (N - (j + 1))
          case measure => omega
          case rel => exact ⟨j + 1, nm2, by omega, by go_num, hbel2, hown2, hnm2, hend⟩
    · have hend : Hid (crowdG A (B.map BV.g) = none) := by
        show _ = _
        rw [hcrowd.out, List.drop_eq_nil_of_le (by have := HNN.out; omega)]
        rfl
      go_wp2_with fail
      go_ret2
      exact ⟨⟨0, by rw [hend.out]; rfl, fun k h => by rw [hend.out] at h; cases h⟩, hbel.out⟩

end Go.Proofs.YtbddcodljmglfaaGreatDoor
