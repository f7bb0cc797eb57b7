/- A phi's version for a block; the phis of a block met. And what follows on it. -/
import Derived.Test.YtbddcodljmglfaaGreatDoorEX1
import Derived.Test.YtbddcodljmglfaaGreatDoorRunB
import Derived.Test.YtbddcodljmglfaaGreatDoorStrayA
import Derived.Deep.RegionHeld3
import Derived.Deep.RegionWith
set_option linter.unusedSimpArgs false
set_option linter.unusedVariables false
namespace Go.Proofs.YtbddcodljmglfaaGreatDoor
open Go.RowKit

theorem BoxIn.new2 (w : World) (o : Obj) (t : TypeId) (cs : List Value) : BoxIn ((w.alloc o).alloc (.cells cs.toArray t)) (w.heap.size + 1) t cs := by
  have := BoxIn.new (w.alloc o) t cs
  simpa using this

set_option maxRecDepth 100000 in
set_option maxHeartbeats 4000000 in
theorem ptaken_any (w : World) (x : PV) (h : x.ok w) (fr : Nat) (hfr : fr ≤ 1000000) :
    Calls Tryz.prog 131 #[.agg x.cells.toArray, .int .i64 (fr : Int)] w fun e w' => e = .returned (.agg #[.string (takenP x.p fr).1, .int .i64 ((takenP x.p fr).2 : Int)]) ∧ Below w.heap.size w w' := by
  obtain ⟨ph, cv⟩ := x
  obtain ⟨h1, h41⟩ := h
  simp only at h1 h41
  obtain ⟨aoC, cpC, rfl⟩ := h1.form
  have HCC : Hid (RdT w 163 3 (.slice aoC ph.choices.length cpC) ph.choices.length (choiceCells ph.choices)) := h1
  obtain ⟨C, hC⟩ : ∃ C, C = ph.choices.length := ⟨_, rfl⟩
  have HC' : Hid (C = ph.choices.length) := hC
  unfold PV.cells
  simp only
  rw [← hC] at HCC h41 ⊢
  clear h1 hC
  go_enter Tryz.func131, Tryz.ntmps131
  go_wp2_with fail
  go_loopg [10] C (fun g v10 wr => ∃ k : Nat, k + g = C ∧ v10 = .int .i64 k ∧ Hid (Below w.heap.size w wr) ∧ Hid (BoxIn wr (w.heap.size + 1) 111 [.string ⟨#[]⟩, .int .i64 0]) ∧ Hid (takenP ph fr = match (ph.choices.drop k).find? (fun c => decide (c.1 = fr)) with | some c => c.2 | none => noVer))
  case atStart => exact ⟨0, by omega, rfl, ((Below.refl _ _).alloc (Nat.le_refl _) _).alloc (by simp) _, BoxIn.new2 _ _ _ _, (by show _ = _; rfl)⟩
  case round =>
    obtain ⟨k, hkg, rfl, hbel, hbx, htk⟩ := hrel
    have hs := hbel.out.size
    by_cases hkC : k < C
    · have hltC : k < ph.choices.length := HC'.out ▸ hkC
      obtain ⟨c, hcc⟩ : ∃ c, ph.choices[k] = c := ⟨_, rfl⟩
      obtain ⟨gC, offC, rfl, hgC, hcellC⟩ := HCC.out.at (by omega)
      have d0 : wr.cell? ⟨gC, offC + k * 3, none⟩ = some (.int .i64 (c.1 : Int)) := (hbel.out.cell (p := ⟨gC, offC + k * 3, none⟩) hgC).trans (hcellC (k * 3 + 0) _ (by rw [choice_get hltC (by omega), hcc]; rfl))
      have d1 : wr.cell? ⟨gC, offC + k * 3 + 1, none⟩ = some (.string c.2.1) := (hbel.out.cell (p := ⟨gC, offC + k * 3 + 1, none⟩) hgC).trans (by rw [Nat.add_assoc]; exact hcellC (k * 3 + 1) _ (by rw [choice_get hltC (by omega), hcc]; rfl))
      have d2 : wr.cell? ⟨gC, offC + k * 3 + 2, none⟩ = some (.int .i64 (c.2.2 : Int)) := (hbel.out.cell (p := ⟨gC, offC + k * 3 + 2, none⟩) hgC).trans (by rw [Nat.add_assoc]; exact hcellC (k * 3 + 2) _ (by rw [choice_get hltC (by omega), hcc]; rfl))
      have hk1 : (0 : Int) ≤ (k : Int) := by omega
      have hk2 : (k : Int) < (C : Int) := by omega
      have hd : ph.choices.drop k = c :: ph.choices.drop (k + 1) := by rw [List.drop_eq_getElem_cons hltC, hcc]
      have hbelA : Hid (Below w.heap.size w (wr.alloc (.cells #[.int .i64 (c.1 : Int), .string c.2.1, .int .i64 (c.2.2 : Int)] 163))) := hbel.out.alloc hs _
      have hbxA : Hid (BoxIn (wr.alloc (.cells #[.int .i64 (c.1 : Int), .string c.2.1, .int .i64 (c.2.2 : Int)] 163)) (w.heap.size + 1) 111 [.string ⟨#[]⟩, .int .i64 0]) := hbx.out.below ((Below.refl _ _).alloc (Nat.le_refl _) _)
      have hXB := BoxIn.new wr 163 [.int .i64 (c.1 : Int), .string c.2.1, .int .i64 (c.2.2 : Int)]
      have b0 := BoxIn.cell hXB (k := 0) rfl
      have b1 := BoxIn.cell hXB (k := 1) rfl
      have b2 := BoxIn.cell hXB (k := 2) rfl
      by_cases hcf : c.1 = fr
      · have hq : ((c.1 : Int) == (fr : Int)) = true := by simp [hcf]
        have HE : Hid (takenP ph fr = c.2) := by
          show _ = _
          rw [htk.out, hd, List.find?_cons, decide_eq_true hcf]
        clear htk hd hcc hcellC hXB hcf
        go_wp2_with (first | (refine wpList_store_box aggVersion rfl _ _ rfl _ rfl _ [.string c.2.1, .int .i64 (c.2.2 : Int)] rfl hbxA.out rfl rfl (by simp [Value.oneCell']) ?_; intro w8 hb8 hg8 hs8))
        try rw [Exit.noGoto_ret]
        refine bodyPost_ret (results_box1 aggVersion Tryz.results131 rfl rfl hb8) rfl ?_
        refine ⟨by rw [HE.out], hbelA.out.trans (hg8.below (by have := hbelA.out.size; omega) (fun q hq => by omega))⟩
      · have hq : ((c.1 : Int) == (fr : Int)) = false := by simp; omega
        have HE : Hid (takenP ph fr = match (ph.choices.drop (k + 1)).find? (fun c => decide (c.1 = fr)) with | some c => c.2 | none => noVer) := by
          show _ = _
          rw [htk.out, hd, List.find?_cons, decide_eq_false hcf]
        clear htk hd hcc hcellC hXB hcf
        go_wp2_with fail
        go_roundg (C - (k + 1))
        case measure => omega
        case rel => exact ⟨k + 1, by omega, by go_num, hbelA, hbxA, HE⟩
    · have hkC' : ¬ (k : Int) < (C : Int) := by omega
      have HE : Hid (takenP ph fr = noVer) := by
        show _ = _
        rw [htk.out, List.drop_of_length_le (by have := HC'.out; omega)]
        rfl
      clear htk
      go_wp2_with (first | (refine wpList_store_box aggVersion rfl _ _ rfl _ rfl _ [.string ⟨#[]⟩, .int .i64 0] rfl hbx.out rfl rfl (by simp [Value.oneCell']) ?_; intro w8 hb8 hg8 hs8))
      try rw [Exit.noGoto_ret]
      refine bodyPost_ret (results_box1 aggVersion Tryz.results131 rfl rfl hb8) rfl ?_
      refine ⟨by rw [HE.out]; rfl, hbel.out.trans (hg8.below (by have := hbel.out.size; omega) (fun q hq => by omega))⟩

end Go.Proofs.YtbddcodljmglfaaGreatDoor

namespace Go.Proofs.YtbddcodljmglfaaGreatDoor
open Go.RowKit

theorem makeNums0 (n : Nat) (hn : n ≤ 10000000) (w : World) :
    (Instr.makeSlice 24 (.int .i64 (n : Int)) (.int .i64 (n : Int))).run Tryz.prog w = .ok (.slice (some ⟨w.heap.size, 0, none⟩) n n) (w.alloc (.cells (List.replicate n (Value.int .i64 0)).toArray 2)) := by
  obtain ⟨i, hi, hz0, hz1, hz2⟩ := info_parts infoInt64
  have hr := run_make (P := Tryz.prog) w 24 2 i _ Tryz.underlying24 hi hz0 .i64 .i64 (n : Int) (n : Int) (by omega) (Int.le_refl _) (by rw [hz2]; omega) (by omega)
  rw [hr]
  have e0 : ((n : Int)).toNat = n := by omega
  have e1 : madeCells (Value.cells (.int .i64 0)) (((n : Int)).toNat * i.size) = (List.replicate n (Value.int .i64 0)).toArray := by
    apply Array.toList_inj.1
    rw [hz1, e0, Nat.mul_one, show Value.cells (.int .i64 0) = #[.int .i64 0] from rfl, toList_madeCells_one]
  rw [e1, e0]

theorem Grew.of_below {w w' : World} {P : Nat → Prop} (h : Below w.heap.size w w') : Grew w w' P := ⟨h.os, h.tape, h.output, h.size, fun k _ hk => h.block k hk⟩
theorem Grew.trans {w w' w'' : World} {P : Nat → Prop} (h : Grew w w' P) (h' : Grew w' w'' P) : Grew w w'' P := ⟨h'.os.trans h.os, h'.tape.trans h.tape, h'.output.trans h.output, Nat.le_trans h.size h'.size, fun k hk hs => (h'.block k hk (Nat.lt_of_lt_of_le hs h.size)).trans (h.block k hk hs)⟩
theorem VMap.notcells {w : World} {m : Nat} {V : List (Ver × Int)} (h : VMap w m V) {k : Nat} {c : Array Value} {t : TypeId} {f : Nat × Nat} (hk : w.heap[k]? = some (.cells c t f)) : k ≠ m := by
  rintro rfl
  obtain ⟨es, c', hm, -⟩ := h
  rw [hm] at hk
  cases hk
/-- A cell of a row, while a map turns. -/
theorem Grew.cell {w w' : World} {m : Nat} {V : List (Ver × Int)} (h : Grew w w' (fun k => k = m)) (hV : VMap w m V) {p : Addr} {u : Value} (hc : w.cell? p = some u) : w'.cell? p = some u := by
  have hlt := World.block_lt_of_cell? w p hc
  have hne : p.block ≠ m := by
    intro e
    obtain ⟨es, c', hm, -⟩ := hV
    unfold World.cell? at hc
    rw [e, hm] at hc
    simp at hc
  rw [← hc]
  exact World.cell?_of_block (h.block p.block hne hlt)
theorem ints_set (l : List Int) (r : List Value) (z : Int) (u : Value) : (ints l ++ u :: r).set l.length (.int .i64 z) = ints (l ++ [z]) ++ r := by
  unfold ints
  rw [List.set_append_right _ _ (by simp)]
  simp

set_option maxRecDepth 100000 in
set_option maxHeartbeats 8000000 in
theorem meet_any (w : World) (m : Nat) (V : List (Ver × Int)) (pv : Value) (ps : List PV) (fr : Nat) (hV : VMap w m V) (hp : RdT w 114 3 pv ps.length (cellsP ps)) (hok : ∀ x ∈ ps, x.ok w) (hl : ps.length ≤ 1000) (hfr : fr ≤ 1000000) :
    Calls Tryz.prog 90 #[.map (some m), pv, .int .i64 (fr : Int)] w fun e w' => e = .returned (.tuple #[]) ∧ VMap w' m (meetG V (ps.map (·.p)) fr) ∧ Grew w w' (fun k => k = m) := by
  have HV : Hid (VMap w m V) := hV
  have HOK : Hid (∀ x ∈ ps, x.ok w) := hok
  obtain ⟨aoP, cpP, rfl⟩ := hp.form
  obtain ⟨N, hN⟩ : ∃ N, N = ps.length := ⟨_, rfl⟩
  have HN : Hid (N = ps.length) := hN
  rw [← hN] at hp hl ⊢
  have HP : Hid (RdT w 114 3 (.slice aoP N cpP) N (cellsP ps)) := hp
  have hmk := makeNums0 N (by omega) w
  have HTK : Hid (∀ W (x : PV), Below w.heap.size w W → x ∈ ps → Calls Tryz.prog 131 #[.agg #[.string x.p.sets.1, .int .i64 (x.p.sets.2 : Int), x.cv], .int .i64 (fr : Int)] W fun e w' => e = .returned (.agg #[.string (takenP x.p fr).1, .int .i64 ((takenP x.p fr).2 : Int)]) ∧ Below W.heap.size W w') := fun W x hb hx => ptaken_any W x ((hok x hx).keep (Keeps.of_below hb)) fr hfr
  obtain ⟨vs, hvs⟩ : ∃ vs, vs = ps.map (fun x => getV V (takenP x.p fr)) := ⟨_, rfl⟩
  have HVS : Hid (vs = ps.map (fun x => getV V (takenP x.p fr))) := hvs
  have HVL : Hid (vs.length = N) := by show _ = _; rw [hvs, hN]; simp
  have HMG : Hid (meetG V (ps.map (·.p)) fr = putAll V ((ps.map (fun x => x.p.sets)).zip vs)) := by
    show _ = _
    unfold meetG
    rw [hvs, List.map_map, List.zip_map']
    rfl
  clear hV hp hok hN hvs
  go_enter Tryz.func90, Tryz.ntmps90
  go_wp2_with fail
  have htk0 : BoxIn (w.alloc (.cells (List.replicate N (Value.int .i64 0)).toArray 2)) w.heap.size 2 (List.replicate N (Value.int .i64 0)) := BoxIn.new w 2 _
  have HT0 : Hid (BoxIn (w.alloc (.cells (List.replicate N (Value.int .i64 0)).toArray 2)) w.heap.size 2 (List.replicate N (Value.int .i64 0))) := htk0
  clear htk0 hmk
  go_loopg [16] N (fun g v16 wr => ∃ k : Nat, k + g = N ∧ v16 = .int .i64 k ∧ Hid (Below w.heap.size w wr) ∧ Hid (BoxIn wr w.heap.size 2 (ints (vs.take k) ++ List.replicate (N - k) (Value.int .i64 0))))
  case atStart => exact ⟨0, by omega, rfl, (Below.refl _ _).alloc (Nat.le_refl _) _, (by show BoxIn _ _ _ _; simpa [ints] using HT0.out)⟩
  case round =>
    obtain ⟨k, hkg, rfl, hbel, hbx⟩ := hrel
    clear HT0
    have hs := hbel.out.size
    by_cases hkN : k < N
    · have hlt : k < ps.length := HN.out ▸ hkN
      obtain ⟨x, hx⟩ : ∃ x, ps[k] = x := ⟨_, rfl⟩
      have hxm : x ∈ ps := by rw [← hx]; exact List.getElem_mem hlt
      have hxo := HOK.out x hxm
      have HTX : Hid (∀ W, Below w.heap.size w W → Calls Tryz.prog 131 #[.agg #[.string x.p.sets.1, .int .i64 (x.p.sets.2 : Int), x.cv], .int .i64 (fr : Int)] W fun e w' => e = .returned (.agg #[.string (takenP x.p fr).1, .int .i64 ((takenP x.p fr).2 : Int)]) ∧ Below W.heap.size W w') := fun W hb => HTK.out W x hb hxm
      have hvk : vs[k]? = some (getV V (takenP x.p fr)) := by rw [HVS.out, List.getElem?_map, List.getElem?_eq_getElem hlt, hx]; rfl
      obtain ⟨gP, offP, rfl, hgP, hcellP⟩ := HP.out.at (by omega)
      have hc : ∀ t, t < 3 → ∀ u, x.cells[t]? = some u → wr.cell? ⟨gP, offP + k * 3 + t, none⟩ = some u := fun t ht u hu => (hbel.out.cell (p := ⟨gP, offP + k * 3 + t, none⟩) hgP).trans (by rw [Nat.add_assoc]; exact hcellP (k * 3 + t) u (by rw [cellsP_get hlt ht, hx]; exact hu))
      obtain ⟨ph, cv⟩ := x
      obtain ⟨aoC, cpC, hcv⟩ := hxo.1.form
      simp only at hcv
      subst hcv
      have g0 := hc 0 (by omega) _ rfl
      have g1 := hc 1 (by omega) _ rfl
      have g2 := hc 2 (by omega) _ rfl
      rw [Nat.add_zero] at g0
      simp only at g0 g1 g2 HTX hvk
      have hk1 : (0 : Int) ≤ (k : Int) := by omega
      have hk2 : (k : Int) < (N : Int) := by omega
      generalize takenP ph fr = tp at *
      generalize hC : ph.choices.length = C at *
      obtain ⟨z, hz⟩ : ∃ z, z = getV V tp := ⟨_, rfl⟩
      rw [← hz] at hvk
      have HLK : Hid (∀ W, Below w.heap.size w W → (Instr.lookup 139 (.map (some m)) (.agg #[.string tp.1, .int .i64 (tp.2 : Int)]) false).run Tryz.prog W = .ok (.int .i64 z) W) := fun W hb => by rw [hz]; exact (HV.out.below hb).lookup tp
      have HT1 : Hid (vs.take (k + 1) = vs.take k ++ [z]) := by show _ = _; rw [List.take_add_one, hvk]; rfl
      have hvl : (vs.take k).length = k := by have := HVL.out; rw [List.length_take]; omega
      have HBB : Hid (BoxIn wr w.heap.size 2 (ints (vs.take k) ++ Value.int .i64 0 :: List.replicate (N - (k + 1)) (Value.int .i64 0))) := by
        have := hbx.out
        rw [show N - k = (N - (k + 1)) + 1 by omega, List.replicate_succ] at this
        exact this
      have HSET : Hid (∀ W, BoxIn W w.heap.size 2 (ints (vs.take k) ++ Value.int .i64 0 :: List.replicate (N - (k + 1)) (Value.int .i64 0)) → BoxIn (W.setCell ⟨w.heap.size, k, none⟩ (.int .i64 z)) w.heap.size 2 (ints (vs.take (k + 1)) ++ List.replicate (N - (k + 1)) (Value.int .i64 0))) := fun W hW => by
        have := BoxIn.set (i := k) (u := .int .i64 z) hW
        have e := ints_set (vs.take k) (List.replicate (N - (k + 1)) (Value.int .i64 0)) z (.int .i64 0)
        rw [hvl] at e
        rw [e, ← HT1.out] at this
        exact this
      have HCK : Hid (∀ W, BoxIn W w.heap.size 2 (ints (vs.take k) ++ Value.int .i64 0 :: List.replicate (N - (k + 1)) (Value.int .i64 0)) → W.cell? ⟨w.heap.size, k, none⟩ = some (.int .i64 0) ∧ W.frozen? ⟨w.heap.size, k, none⟩ = false) := fun W hW => ⟨hW.cell (by rw [List.getElem?_append_right (by rw [ints, List.length_map, hvl]; exact Nat.le_refl _), ints, List.length_map, hvl, Nat.sub_self]; rfl), hW.frozen k⟩
      have hXB := BoxIn.new wr 114 [.string ph.sets.1, .int .i64 (ph.sets.2 : Int), .slice aoC C cpC]
      have HBA : Hid (BoxIn (wr.alloc (.cells #[.string ph.sets.1, .int .i64 (ph.sets.2 : Int), .slice aoC C cpC] 114)) w.heap.size 2 (ints (vs.take k) ++ Value.int .i64 0 :: List.replicate (N - (k + 1)) (Value.int .i64 0))) := HBB.out.below ((Below.refl _ _).alloc (Nat.le_refl _) _)
      have hbelA : Hid (Below w.heap.size w (wr.alloc (.cells #[.string ph.sets.1, .int .i64 (ph.sets.2 : Int), .slice aoC C cpC] 114))) := hbel.out.alloc hs _
      have b0 := BoxIn.cell hXB (k := 0) rfl
      have b1 := BoxIn.cell hXB (k := 1) rfl
      have b2 := BoxIn.cell hXB (k := 2) rfl
      clear hc hcellP hxm hxo hvk hz hbx hC hXB HTK HOK hx
      go_wp2_with (first
        | (go_at_call 131; refine Calls.mono (HTX.out _ hbelA.out) ?_; rintro e w5 ⟨rfl, hb5⟩; have HB5 : Hid (Below w.heap.size w w5) := hbelA.out.trans (hb5.mono hbelA.out.size); have HX5 : Hid (BoxIn w5 w.heap.size 2 (ints (vs.take k) ++ Value.int .i64 0 :: List.replicate (N - (k + 1)) (Value.int .i64 0))) := HBA.out.below hb5; have hlk := HLK.out w5 HB5.out; obtain ⟨ck, fk⟩ := HCK.out w5 HX5.out; clear hb5))
      go_roundg (N - (k + 1))
      case measure => omega
      case rel => exact ⟨k + 1, by omega, by go_num, HB5.out.setCell (Nat.le_refl _) _, HSET.out _ HX5.out⟩
    · have hkN' : ¬ (k : Int) < (N : Int) := by omega
      have HBX : Hid (BoxIn wr w.heap.size 2 (ints vs)) := by
        have h1 := hbx.out
        have h2 := HVL.out
        rw [List.take_of_length_le (by omega), show N - k = 0 by omega, List.replicate_zero, List.append_nil] at h1
        exact h1
      have HG0 : Hid (Grew w wr (fun q => q = m)) := Grew.of_below hbel.out
      have HV0 : Hid (VMap wr m V) := HV.out.below hbel.out
      have HW0 : Hid (w.heap.size < wr.heap.size) := HBX.out.lt
      clear hbx hbel hs
      go_wp2_with fail
      go_loopg [32] N (fun g v32 wr => ∃ k : Nat, k + g = N ∧ v32 = .int .i64 k ∧ Hid (Grew w wr (fun q => q = m)) ∧ Hid (VMap wr m (putAll V (((ps.map (fun x => x.p.sets)).zip vs).take k))) ∧ Hid (BoxIn wr w.heap.size 2 (ints vs)))
      case atStart => exact ⟨0, by omega, rfl, HG0.out, HV0.out, HBX.out⟩
      case round =>
        obtain ⟨k2, hkg2, rfl, hgr, hvm, hbx2⟩ := hrel
        clear HG0 HV0 HBX
        by_cases hkN2 : k2 < N
        · have hlt : k2 < ps.length := HN.out ▸ hkN2
          obtain ⟨x, hx⟩ : ∃ x, ps[k2] = x := ⟨_, rfl⟩
          have hxm : x ∈ ps := by rw [← hx]; exact List.getElem_mem hlt
          have hxo := HOK.out x hxm
          obtain ⟨gP, offP, rfl, hgP, hcellP⟩ := HP.out.at (by omega)
          have hc : ∀ t, t < 3 → ∀ u, x.cells[t]? = some u → wr.cell? ⟨gP, offP + k2 * 3 + t, none⟩ = some u := fun t ht u hu => hgr.out.cell HV.out (by rw [Nat.add_assoc]; exact hcellP (k2 * 3 + t) u (by rw [cellsP_get hlt ht, hx]; exact hu))
          obtain ⟨z, hz⟩ : ∃ z, vs[k2]? = some z := ⟨_, List.getElem?_eq_getElem (by have := HVL.out; omega)⟩
          have HZIP : Hid (putAll V (((ps.map (fun x => x.p.sets)).zip vs).take (k2 + 1)) = putV (putAll V (((ps.map (fun x => x.p.sets)).zip vs).take k2)) x.p.sets z) := by
            show _ = _
            have : ((ps.map (fun x => x.p.sets)).zip vs)[k2]? = some (x.p.sets, z) := by
              rw [List.getElem?_zip_eq_some]
              exact ⟨by rw [List.getElem?_map, List.getElem?_eq_getElem hlt, hx]; rfl, hz⟩
            rw [List.take_add_one, this]
            unfold putAll
            rw [List.foldl_append]
            rfl
          have cz : wr.cell? ⟨w.heap.size, k2, none⟩ = some (.int .i64 z) := hbx2.out.cell (by simp [ints, hz])
          obtain ⟨ph, cv⟩ := x
          obtain ⟨aoC, cpC, hcv⟩ := hxo.1.form
          simp only at hcv HZIP
          subst hcv
          have g0 := hc 0 (by omega) _ rfl
          have g1 := hc 1 (by omega) _ rfl
          have g2 := hc 2 (by omega) _ rfl
          rw [Nat.add_zero] at g0
          simp only at g0 g1 g2
          have hk1 : (0 : Int) ≤ (k2 : Int) := by omega
          have hk2 : (k2 : Int) < (N : Int) := by omega
          generalize hC : ph.choices.length = C at *
          generalize putAll V (((ps.map (fun x => x.p.sets)).zip vs).take k2) = V2 at *
          have hXB := BoxIn.new wr 114 [.string ph.sets.1, .int .i64 (ph.sets.2 : Int), .slice aoC C cpC]
          have b0 := BoxIn.cell hXB (k := 0) rfl
          have b1 := BoxIn.cell hXB (k := 1) rfl
          have b2 := BoxIn.cell hXB (k := 2) rfl
          have bz : (wr.alloc (.cells #[.string ph.sets.1, .int .i64 (ph.sets.2 : Int), .slice aoC C cpC] 114)).cell? ⟨w.heap.size, k2, none⟩ = some (.int .i64 z) := (hbx2.out.below ((Below.refl _ _).alloc (Nat.le_refl _) _)).cell (by simp [ints, hz])
          have hmlt := hvm.out.lt
          have hwlt : w.heap.size < wr.heap.size := hbx2.out.lt
          have hne : w.heap.size ≠ m := hvm.out.notcells hbx2.out
          obtain ⟨w9, hup, hv9, ho9, hs9, hos9, htp9, hou9⟩ := ((hvm.out.below (w' := wr.alloc (.cells #[.string ph.sets.1, .int .i64 (ph.sets.2 : Int), .slice aoC C cpC] 114)) ((Below.refl _ _).alloc (Nat.le_refl _) _)).of_block (w' := (wr.alloc (.cells #[.string ph.sets.1, .int .i64 (ph.sets.2 : Int), .slice aoC C cpC] 114)).drew) rfl).update ph.sets z
          unfold vkey at hup
          have HV9 : Hid (VMap w9 m (putV V2 ph.sets z)) := hv9
          have HG9 : Hid (Grew w w9 (fun q => q = m)) := hgr.out.trans ((Grew.of_below ((Below.refl _ _).alloc (Nat.le_refl _) _)).trans ⟨hos9, htp9, hou9, Nat.le_of_eq hs9.symm, fun q hq _ => ho9 q hq⟩)
          have HX9 : Hid (BoxIn w9 w.heap.size 2 (ints vs)) := (hbx2.out.below ((Below.refl _ _).alloc (Nat.le_refl _) _)).of_block (ho9 _ hne)
          have HS9 : Hid (w9.cell? ⟨wr.heap.size, 0, none⟩ = some (.string ph.sets.1) ∧ w9.cell? ⟨wr.heap.size, 1, none⟩ = some (.int .i64 (ph.sets.2 : Int)) ∧ w9.cell? ⟨w.heap.size, k2, none⟩ = some (.int .i64 z)) := ⟨(World.cell?_of_block (ho9 _ (by show wr.heap.size ≠ m; omega))).trans b0, (World.cell?_of_block (ho9 _ (by show wr.heap.size ≠ m; omega))).trans b1, (World.cell?_of_block (ho9 _ hne)).trans bz⟩
          clear hc hcellP hxm hxo hz hC hx hv9 ho9 hs9 hos9 htp9 hou9
          go_wp2_with fail
          go_region_held3 (fun w' => w'.cell? ⟨wr.heap.size, 0, none⟩ = some (.string ph.sets.1) ∧ w'.cell? ⟨wr.heap.size, 1, none⟩ = some (.int .i64 (ph.sets.2 : Int)) ∧ w'.cell? ⟨w.heap.size, k2, none⟩ = some (.int .i64 z)) (first | exact HS9.out | exact ⟨b0, b1, bz⟩ | go_keep) (fail)
          go_wp2_with fail
          go_roundg (N - (k2 + 1))
          case measure => omega
          case rel => exact ⟨k2 + 1, by omega, by go_num, HG9, (by rw [HZIP.out]; exact HV9), HX9⟩
        · have hkN3 : ¬ (k2 : Int) < (N : Int) := by omega
          have HFIN : Hid (VMap wr m (meetG V (ps.map (·.p)) fr)) := by
            show VMap _ _ _
            have h1 := hvm.out
            have h2 := HVL.out
            rw [HMG.out]
            rw [List.take_of_length_le (by rw [List.length_zip]; simp; omega)] at h1
            exact h1
          clear hvm
          go_wp2_with fail
          go_end0
          exact ⟨rfl, HFIN.out, hgr.out⟩

end Go.Proofs.YtbddcodljmglfaaGreatDoor
