/- Meets: where ways meet. -/
import Derived.Test.YtbddcodljmglfaaMeetMath
import Derived.Deep.RegionHeld3
set_option linter.unusedSimpArgs false
set_option linter.unusedVariables false
namespace Go.Proofs.Ytbddcodljmglfaa
open Go.RowKit

theorem nums_get' {l : List Nat} {k : Nat} (h : k < l.length) : (nums l)[k]? = some (.int .i64 ((l[k] : Nat) : Int)) := by simp [nums, h]

theorem rd_bits {w : World} {g : Nat} {l : List Bool} {t : TypeId} {c : Nat} (h : w.heap[g]? = some (.cells (bits l).toArray t (0, 0))) : RdS w 1 (.slice (some ⟨g, 0, none⟩) l.length c) l.length (bits l) := by
  refine ⟨by simp [bits], _, _, rfl, .inr ⟨g, 0, rfl, fun j u hj => ?_⟩⟩
  simp [World.cell?, h, hj]

/-- Meets under way: w1 the world ahead, gm the block of the nodes met, v those that wait. -/
structure MtIn (w1 wr : World) (gm base : Nat) (vs vt v : Value) (s : List Bool × List Nat) : Prop where
  own : OwnS wr base 3 1 v s.2.length (nums s.2)
  met : wr.heap[gm]? = some (.cells (bits s.1).toArray 4 (0, 0))
  box : wr.heap[w1.heap.size]? = some (.cells #[vs, vt] 103 (0, 0))
  bel : Below w1.heap.size w1 wr
  o1 : w1.heap.size < gm
  o2 : gm < base
  bB : base ≤ wr.heap.size

theorem MtIn.below {w1 wr wx : World} {gm base : Nat} {vs vt v : Value} {s : List Bool × List Nat} (h : MtIn w1 wr gm base vs vt v s) (hb : Below wr.heap.size wr wx) : MtIn w1 wx gm base vs vt v s := by
  have h1 := h.o1
  have h2 := h.o2
  have h3 := h.bB
  exact ⟨h.own.of_block fun k hk => hb.block k (h.own.lt k hk).2, (hb.block _ (by omega)).trans h.met, (hb.block _ (by omega)).trans h.box, h.bel.trans (hb.mono h.bel.size), h1, h2, Nat.le_trans h3 hb.size⟩

/-- The list of an edge, that lies apart from what is written. -/
structure EdIn (wx : World) (gm : Nat) (v v47 : Value) (E : List Nat) : Prop where
  rd : OwnS wx (gm + 1) 3 1 v47 E.length (nums E)
  ne : ∀ g, v47.ownBlock = some g → v.ownBlock ≠ some g

theorem MtIn.push {w1 wr w3 : World} {gm base : Nat} {vs vt v v47 : Value} {s : List Bool × List Nat} {E : List Nat} {a g' off' cap' : Nat} {o : Obj} (h : MtIn w1 wr gm base vs vt v s) (he : EdIn wr gm v v47 E) (ha : a < s.1.length) (hs : s.1.getD a false = false)
    (hown : OwnS w3 base 3 1 (.slice (some ⟨g', off', none⟩) (s.2.length + 1) cap') (s.2.length + 1) (nums s.2 ++ [.int .i64 (a : Int)])) (hgrow : ((wr.setCell ⟨gm, a, none⟩ (.bool true)).alloc o).grownBy w3 v.ownBlock)
    (hloc : v.ownBlock = some g' ∨ g' = ((wr.setCell ⟨gm, a, none⟩ (.bool true)).alloc o).heap.size) :
    MtIn w1 w3 gm base vs vt (.slice (some ⟨g', off', none⟩) (s.2.length + 1) cap') (vis1 (-1) s a) ∧ EdIn w3 gm (.slice (some ⟨g', off', none⟩) (s.2.length + 1) cap') v47 E := by
  have h1 := h.o1
  have h2 := h.o2
  have h3 := h.bB
  have hv : vis1 (-1) s a = (s.1.set a true, s.2 ++ [a]) := by
    have : ((a : Int) ≠ -1) := by omega
    simp [-List.getD_eq_getElem?_getD, vis1, this, hs]
  have hkeep : ∀ k, k < wr.heap.size → v.ownBlock ≠ some k → w3.heap[k]? = (wr.setCell ⟨gm, a, none⟩ (.bool true)).heap[k]? := by
    intro k hk hne
    rw [hgrow.block k (by simp; omega) (fun e => hne e.symm)]
    exact Below.heap_alloc _ _ _ (by simpa using hk)
  have hlo : ∀ k, k < base → v.ownBlock ≠ some k := fun k hk e => by have := (h.own.lt k e).1; omega
  have hkeep2 : ∀ k, k < wr.heap.size → v.ownBlock ≠ some k → k ≠ gm → w3.heap[k]? = wr.heap[k]? := fun k hk hne hg => (hkeep k hk hne).trans (Below.heap_setCell _ _ _ _ hg)
  have hsz : wr.heap.size ≤ w3.heap.size := by have := hgrow.size; simp at this; omega
  refine ⟨⟨?_, ?_, ?_, ?_, h1, h2, Nat.le_trans h3 hsz⟩, ⟨?_, ?_⟩⟩
  · rw [hv]; simpa [nums] using hown
  · rw [hkeep gm (by omega) (hlo _ h2), hv]
    simp [World.setCell, Array.getElem?_modify, h.met, bits, List.map_set]
  · rw [hkeep2 _ (by omega) (hlo _ (by omega)) (by omega)]; exact h.box
  · exact ((h.bel.setCell (by simp; omega) _).alloc (by have := h.bel.size; simp; omega) _).grown hgrow (by have := h.bel.size; simp; omega) (fun k hk => by have := (h.own.lt k hk).1; omega)
  · refine he.rd.of_block fun k hk => ?_
    have := he.rd.lt k hk
    exact hkeep2 k this.2 (he.ne k hk) (by omega)
  · intro g hg
    have hlt := he.rd.lt g hg
    have hne := he.ne g hg
    intro e
    have e' : g' = g := by simpa [Value.ownBlock] using e
    rcases hloc with h4 | h4
    · rw [h4, e'] at hne; exact hne rfl
    · simp at h4; omega

set_option maxRecDepth 100000 in
set_option maxHeartbeats 4000000 in
theorem meets_any (w : World) (p m q n : Nat) (L : List (Nat × Nat)) (D : List Bool) (hg : GraphIn w p m q n L D) (v : Value) (F : List Nat) (hv : RdS w 1 v F.length (nums F)) (hF : ∀ a ∈ F, a < n) (hFl : F.length ≤ 1152921504606846976) :
    Calls Try.prog 63 #[.pointer (some ⟨p, 0, none⟩), v] w fun e w' => ∃ (v' : Value) (sn : List Bool), e = .returned v' ∧ OwnS w' w.heap.size 3 1 v' (idxTo sn n).length (nums (idxTo sn n)) ∧ (∀ y, sn.getD y false = true ↔ Met L F y) ∧ Below w.heap.size w w' := by
  have hle := hg.le
  have HG : Hid (GraphIn w p m q n L D) := hg
  have HF : Hid (∀ a ∈ F, a < n) := hF
  have HV : Hid (RdS w 1 v F.length (nums F)) := hv
  have hmk := makeBools n (by omega)
  obtain ⟨hlF, aoF, cpF, rfl, hrF⟩ := hv
  obtain ⟨N, hN⟩ : ∃ N, N = F.length := ⟨_, rfl⟩
  have HN : Hid (N = F.length) := hN
  rw [← hN] at hFl hrF
  rw [← hN]
  clear hg hF hlF hN
  go_enter Try.func63, Try.ntmps63
  go_wp2_with fail
  refine (onward_any w p m q n L D HG.out).mono ?_
  rintro e w1 ⟨vs, vt, ts, T, rfl, hb1, hw1, hT⟩
  have HW : Hid (WalkIn w1 vs vt ts n [0] T) := hw1
  have HT : Hid (∀ i b, i < n → (b ∈ T.getD i [] ↔ (i, b) ∈ L)) := hT
  have HB1 : Hid (Below w.heap.size w w1) := hb1
  have c0 : w1.cell? ⟨p, 0, none⟩ = some (.int .i64 n) := (HG.out.below hb1).c0
  have hp1 : p < w1.heap.size := (HG.out.below hb1).pLt
  have HBX : Hid (((w1.alloc (.cells #[vs, vt] 103)).alloc (.cells (Array.replicate n (.bool false)) 4)).heap[w1.heap.size]? = some (.cells #[vs, vt] 103 (0, 0)) ∧ ((w1.alloc (.cells #[vs, vt] 103)).alloc (.cells (Array.replicate n (.bool false)) 4)).heap[w1.heap.size + 1]? = some (.cells (bits (askTo n F 0)).toArray 4 (0, 0))) := by
    refine ⟨by rw [Below.heap_alloc _ _ _ (by simp), heap_new rfl], ?_⟩
    rw [heap_new (by simp), show askTo n F 0 = List.replicate n false from rfl, bits_replicate]
  obtain ⟨-, ao, cap, rfl, -⟩ := hw1.steps
  obtain ⟨-, ao9, cap9, rfl, -⟩ := hw1.starts
  clear hw1 hT hb1
  go_wp2_with fail
  go_loopg [22] N (fun g s22 wr => ∃ k : Nat, k + g = N ∧ s22 = .int .i64 k ∧ Hid (wr.heap[w1.heap.size]? = some (.cells #[.slice ao9 [0].length cap9, .slice ao n cap] 103 (0, 0))) ∧ Hid (wr.heap[w1.heap.size + 1]? = some (.cells (bits (askTo n F k)).toArray 4 (0, 0))) ∧ Hid (Below w1.heap.size w1 wr))
  case atStart => exact ⟨0, by omega, rfl, HBX.out.1, HBX.out.2, ((Below.refl _ _).alloc (Nat.le_refl _) _).alloc (by simp) _⟩
  case round =>
    clear HBX c0
    obtain ⟨k, hkg, rfl, hbx, hak, hbel⟩ := hrel
    by_cases hlt : k < N
    · rcases hrF with hr | ⟨g, off, rfl, hr⟩
      · omega
      have hlt' : k < F.length := HN.out ▸ hlt
      obtain ⟨a, ha⟩ : ∃ a, a = F[k] := ⟨_, rfl⟩
      have han : a < n := HF.out a (by rw [ha]; exact List.getElem_mem _)
      have hB : Below w.heap.size w wr := HB1.out.trans (hbel.out.mono HB1.out.size)
      have hcell : wr.cell? ⟨g, off + k, none⟩ = some (.int .i64 (a : Int)) := by
        have h1 := hr k _ (nums_get' hlt')
        rw [hB.cell (World.block_lt_of_cell? w _ h1), h1, ha]
      have hla : (askTo n F k).length = n := askTo_length n F k (by omega)
      obtain ⟨hca, hfa⟩ := cell_bits hak.out (k := a) (by omega)
      generalize (askTo n F k).getD a false = cc at hca
      have hnext : Hid (askTo n F (k + 1) = (askTo n F k).set a true) := by show _ = _; rw [ha]; exact askTo_succ hlt'
      have hs1 := hbel.out.size
      clear hr ha hla hlt' hB
      go_wp2_with fail
      go_roundg (N - (k + 1))
      case measure => omega
      case rel =>
        refine ⟨k + 1, by omega, by go_num, ?_, ?_, hbel.out.setCell (by simp) _⟩
        · show _ = _
          rw [Below.heap_setCell _ _ _ _ (by simp)]; exact hbx.out
        · show _ = _
          rw [hnext.out]
          simp [World.setCell, Array.getElem?_modify, hak.out, bits, List.map_set]
    · obtain rfl : N = k := by omega
      have hB : Below w.heap.size w wr := HB1.out.trans (hbel.out.mono HB1.out.size)
      have c0 : wr.cell? ⟨p, 0, none⟩ = some (.int .i64 n) := (HG.out.below hB).c0
      have hla : (askTo n F N).length = n := by rw [HN.out]; exact askTo_length n F _ (Nat.le_refl _)
      have hli := listed_any (wr.alloc (.cells (Array.replicate n (.bool false)) 4)) (.slice (some ⟨w1.heap.size + 1, 0, none⟩) n n) (askTo n F N) (by have := rd_bits (c := n) ((Below.heap_alloc wr (.cells (Array.replicate n (.bool false)) 4) _ (blk_lt hak.out)).trans hak.out); rw [hla] at this ⊢; exact this) (by omega)
      have HL : Hid (Calls Try.prog 77 #[.slice (some ⟨w1.heap.size + 1, 0, none⟩) n n] (wr.alloc (.cells (Array.replicate n (.bool false)) 4)) fun e w' => ∃ v', e = .returned v' ∧ OwnS w' (wr.heap.size + 1) 3 1 v' (idxTo (askTo n F N) n).length (nums (idxTo (askTo n F N) n)) ∧ Below (wr.heap.size + 1) (wr.alloc (.cells (Array.replicate n (.bool false)) 4)) w') := by
        rw [hla] at hli
        show Calls _ _ _ _ _
        simpa using hli
      have hs1 := blk_lt hak.out
      have hb7 : Hid (Below w1.heap.size w1 (wr.alloc (.cells (Array.replicate n (.bool false)) 4))) := hbel.out.alloc hbel.out.size _
      have hbx7 : Hid ((wr.alloc (.cells (Array.replicate n (.bool false)) 4)).heap[w1.heap.size]? = some (.cells #[.slice ao9 [0].length cap9, .slice ao n cap] 103 (0, 0))) := (Below.heap_alloc _ _ _ (blk_lt hbx.out)).trans hbx.out
      clear hli hla hbx hak hbel hB hrF
      go_wp2_with fail
      refine HL.out.mono ?_
      rintro e w3 ⟨v3, rfl, hown3, hb3⟩
      have HM3 : Hid (MtIn w1 w3 wr.heap.size (wr.heap.size + 1) (.slice ao9 [0].length cap9) (.slice ao n cap) v3 (List.replicate n false, idxTo (askTo n F N) n)) := by
        refine ⟨hown3, ?_, ?_, hb7.out.trans (hb3.mono (by omega)), by omega, by omega, by simpa using hb3.size⟩
        · rw [hb3.block _ (by omega), heap_new rfl, bits_replicate]
        · rw [hb3.block _ (by omega)]; exact hbx7.out
      have HI3 : Hid (MeetI n L F (List.replicate n false, idxTo (askTo n F N) n)) := meetI_start HF.out (fun a => by rw [HN.out]; exact asked_iff HF.out a)
      have hroom3 : Hid ((idxTo (askTo n F N) n).length ≤ 40) := Nat.le_trans (idxTo_le _ _) hle
      generalize idxTo (askTo n F N) n = q3 at HM3 HI3 hroom3
      have hbase : w1.heap.size < wr.heap.size := by omega
      generalize wr.heap.size = gm at HM3 hbase
      clear HL hown3 hb3 hb7 hbx7 c0
      go_wp2_with fail
      go_loopg [10] (unseen (List.replicate n false) + q3.length) (fun g s10 wr => ∃ (sn : List Bool) (qs : List Nat), unseen sn + qs.length = g ∧ g ≤ 80 ∧ Hid (MtIn w1 wr gm (gm + 1) (.slice ao9 [0].length cap9) (.slice ao n cap) s10 (sn, qs)) ∧ Hid (MeetI n L F (sn, qs)))
      case atStart => exact ⟨_, _, rfl, by have := hroom3.out; simp [unseen]; omega, HM3.out, HI3.out⟩
      case round =>
        clear HM3 HI3 hroom3
        obtain ⟨sn, qs, hgk, hg80, hm, hi⟩ := hrel
        have hBy : Hid (Below w.heap.size w wr) := HB1.out.trans (hm.out.bel.mono HB1.out.size)
        cases qs with
        | nil =>
          obtain ⟨ao4, cp4, rfl⟩ := hm.out.own.len
          have hls : sn.length = n := hi.out.len
          have hli := listed_any wr (.slice (some ⟨gm, 0, none⟩) n n) sn (by have := rd_bits (c := n) hm.out.met; simp only [hls] at this ⊢; exact this) (by omega)
          have HL : Hid (Calls Try.prog 77 #[.slice (some ⟨gm, 0, none⟩) n n] wr fun e w' => ∃ v', e = .returned v' ∧ ∃ (v'' : Value) (sn : List Bool), Ending.returned v' = .returned v'' ∧ OwnS w' w.heap.size 3 1 v'' (idxTo sn n).length (nums (idxTo sn n)) ∧ (∀ y, sn.getD y false = true ↔ Met L F y) ∧ Below w.heap.size w w') := by
            refine hli.mono ?_
            rintro e w' ⟨v', rfl, h1, h2⟩
            rw [hls] at h1
            exact ⟨v', rfl, v', sn, rfl, h1.mono hBy.out.size, fun y => meetI_end hi.out y, hBy.out.trans (h2.mono hBy.out.size)⟩
          clear hli hm hi hBy
          go_wp2_with fail
          refine HL.out.mono ?_
          rintro e w4 ⟨v4, rfl, hfin0⟩
          have hfin : Hid (∃ (v'' : Value) (sn : List Bool), Ending.returned v4 = .returned v'' ∧ OwnS w4 w.heap.size 3 1 v'' (idxTo sn n).length (nums (idxTo sn n)) ∧ (∀ y, sn.getD y false = true ↔ Met L F y) ∧ Below w.heap.size w w4) := hfin0
          clear hfin0
          go_wp2_with fail
          go_ret
          exact hfin.out
        | cons a qt =>
          have han : a < n := hi.out.lt a (by simp)
          obtain ⟨g, off, cp, v', rfl, hc0, hbg, hrun, hown'⟩ := hm.out.own.pop
          have HK : Hid (∀ W, Below wr.heap.size wr W → W.cell? ⟨g, off, none⟩ = some (.int .i64 (a : Int)) ∧ W.cell? ⟨w1.heap.size, 0, none⟩ = some (.slice ao9 1 cap9) ∧ W.cell? ⟨w1.heap.size, 1, none⟩ = some (.slice ao n cap)) := by
            intro W hW
            refine ⟨?_, ?_, ?_⟩
            · rw [hW.cell (World.block_lt_of_cell? wr _ hc0)]; exact hc0
            · have := (hW.block _ (blk_lt hm.out.box)).trans hm.out.box
              simp [World.cell?, this]
            · have := (hW.block _ (blk_lt hm.out.box)).trans hm.out.box
              simp [World.cell?, this]
          have HE : Hid (∀ W, Below wr.heap.size wr W → Calls Try.prog 78 #[.pointer (some ⟨p, 0, none⟩), .int .i64 a, .agg #[.slice ao9 1 cap9, .slice ao n cap]] W fun e w' => ∃ (v : Value) (qq : Nat → Bool), e = .returned v ∧ OwnS w' W.heap.size 3 1 v (upTo qq n).length (nums (upTo qq n)) ∧ (∀ y, y < n → (qq y = true ↔ OnEdge L a y)) ∧ Below wr.heap.size wr w' ∧ wr.heap.size ≤ W.heap.size) := by
            intro W hW
            have hWw : Below w.heap.size w W := hBy.out.trans (hW.mono hBy.out.size)
            have hW1 : Below w1.heap.size w1 W := hm.out.bel.trans (hW.mono hm.out.bel.size)
            refine (edge_any W p m q n L D (HG.out.below hWw) _ _ ts T (HW.out.below hW1) HT.out a han).mono ?_
            rintro e w' ⟨v, qq, rfl, h1, h2, h3⟩
            exact ⟨v, qq, rfl, h1, h2, hW.trans (h3.mono hW.size), hW.size⟩
          obtain ⟨c1, c2, c3⟩ := HK.out wr (Below.refl _ _)
          have hlen : (qt.length : Int) + 1 > 0 := by omega
          clear hown' hrun hc0 hbg
          go_wp2_with fail
          go_region_held3 (fun w' => w'.cell? ⟨g, off, none⟩ = some (.int .i64 (a : Int)) ∧ w'.cell? ⟨w1.heap.size, 0, none⟩ = some (.slice ao9 1 cap9) ∧ w'.cell? ⟨w1.heap.size, 1, none⟩ = some (.slice ao n cap))
            ((refine HK.out _ ?_; (repeat (first | assumption | exact Below.refl _ _ | apply Below.drew))))
            (first | (go_at_call 78; refine (HE.out _ ?_).mono ?_; (repeat (first | assumption | exact Below.refl _ _ | apply Below.drew)); rintro e w5 ⟨v5, qq, rfl, hown5, hq5, hB5, hs5⟩; obtain ⟨ao5, cp5, rfl⟩ := hown5.len))
          have HQ : Hid (∀ y, y ∈ upTo qq n ↔ OnEdge L a y) := by
            intro y
            simp only [upTo, List.mem_filter, List.mem_range]
            exact ⟨fun h => (hq5 y h.1).1 h.2, fun h => ⟨onEdge_lt HG.out.lt h, (hq5 y (onEdge_lt HG.out.lt h)).2 h⟩⟩
          have HM5 : Hid (MtIn w1 w5 gm (gm + 1) (.slice ao9 [0].length cap9) (.slice ao n cap) (.slice (some ⟨g, off, none⟩) (qt.length + 1) cp) (sn, a :: qt)) := hm.out.below hB5
          have HE5 : Hid (EdIn w5 gm (.slice (some ⟨g, off, none⟩) (qt.length + 1) cp) (.slice ao5 (upTo qq n).length cp5) (upTo qq n)) := by
            refine ⟨hown5.mono (by have := hm.out.bB; exact this), fun k hk e => ?_⟩
            have h1 := (hown5.lt k hk).1
            have h2 := (hm.out.own.lt k e).2
            have h3 : wr.drew.heap.size = wr.heap.size := rfl
            omega
          have hElt : Hid (∀ y ∈ upTo qq n, y < n) := fun y hy => by simp [upTo] at hy; exact hy.1
          have hM40 := upTo_le qq n
          clear hq5 hB5 hs5 hown5 HK HE c1 c2 c3 hm
          generalize upTo qq n = E at *
          obtain ⟨M, hM⟩ : ∃ M, E.length = M := ⟨_, rfl⟩
          have HM : Hid (E.length = M) := hM
          rw [hM] at HE5 hM40 ⊢
          clear hM
          go_wp2_with fail
          go_loopg [10, 49] M (fun g s10 s49 wz => ∃ k : Nat, k + g = M ∧ s49 = .int .i64 k ∧ Hid (MtIn w1 wz gm (gm + 1) (.slice ao9 [0].length cap9) (.slice ao n cap) s10 (vis (-1) (E.take k) (sn, a :: qt))) ∧ Hid (EdIn wz gm s10 (.slice ao5 M cp5) E))
          case atStart => exact ⟨0, by omega, rfl, HM5.out, HE5.out⟩
          case round =>
            clear HM5 HE5
            obtain ⟨k, hkg2, rfl, hm, he⟩ := hrel
            have hprops := vis_props (-1) n (E.take k) (sn, a :: qt) hi.out.len (fun y hy => hElt.out y (List.mem_of_mem_take hy))
            obtain ⟨hpl, -, -, hpu, -⟩ := hprops
            simp only [List.length_cons] at hpu
            have hroom : Hid ((vis (-1) (E.take k) (sn, a :: qt)).2.length ≤ 80) := by show _ ≤ 80; simp only [List.length_cons] at hgk; omega
            have hlen10 := hm.out.own.len
            obtain ⟨ao10, cp10, rfl⟩ := hlen10
            by_cases hlt : k < M
            · obtain ⟨-, ao6, cp6, he6, hr⟩ := he.out.rd.rd
              have hlt' : k < E.length := by rw [HM.out]; exact hlt
              rcases hr with hr | ⟨g5, off5, rfl, hr⟩
              · omega
              obtain ⟨rfl, -, rfl⟩ : ao5 = some ⟨g5, off5, none⟩ ∧ M = E.length ∧ cp5 = cp6 := by simpa using he6
              obtain ⟨y, hy⟩ : ∃ y, y = E[k] := ⟨_, rfl⟩
              have hyn : y < n := hElt.out y (by rw [hy]; exact List.getElem_mem _)
              have hcell : wr.cell? ⟨g5, off5 + k, none⟩ = some (.int .i64 (y : Int)) := by
                have h1 := hr k _ (nums_get' hlt')
                rw [h1, hy]
              have HKS : Hid (vis (-1) (E.take (k + 1)) (sn, a :: qt) = vis1 (-1) (vis (-1) (E.take k) (sn, a :: qt)) y) := by show _ = _; rw [hy]; exact vis_take_succ (-1) E (sn, a :: qt) hlt'
              generalize vis (-1) (E.take k) (sn, a :: qt) = st at *
              obtain ⟨hcm, hfm⟩ := cell_bits hm.out.met (k := y) (by omega)
              clear hr hy he6
              cases hb : st.1.getD y false
              · rw [hb] at hcm
                have HB : Hid (st.1.getD y false = false) := hb
                have hpl' : Hid (y < st.1.length) := by show y < _; omega
                obtain ⟨i0, hi0, hz0, hz1, hz2⟩ := info_parts infoInt
                have ho2 := hm.out.o2
                have hbB := hm.out.bB
                have HO : Hid (OwnS (wr.setCell ⟨gm, y, none⟩ (.bool true)) (gm + 1) 3 1 (.slice ao10 st.2.length cp10) st.2.length (nums st.2)) :=
                  hm.out.own.of_block fun j hj => Below.heap_setCell _ _ _ _ (by have := (hm.out.own.lt j hj).1; simp; omega)
                clear hb hpl hpu
                go_wp2_with (first | (at_builtin; refine wpList_append_ownS _ rfl _ _ 26 rfl (gm + 1) 3 i0 (.int .i64 0) 1 8 Try.underlying26 hi0 hz0 hz1 hz2 rfl (by decide) _ _ _ rfl (HO.out.alloc _) ⟨wr.heap.size, 0, none⟩ 1 1 [.int .i64 (y : Int)] rfl rfl (cell_new1' _ _ _ _ (by simp)) (fun u hu => nums_one u y hu) (by decide) (by have := hroom.out; unfold maxLen; omega) (by have := hroom.out; omega) (by simp; omega) ?_; intro g' off' cap' w6 hown6 hgrow6 hloc6 hlt6))
                have hfin := hm.out.push he.out hpl'.out HB.out hown6 hgrow6 hloc6
                go_wp2_with fail
                go_roundg (M - (k + 1))
                case measure => omega
                case rel => exact ⟨k + 1, by omega, by go_num, by rw [HKS.out]; exact hfin.1, hfin.2⟩
              · rw [hb] at hcm
                have hv1 : Hid (vis (-1) (E.take (k + 1)) (sn, a :: qt) = st) := by show _ = _; rw [HKS.out]; simp only [vis1, hb, Bool.true_eq_false, and_false, if_false]
                clear HKS hb hpl hpu
                go_wp2_with fail
                go_roundg (M - (k + 1))
                case measure => omega
                case rel => exact ⟨k + 1, by omega, by go_num, by rw [hv1.out]; exact hm.out, he.out⟩
            · obtain rfl : k = M := by omega
              have hall : E.take k = E := List.take_of_length_le (by rw [HM.out]; exact Nat.le_refl _)
              obtain ⟨kk, hst, hI, hcnt⟩ := meetI_step HG.out.lt hi.out HQ.out
              rw [← hall] at hst hI hcnt
              have hlen2 : (vis (-1) (E.take k) (sn, a :: qt)).2.length = (qt ++ kk).length + 1 := by rw [hst]; rfl
              have hm' : Hid (MtIn w1 wr gm (gm + 1) (.slice ao9 [0].length cap9) (.slice ao n cap) (.slice ao10 ((qt ++ kk).length + 1) cp10) ((vis (-1) (E.take k) (sn, a :: qt)).1, a :: (qt ++ kk))) := by
                have h1 := hm.out
                rw [hlen2, hst] at h1
                exact h1
              have HI : Hid (MeetI n L F ((vis (-1) (E.take k) (sn, a :: qt)).1, qt ++ kk)) := hI
              have hcnt' : unseen (vis (-1) (E.take k) (sn, a :: qt)).1 + (qt ++ kk).length = unseen sn + qt.length := by simp only [List.length_cons] at hcnt; omega
              simp only [List.length_cons] at hgk
              rw [hlen2]
              generalize (vis (-1) (E.take k) (sn, a :: qt)).1 = sn' at hm' HI hcnt'
              generalize qt ++ kk = qn at hm' HI hcnt'
              clear hst hI hcnt hlen2 hm he hroom hpl hpu hall
              obtain ⟨g7, off7, cp7, v7, he7, -, -, hrun, hown7⟩ := hm'.out.own.pop
              obtain ⟨ao8, cp8, rfl⟩ := hown7.len
              obtain ⟨rfl, rfl⟩ : ao10 = some ⟨g7, off7, none⟩ ∧ cp10 = cp7 := by simpa using he7
              have hrun' := hrun wr
              have HM7 : Hid (MtIn w1 wr gm (gm + 1) (.slice ao9 [0].length cap9) (.slice ao n cap) (.slice ao8 qn.length cp8) (sn', qn)) :=
                ⟨hown7, hm'.out.met, hm'.out.box, hm'.out.bel, hm'.out.o1, hm'.out.o2, hm'.out.bB⟩
              clear hrun hown7 he7 hm'
              go_wp2_with fail
              go_roundg (unseen sn + qt.length)
              case measure => omega
              case rel => exact ⟨sn', qn, by omega, by omega, HM7.out, HI.out⟩

end Go.Proofs.Ytbddcodljmglfaa
