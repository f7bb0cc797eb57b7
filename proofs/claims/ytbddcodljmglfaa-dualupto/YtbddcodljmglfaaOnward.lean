/- onward: the walk from node 0 along the edges. -/
import Derived.Test.YtbddcodljmglfaaSteps
import Derived.Deep.DrawnRows
set_option linter.unusedSimpArgs false
set_option linter.unusedVariables false
namespace Go.Proofs.Ytbddcodljmglfaa
open Go.RowKit
attribute [local go_sem ↓] run_execOp_append

theorem infoInts : (Try.prog.info? 26).map (fun i => (i.zero, i.size, i.bytes)) = some (some (.slice none 0 0), 1, 24) := by kernel_rfl

theorem makeRows (n : Nat) (hn : n ≤ 1000) (w : World) :
    (Instr.makeSlice 101 (.int .i64 n) (.int .i64 n)).run Try.prog w = .ok (.slice (some ⟨w.heap.size, 0, none⟩) n n) (w.alloc (.cells (Array.replicate n (.slice none 0 0)) 26)) := by
  obtain ⟨i0, hi, hz0, hz1, hz2⟩ := info_parts infoInts
  exact run_make1 _ _ i0 _ Try.underlying101 hi hz0 hz1 rfl n hn (by omega) w

theorem rowed_begin (w : World) (base b3 gt : Nat) (vs : Value) (n : Nat) (h3 : w.heap[b3]? = some (.cells #[vs, .slice (some ⟨gt, 0, none⟩) n n] 103 (0, 0)))
    (hg : w.heap[gt]? = some (.cells (Array.replicate n (.slice none 0 0)) 26 (0, 0))) (l3 : b3 < base) (lg : gt < base) (lb : base ≤ w.heap.size) :
    Rowed w base b3 gt vs n (List.replicate n (.slice none 0 0)) (List.replicate n []) := by
  have h0 : ∀ i, (List.replicate n ([] : List Nat)).getD i [] = [] := by
    intro i
    simp only [List.getD, List.getElem?_replicate]
    split <;> simp
  refine ⟨h3, ?_, by simp, by simp, fun i v hi => ?_, fun i j u v k hi hj _ hk => ?_, l3, lg, lb⟩
  · rw [hg]; simp
  · have : v = .slice none 0 0 := by
      have := List.mem_of_getElem? hi
      simp at this
      exact this.2
    subst this
    rw [h0]
    exact OwnS.nil _ _ _ _
  · have : u = .slice none 0 0 := by
      have := List.mem_of_getElem? hi
      simp at this
      exact this.2
    subst this
    simp [Value.ownBlock] at hk

theorem ow_begin (w : World) (p m q n : Nat) (L : List (Nat × Nat)) (D : List Bool) (hg : GraphIn w p m q n L D) (w4 : World)
    (hw4 : w4 = ((((w.alloc (.cells #[.slice none 0 0, .slice none 0 0] 103)).alloc (.cells (Array.replicate n (.slice none 0 0)) 26)).alloc (.cells #[.slice (some ⟨w.heap.size + 1 + 1 + 1, 0, none⟩) 1 1, .slice (some ⟨w.heap.size + 1, 0, none⟩) n n] 103)).alloc (.cells #[.int .i64 0] 3))) :
    ∃ o, (Instr.range 70 (.map (some m))).run Try.prog w4 = .ok (.pointer (some ⟨w.heap.size + 1 + 1 + 1 + 1, 0, none⟩)) (w4.alloc o) ∧ EIter (w4.alloc o) (w.heap.size + 1 + 1 + 1 + 1) m L L ∧
      Rowed (w4.alloc o) (w.heap.size + 1 + 1 + 1 + 1 + 1) (w.heap.size + 1 + 1) (w.heap.size + 1) (.slice (some ⟨w.heap.size + 1 + 1 + 1, 0, none⟩) 1 1) n (List.replicate n (.slice none 0 0)) (List.replicate n []) ∧
      (w4.alloc o).heap[w.heap.size + 1 + 1 + 1]? = some (.cells #[.int .i64 0] 3 (0, 0)) ∧ (w4.alloc o).heap[w.heap.size]? = some (.cells #[.slice none 0 0, .slice none 0 0] 103 (0, 0)) ∧ Below w.heap.size w (w4.alloc o) ∧ w4.cell? ⟨p, 1, none⟩ = some (.map (some m)) := by
  have hb4 : Below w.heap.size w w4 := by
    rw [hw4]
    exact ((((Below.refl _ _).alloc (Nat.le_refl _) _).alloc (by simp) _).alloc (by simp <;> omega) _).alloc (by simp <;> omega) _
  have hs4 : w4.heap.size = w.heap.size + 1 + 1 + 1 + 1 := by rw [hw4]; simp
  have hg4 := hg.below hb4
  obtain ⟨o, hr, hi⟩ := hg4.edges.range
  rw [hs4] at hr hi
  refine ⟨o, hr, hi, rowed_begin _ _ _ _ _ _ ?_ ?_ (by omega) (by omega) (by simp [hs4]), ?_, ?_, hb4.alloc (by omega) _, hg4.c1⟩
  · rw [Below.heap_alloc _ _ _ (by omega), hw4, Below.heap_alloc _ _ _ (by simp), heap_new (by simp)]
  · rw [Below.heap_alloc _ _ _ (by omega), hw4, Below.heap_alloc _ _ _ (by simp <;> omega), Below.heap_alloc _ _ _ (by simp), heap_new (by simp)]
  · rw [Below.heap_alloc _ _ _ (by omega), hw4, heap_new (by simp)]
  · rw [Below.heap_alloc _ _ _ (by omega), hw4, Below.heap_alloc _ _ _ (by simp <;> omega), Below.heap_alloc _ _ _ (by simp <;> omega), Below.heap_alloc _ _ _ (by simp), heap_new rfl]

/-- The steps, all laid, as a walk. -/
theorem rowed_walk {w : World} {base b3 gt n : Nat} {vs : Value} {ts : List Value} {T : List (List Nat)} (h : Rowed w base b3 gt vs n ts T) {f : Nat × Nat → Nat × Nat} {L : List (Nat × Nat)} (hl : Laid f n L [] T)
    (hf : ∀ x ∈ L, (f x).1 < n ∧ (f x).2 < n) (hL : L.length ≤ 1600) {S : List Nat} (hs : RdS w 1 vs S.length (nums S)) (hS : ∀ a ∈ S, a < n) (hSl : S.length ≤ 1000000) (pos : 1 ≤ n) (le : n ≤ 40) :
    WalkIn w vs (.slice (some ⟨gt, 0, none⟩) n n) ts n S T := by
  refine ⟨hs, ⟨by simpa using h.lts, _, _, rfl, .inr ⟨gt, 0, rfl, fun j u hj => ?_⟩⟩, h.lT, fun i v hi => (h.own i v hi).rd, pos, le, hS, ?_, hSl, ?_⟩
  · rw [Nat.zero_add]; exact h.cg hj
  · intro l hl' a ha
    obtain ⟨i, hi, rfl⟩ := List.getElem_of_mem hl'
    have hin : i < n := by rw [← h.lT]; exact hi
    obtain ⟨p, hp, _, e⟩ := (hl.mem i a hin).1 (by simpa [List.getD, hi] using ha)
    have := (hf p hp).2
    rw [e] at this
    exact this
  · intro l hl'
    obtain ⟨i, hi, rfl⟩ := List.getElem_of_mem hl'
    have := hl.len i
    simp [List.getD, hi] at this
    omega

theorem pairs40 {w : World} {p m q n : Nat} {L : List (Nat × Nat)} {D : List Bool} (hg : GraphIn w p m q n L D) : L.length ≤ 1600 := by
  have h1 := pairs_len n L hg.edges.nodup hg.lt
  have h2 : n * n ≤ 40 * 40 := Nat.mul_le_mul hg.le hg.le
  omega

set_option maxRecDepth 100000 in
set_option maxHeartbeats 4000000 in
theorem onward_any (w : World) (p m q n : Nat) (L : List (Nat × Nat)) (D : List Bool) (hg : GraphIn w p m q n L D) :
    Calls Try.prog 60 #[.pointer (some ⟨p, 0, none⟩)] w fun e w' => ∃ vs vt ts T, e = .returned (.agg #[vs, vt]) ∧ Below w.heap.size w w' ∧ WalkIn w' vs vt ts n [0] T ∧ (∀ i b, i < n → (b ∈ T.getD i [] ↔ (i, b) ∈ L)) := by
  have hmk := makeRows n (by have := hg.le; omega)
  have c0 := hg.c0
  have hpn : 0 < n := hg.pos
  have hp := hg.pLt
  have HG : Hid (GraphIn w p m q n L D) := hg
  have c0' : (((w.alloc (.cells #[.slice none 0 0, .slice none 0 0] 103)).alloc (.cells (Array.replicate n (.slice none 0 0)) 26)).alloc (.cells #[.slice none 0 0, .slice (some ⟨w.heap.size + 1, 0, none⟩) n n] 103)).cell? ⟨p, 0, none⟩ = some (.int .i64 n) := by
    rw [World.cell?_of_block (Below.heap_alloc _ _ _ (by simp <;> omega)), World.cell?_of_block (Below.heap_alloc _ _ _ (by simp <;> omega)), World.cell?_of_block (Below.heap_alloc _ _ _ hp)]; exact c0
  obtain ⟨o, hrng, hit0, hrow0, hst0, hres0, hbel0, c1'⟩ := ow_begin w p m q n L D hg _ rfl
  have H0 : Hid (Rowed _ (w.heap.size + 1 + 1 + 1 + 1 + 1) (w.heap.size + 1 + 1) (w.heap.size + 1) (.slice (some ⟨w.heap.size + 1 + 1 + 1, 0, none⟩) 1 1) n (List.replicate n (.slice none 0 0)) (List.replicate n []) ∧ EIter _ (w.heap.size + 1 + 1 + 1 + 1) m L L ∧ Laid id n L L (List.replicate n []) ∧ _ ∧ _ ∧ _) := ⟨hrow0, hit0, laid_start id n L hg.edges.nodup, hst0, hres0, hbel0⟩
  clear hg hit0 hrow0 hst0 hres0 hbel0
  go_enter Try.func60, Try.ntmps60
  go_wp2_with fail
  go_loopw [4] (fun _ wr => ∃ (R : List (Nat × Nat)) (ts : List Value) (T : List (List Nat)), Rowed wr (w.heap.size + 1 + 1 + 1 + 1 + 1) (w.heap.size + 1 + 1) (w.heap.size + 1) (.slice (some ⟨w.heap.size + 1 + 1 + 1, 0, none⟩) 1 1) n ts T ∧ EIter wr (w.heap.size + 1 + 1 + 1 + 1) m L R ∧ Laid id n L R T ∧
      wr.heap[w.heap.size + 1 + 1 + 1]? = some (.cells #[.int .i64 0] 3 (0, 0)) ∧ wr.heap[w.heap.size]? = some (.cells #[.slice none 0 0, .slice none 0 0] 103 (0, 0)) ∧ Below w.heap.size w wr) (fun _ wr => iterLeft (w.heap.size + 1 + 1 + 1 + 1) m wr)
  case atStart => exact ⟨_, _, _, H0.out⟩
  case round =>
    obtain ⟨R, ts, T, hrow, hit, hlaid, hst, hres, hbel⟩ := hrel
    clear H0 c0 c0' c1' hrng hmk
    by_cases hR : R = []
    · subst hR
      have hover := hit.over
      have d0 : wr.cell? ⟨w.heap.size + 1 + 1, 0, none⟩ = some (.slice (some ⟨w.heap.size + 1 + 1 + 1, 0, none⟩) 1 1) := by simp [World.cell?, hrow.hb3]
      have d1 : wr.cell? ⟨w.heap.size + 1 + 1, 1, none⟩ = some (.slice (some ⟨w.heap.size + 1, 0, none⟩) n n) := by simp [World.cell?, hrow.hb3]
      have e0 : wr.cell? ⟨w.heap.size, 0, none⟩ = some (.slice none 0 0) := by simp [World.cell?, hres]
      have e1 : wr.cell? ⟨w.heap.size, 1, none⟩ = some (.slice none 0 0) := by simp [World.cell?, hres]
      have f0 : wr.frozen? ⟨w.heap.size, 0, none⟩ = false := by simp [World.frozen?, hres]
      have f1 : wr.frozen? ⟨w.heap.size, 1, none⟩ = false := by simp [World.frozen?, hres]
      have hfin : Hid (∀ u0 u1 : Value, WalkIn ((wr.setCell ⟨w.heap.size, 0, none⟩ u0).setCell ⟨w.heap.size, 1, none⟩ u1) (.slice (some ⟨w.heap.size + 1 + 1 + 1, 0, none⟩) 1 1) (.slice (some ⟨w.heap.size + 1, 0, none⟩) n n) ts n [0] T ∧ Below w.heap.size w ((wr.setCell ⟨w.heap.size, 0, none⟩ u0).setCell ⟨w.heap.size, 1, none⟩ u1) ∧ (∀ i b, i < n → (b ∈ T.getD i [] ↔ (i, b) ∈ L))) := by
        intro u0 u1
        have ht : Turned wr ((wr.setCell ⟨w.heap.size, 0, none⟩ u0).setCell ⟨w.heap.size, 1, none⟩ u1) w.heap.size :=
          ⟨rfl, rfl, rfl, by simp [World.setCell], fun k hk => (Below.heap_setCell _ _ _ _ hk).trans (Below.heap_setCell _ _ _ _ hk)⟩
        have hrow' := hrow.turned ht (by omega) (by omega) (by omega)
        have hst' := (ht.block (w.heap.size + 1 + 1 + 1) (by omega)).trans hst
        refine ⟨rowed_walk hrow' hlaid (fun x hx => HG.out.lt x hx) (pairs40 HG.out) ⟨rfl, _, _, rfl, .inr ⟨_, 0, rfl, fun j u hj => ?_⟩⟩ (by have := HG.out.pos; simp; omega) (by simp) HG.out.pos HG.out.le, hbel.trans (ht.below (Nat.le_refl _)), fun i b hi => ?_⟩
        · match j, hj with
          | 0, hj => simp [nums] at hj; subst hj; simp [World.cell?, hst']
          | j + 1, hj => simp [nums] at hj
        · rw [hlaid.mem i b hi]
          simp
      clear hit hlaid hst hres hbel hrow
      go_wp2_with fail
      exact bodyPost_ret (v := .agg #[.slice (some ⟨w.heap.size + 1 + 1 + 1, 0, none⟩) 1 1, .slice (some ⟨w.heap.size + 1, 0, none⟩) n n]) (by simp [results, Try.results60, go_sem, e0, e1]) rfl ⟨_, _, _, _, rfl, (hfin.out _ _).2.1, (hfin.out _ _).1, (hfin.out .nilIface .nilIface).2.2⟩
    · obtain ⟨⟨i, b⟩, A, B, w1, rfl, hnext, hturn, hit1, hxL, hrm, hentry⟩ := hit.step hR
      have hib := HG.out.lt _ hxL
      have hne := hit.rNe hrow.hgt
      have hne3 := hit.rNe hrow.hb3
      have hrow1 := hrow.turned hturn hne3.1 hne.1 (by omega)
      obtain ⟨v, hv⟩ : ∃ v, ts[i]? = some v := ⟨_, List.getElem?_eq_getElem (by rw [hrow.lts]; exact hib.1)⟩
      obtain ⟨ao, cap, hform⟩ := (hrow1.own i v hv).len
      have hcame : Came w1 (w.heap.size + 1 + 1 + 1 + 1 + 1) (w.heap.size + 1 + 1) (w.heap.size + 1) (.slice (some ⟨w.heap.size + 1 + 1 + 1, 0, none⟩) 1 1) n ts T (w.heap.size + 1 + 1 + 1 + 1) m L (A ++ B) i b i b v ao cap :=
        ⟨hrow1, hit1, hv, hform, hib.1, by omega, by have := HG.out.mLt; omega⟩
      obtain ⟨s1, s2, s3, s4, s5⟩ := hcame.cells (w1.alloc (.cells #[.int .i64 (i : Int), .int .i64 (b : Int)] 108)) (fun _ _ _ => rfl)
      have hlen := hlaid.len i
      have hL40 : L.length ≤ 1600 := by
        have h1 := pairs_len n L HG.out.edges.nodup HG.out.lt
        have h2 : n * n ≤ 40 * 40 := Nat.mul_le_mul HG.out.le HG.out.le
        omega
      have hlen2 : (T.getD i []).length ≤ 1600 := by omega
      have hb5 := hrow1.lb
      have HC : Hid (Came w1 (w.heap.size + 1 + 1 + 1 + 1 + 1) (w.heap.size + 1 + 1) (w.heap.size + 1) (.slice (some ⟨w.heap.size + 1 + 1 + 1, 0, none⟩) 1 1) n ts T (w.heap.size + 1 + 1 + 1 + 1) m L (A ++ B) i b i b v ao cap) := hcame
      have HLAID := laid_put hlaid hrow.lT hib.1
      have HL2 : Hid (Laid id n L (A ++ B) (T.set i (T.getD i [] ++ [b]))) := HLAID
      have HMU : Hid (iterLeft (w.heap.size + 1 + 1 + 1 + 1) m wr = (A ++ (i, b) :: B).length) := hit.left
      have hi1 : (0 : Int) ≤ (i : Int) := by omega
      have hi2 : (i : Int) < (n : Int) := by omega
      have HX : Hid (wr.heap[w.heap.size + 1 + 1 + 1]? = some (.cells #[.int .i64 0] 3 (0, 0)) ∧ wr.heap[w.heap.size]? = some (.cells #[.slice none 0 0, .slice none 0 0] 103 (0, 0)) ∧ Below w.heap.size w wr ∧ Turned wr w1 (w.heap.size + 1 + 1 + 1 + 1)) := ⟨hst, hres, hbel, hturn⟩
      obtain ⟨i0, hi, hz0, hz1, hz2⟩ := info_parts infoInt
      subst hform
      generalize hlT : T.getD i [] = Ti at hlen2 s4 HL2
      have HT : Hid (T.getD i [] = Ti) := hlT
      obtain ⟨⟨q1, q2, q3, q5⟩, q4⟩ := HC.out.keep1 HT.out (.cells #[.int .i64 (b : Int)] 3)
      obtain ⟨g, off, cp, w2, happ, hown2, hgrow2, hloc2⟩ := HC.out.app HT.out hlen2
      obtain ⟨⟨r1, r2, r3, r5⟩, r4⟩ := HC.out.keep2 HT.out hgrow2
      have hput := HC.out.put (b := b) (o := .cells #[.int .i64 (b : Int)] 3) (w2 := w2) (g := g) (off := off) (cp := cp) (by rw [HT.out]; exact ⟨hgrow2.os, hgrow2.tape, hgrow2.output, hgrow2.size, hgrow2.block⟩) (by rw [HT.out]; exact hown2) (by rw [HT.out]; exact hloc2)
      rw [HT.out] at hput
      have hfin : Hid (∃ (R : List (Nat × Nat)) (ts : List Value) (T : List (List Nat)), Rowed (w2.setCell ⟨w.heap.size + 1, i, none⟩ (.slice (some ⟨g, off, none⟩) (Ti.length + 1) cp)) (w.heap.size + 1 + 1 + 1 + 1 + 1) (w.heap.size + 1 + 1) (w.heap.size + 1) (.slice (some ⟨w.heap.size + 1 + 1 + 1, 0, none⟩) 1 1) n ts T ∧ EIter (w2.setCell ⟨w.heap.size + 1, i, none⟩ (.slice (some ⟨g, off, none⟩) (Ti.length + 1) cp)) (w.heap.size + 1 + 1 + 1 + 1) m L R ∧ Laid id n L R T ∧
          (w2.setCell ⟨w.heap.size + 1, i, none⟩ (.slice (some ⟨g, off, none⟩) (Ti.length + 1) cp)).heap[w.heap.size + 1 + 1 + 1]? = some (.cells #[.int .i64 0] 3 (0, 0)) ∧ (w2.setCell ⟨w.heap.size + 1, i, none⟩ (.slice (some ⟨g, off, none⟩) (Ti.length + 1) cp)).heap[w.heap.size]? = some (.cells #[.slice none 0 0, .slice none 0 0] 103 (0, 0)) ∧ Below w.heap.size w (w2.setCell ⟨w.heap.size + 1, i, none⟩ (.slice (some ⟨g, off, none⟩) (Ti.length + 1) cp))) := by
        obtain ⟨k1, k2, k3, k4, k5, k6, k7⟩ := hput
        refine ⟨_, _, _, k1, k2, HL2.out, ?_, ?_, ?_⟩
        · rw [k3 _ (by omega) (by omega), hturn.block _ (by omega)]; exact hst
        · rw [k3 _ (by omega) (by omega), hturn.block _ (by omega)]; exact hres
        · refine hbel.trans ⟨k5.trans hturn.os, k6.trans hturn.tape, k7.trans hturn.output, by rw [← hturn.size]; exact k4, fun k hk => ?_⟩
          rw [k3 _ (by omega) (by omega), hturn.block _ (by omega)]
      have hmu : Hid (iterLeft (w.heap.size + 1 + 1 + 1 + 1) m (w2.setCell ⟨w.heap.size + 1, i, none⟩ (.slice (some ⟨g, off, none⟩) (Ti.length + 1) cp)) < iterLeft (w.heap.size + 1 + 1 + 1 + 1) m wr) := by
        show _ < _
        rw [HMU.out, hput.2.1.left]
        simp
      clear hput
      clear hlT HLAID hcame hrow1 hrow hit1 hit hlaid hst hres hbel hturn hib hne hne3 hR hlen hL40 hv hrm hxL
      go_wp2_with fail
      go_region
      all_goals go_wp2
      all_goals go_roundw
      case rel => exact hfin.out
      case measure => exact hmu.out

end Go.Proofs.Ytbddcodljmglfaa
