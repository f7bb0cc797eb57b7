/- backward: the walk from the ends against the edges. -/
import Derived.Test.YtbddcodljmglfaaOnward
import Derived.Deep.Cut
import Derived.Deep.CutRange
set_option linter.unusedSimpArgs false
set_option linter.unusedVariables false
namespace Go.Proofs.Ytbddcodljmglfaa
open Go.RowKit
attribute [local go_sem ↓] run_execOp_append

theorem bcell {W w1 : World} (hb : Below W.heap.size W w1) : (∀ b o, b < W.heap.size → w1.cell? ⟨b, o, none⟩ = W.cell? ⟨b, o, none⟩) ∧ (∀ b o, b < W.heap.size → w1.frozen? ⟨b, o, none⟩ = W.frozen? ⟨b, o, none⟩) :=
  ⟨fun b o h => hb.cell (p := ⟨b, o, none⟩) h, fun b o h => hb.frozen (p := ⟨b, o, none⟩) h⟩

theorem listed_in {w : World} {p m q n : Nat} {L : List (Nat × Nat)} {D : List Bool} (hg : GraphIn w p m q n L D) (W : World) (hW : Below w.heap.size w W) :
    Calls Try.prog 77 #[.slice (some ⟨q, 0, none⟩) n n] W fun e w' => ∃ v', e = .returned v' ∧ OwnS w' W.heap.size 3 1 v' (idxTo D n).length (nums (idxTo D n)) ∧ Below W.heap.size W w' ∧ Below w.heap.size w w' ∧ W.heap.size ≤ w'.heap.size := by
  have hl := hg.len
  have hle := hg.le
  refine (listed_any W _ D (hg.below hW).rdEnds (by omega)).mono ?_
  rintro e w' ⟨v', rfl, h1, h2⟩
  rw [hl] at h1
  exact ⟨v', rfl, h1, h2, hW.trans (h2.mono hW.size), h2.size⟩

theorem World.heap_size_alloc' (w : World) (o : Obj) : (w.alloc o).heap.size = w.heap.size + 1 := by simp
theorem World.heap_size_drew' (w : World) : w.drew.heap.size = w.heap.size := rfl

theorem two_set {w : World} {b : Nat} {x y u v : Value} {t : TypeId} (h : w.heap[b]? = some (.cells #[x, y] t (0, 0))) : ((w.setCell ⟨b, 0, none⟩ u).setCell ⟨b, 1, none⟩ v).heap[b]? = some (.cells #[u, v] t (0, 0)) := by
  simp [World.setCell, Array.getElem?_modify, h]
theorem two_set_other {w : World} {b k : Nat} {u v : Value} (h : k ≠ b) : ((w.setCell ⟨b, 0, none⟩ u).setCell ⟨b, 1, none⟩ v).heap[k]? = w.heap[k]? :=
  (Below.heap_setCell _ _ _ _ h).trans (Below.heap_setCell _ _ _ _ h)
theorem two_set_size {w : World} {b : Nat} {u v : Value} : ((w.setCell ⟨b, 0, none⟩ u).setCell ⟨b, 1, none⟩ v).heap.size = w.heap.size := by simp [World.setCell]

/-- What stands behind the statement that lays the walk: its variable, its row of rows, the starts. -/
def BwRel (w : World) (n : Nat) (D : List Bool) (s3 : Value) (wx : World) : Prop :=
  ∃ (b3 gt : Nat) (vs : Value), s3 = .pointer (some ⟨b3, 0, none⟩) ∧ wx.heap[b3]? = some (.cells #[vs, .slice (some ⟨gt, 0, none⟩) n n] 103 (0, 0)) ∧ wx.heap[gt]? = some (.cells (Array.replicate n (.slice none 0 0)) 26 (0, 0)) ∧
      OwnS wx (w.heap.size + 1) 3 1 vs (idxTo D n).length (nums (idxTo D n)) ∧ wx.heap[w.heap.size]? = some (.cells #[.slice none 0 0, .slice none 0 0] 103 (0, 0)) ∧ Below w.heap.size w wx ∧ w.heap.size < b3 ∧ w.heap.size < gt

/-- What stays while the steps are laid: the starts, the result's block, all that was there. -/
structure BwKeep (w wc wr : World) (gt n : Nat) (D : List Bool) (vs : Value) : Prop where
  own : OwnS wr (w.heap.size + 1) 3 1 vs (idxTo D n).length (nums (idxTo D n))
  vlt : ∀ k, vs.ownBlock = some k → k < wc.heap.size
  res : wr.heap[w.heap.size]? = some (.cells #[.slice none 0 0, .slice none 0 0] 103 (0, 0))
  rlt : w.heap.size < wc.heap.size
  bel : Below w.heap.size w wr

theorem bw_keep0 {w wc : World} {gt n : Nat} {D : List Bool} {vs : Value} (hvs : OwnS wc (w.heap.size + 1) 3 1 vs (idxTo D n).length (nums (idxTo D n))) (hres : wc.heap[w.heap.size]? = some (.cells #[.slice none 0 0, .slice none 0 0] 103 (0, 0))) (hbel : Below w.heap.size w wc) (o : Obj) :
    BwKeep w wc (wc.alloc o) gt n D vs :=
  ⟨hvs.alloc o, fun k hk => (hvs.lt k hk).2, (Below.heap_alloc _ _ _ (blk_lt hres)).trans hres, blk_lt hres, hbel.alloc hbel.size o⟩

theorem BwKeep.step {w wc wr wf : World} {gt n : Nat} {D : List Bool} {vs : Value} (h : BwKeep w wc wr gt n D vs) (hf : ∀ k, k < wc.heap.size → k ≠ gt → wf.heap[k]? = wr.heap[k]?) (hsz : wr.heap.size ≤ wf.heap.size) (ho : wf.os = wr.os) (ht : wf.tape = wr.tape) (hu : wf.output = wr.output)
    {ts : Array Value} (hgt : wr.heap[gt]? = some (.cells ts 26 (0, 0))) (l2 : w.heap.size < gt) : BwKeep w wc wf gt n D vs := by
  have hrl := h.rlt
  refine ⟨h.own.of_block fun k hk => hf k (h.vlt k hk) ?_, h.vlt, (hf _ hrl (by omega)).trans h.res, hrl, h.bel.trans ⟨ho, ht, hu, hsz, fun k hk => hf k (by omega) (by omega)⟩⟩
  rintro rfl
  rcases h.own.2 with ⟨rfl, _⟩ | ⟨g, off, cap, cur, rfl, _, hg, _⟩
  · simp [Value.ownBlock] at hk
  · simp [Value.ownBlock] at hk
    subst hk
    rw [hg] at hgt
    simp at hgt

theorem bw_meet {w W w1 wf : World} {n : Nat} {D : List Bool} {v : Value} (b3 gt : Nat) (hbel1 : Below W.heap.size W w1) (hown : OwnS w1 W.heap.size 3 1 v (idxTo D n).length (nums (idxTo D n))) (hB1 : Below w.heap.size w w1)
    (hW : W.heap[w.heap.size]? = some (.cells #[.slice none 0 0, .slice none 0 0] 103 (0, 0))) (hf : ∀ k, k ≠ b3 → k < w1.heap.size → wf.heap[k]? = w1.heap[k]?) (hsz : w1.heap.size ≤ wf.heap.size) (ho : wf.os = w1.os) (ht : wf.tape = w1.tape) (hu : wf.output = w1.output)
    (hb3 : b3 < W.heap.size ∨ w1.heap.size ≤ b3) (h3 : wf.heap[b3]? = some (.cells #[v, .slice (some ⟨gt, 0, none⟩) n n] 103 (0, 0))) (hgt : wf.heap[gt]? = some (.cells (Array.replicate n (.slice none 0 0)) 26 (0, 0)))
    (l1 : w.heap.size < b3) (l2 : w.heap.size < gt) : BwRel w n D (.pointer (some ⟨b3, 0, none⟩)) wf := by
  have hWl := blk_lt hW
  have hWs := hbel1.size
  refine ⟨b3, gt, v, rfl, h3, hgt, ?_, ?_, ?_, l1, l2⟩
  · exact (hown.of_block fun k hk => hf k (by have := hown.lt k hk; omega) (hown.lt k hk).2).mono hWl
  · rw [hf _ (by omega) (by omega), hbel1.block _ hWl]; exact hW
  · exact hB1.trans ⟨ho, ht, hu, hsz, fun k hk => hf k (by omega) (by omega)⟩

set_option maxRecDepth 100000 in
set_option maxHeartbeats 4000000 in
theorem backward_any (w : World) (p m q n : Nat) (L : List (Nat × Nat)) (D : List Bool) (hg : GraphIn w p m q n L D) :
    Calls Try.prog 65 #[.pointer (some ⟨p, 0, none⟩)] w fun e w' => ∃ vs vt ts T, e = .returned (.agg #[vs, vt]) ∧ Below w.heap.size w w' ∧ WalkIn w' vs vt ts n (idxTo D n) T ∧ (∀ i b, i < n → (b ∈ T.getD i [] ↔ (b, i) ∈ L)) := by
  have hmk := makeRows n (by have := hg.le; omega)
  have hp := hg.pLt
  have hn40 := hg.le
  have HG : Hid (GraphIn w p m q n L D) := hg
  have HS : Hid (∀ W, Below w.heap.size w W → W.cell? ⟨p, 0, none⟩ = some (.int .i64 n) ∧ W.cell? ⟨p, 2, none⟩ = some (.slice (some ⟨q, 0, none⟩) n n)) := fun W hW => ⟨(hg.below hW).c0, (hg.below hW).c2⟩
  have HLI : Hid (∀ W, Below w.heap.size w W → Calls Try.prog 77 #[.slice (some ⟨q, 0, none⟩) n n] W fun e w' => ∃ v', e = .returned v' ∧ OwnS w' W.heap.size 3 1 v' (idxTo D n).length (nums (idxTo D n)) ∧ Below W.heap.size W w' ∧ Below w.heap.size w w' ∧ W.heap.size ≤ w'.heap.size) := fun W hW => listed_in hg W hW
  clear hg
  go_enter Try.func65, Try.ntmps65
  go_upto_region 1 with fail
  go_cut [3] from 5 (fun s3 wx => BwRel w n D s3 wx)
  case first =>
    have hc := HS.out (w.alloc (.cells #[.slice none 0 0, .slice none 0 0] 103)) ((Below.refl _ _).alloc (Nat.le_refl _) _)
    obtain ⟨hc0, hc2⟩ := hc
    go_region_held3 (fun w' => w'.cell? ⟨p, 0, none⟩ = some (.int .i64 n) ∧ w'.cell? ⟨p, 2, none⟩ = some (.slice (some ⟨q, 0, none⟩) n n))
      ((refine HS.out _ ?_; (repeat (first | assumption | exact Below.refl _ _ | apply Below.drew | refine Below.setCell ?_ (by first | omega | (simp <;> omega)) _ | refine Below.alloc ?_ (by first | omega | (simp <;> omega)) _))))
      (first | (go_at_call 77; refine (HLI.out _ ?_).mono ?_; (repeat (first | assumption | exact Below.refl _ _ | apply Below.drew | refine Below.setCell ?_ (by first | omega | (simp <;> omega)) _ | refine Below.alloc ?_ (by first | omega | (simp <;> omega)) _)); rintro e w1 ⟨v1, rfl, hown1, hbel1, hB1, hs1⟩; have hs2 := hB1.size; obtain ⟨ao1, cp1, rfl⟩ := hown1.len; obtain ⟨hcc, hff⟩ := bcell hbel1; obtain ⟨hcm, hfm⟩ := bcell (hbel1.alloc hs1 (.cells (Array.replicate n (.slice none 0 0)) 26))))
    all_goals (go_wp2_with fail)
    all_goals go_meet
    all_goals simp only [World.heap_size_alloc', World.heap_size_drew'] at hs1
    · exact bw_meet (w1.heap.size + 1) w1.heap.size hbel1 hown1 hB1 (heap_new rfl) (fun k _ hk => by rw [Below.heap_alloc _ _ _ (by simp; omega), Below.heap_alloc _ _ _ hk]) (by simp; omega) rfl rfl rfl (.inr (by omega)) (heap_new (by simp)) (by rw [Below.heap_alloc _ _ _ (by simp), heap_new rfl]) (by omega) (by omega)
    · exact bw_meet w1.heap.size (w1.heap.size + 1) hbel1 hown1 hB1 (heap_new rfl) (fun k _ hk => by rw [Below.heap_alloc _ _ _ (by simp; omega), Below.heap_alloc _ _ _ hk]) (by simp; omega) rfl rfl rfl (.inr (by omega)) (by rw [Below.heap_alloc _ _ _ (by simp), heap_new rfl]) (heap_new (by simp)) (by omega) (by omega)
    · exact bw_meet w1.heap.size (w.heap.size + 1) hbel1 hown1 hB1 ((Below.heap_alloc _ _ _ (by simp)).trans (heap_new rfl)) (fun k _ hk => Below.heap_alloc _ _ _ hk) (by simp) rfl rfl rfl (.inr (Nat.le_refl _)) (heap_new rfl) (by rw [Below.heap_alloc _ _ _ (by omega)]; exact (hbel1.block _ (by simp)).trans (heap_new (by simp))) (by omega) (by omega)
    · exact bw_meet (w.heap.size + 1 + 1) (w.heap.size + 1) hbel1 hown1 hB1 ((Below.heap_alloc _ _ _ (by simp <;> omega)).trans ((Below.heap_alloc _ _ _ (by simp)).trans (heap_new rfl))) (fun k hk _ => two_set_other hk) (by rw [two_set_size]; exact Nat.le_refl _) rfl rfl rfl (.inl (by simp)) (two_set ((hbel1.block _ (by simp)).trans (heap_new (by simp)))) (by rw [two_set_other (by omega)]; exact (hbel1.block _ (by simp <;> omega)).trans ((Below.heap_alloc _ _ _ (by simp)).trans (heap_new (by simp)))) (by omega) (by omega)
    · exact bw_meet (w.heap.size + 1) w1.heap.size hbel1 hown1 hB1 ((Below.heap_alloc _ _ _ (by simp)).trans (heap_new rfl)) (fun k hk hl => (two_set_other hk).trans (Below.heap_alloc _ _ _ hl)) (by rw [two_set_size]; simp) rfl rfl rfl (.inl (by simp)) (two_set ((Below.heap_alloc _ _ _ (by omega)).trans ((hbel1.block _ (by simp)).trans (heap_new (by simp))))) (by rw [two_set_other (by omega), heap_new rfl]) (by omega) (by omega)
    · exact bw_meet (w.heap.size + 1) (w.heap.size + 1 + 1) hbel1 hown1 hB1 ((Below.heap_alloc _ _ _ (by simp <;> omega)).trans ((Below.heap_alloc _ _ _ (by simp)).trans (heap_new rfl))) (fun k hk _ => two_set_other hk) (by rw [two_set_size]; exact Nat.le_refl _) rfl rfl rfl (.inl (by simp <;> omega)) (two_set ((hbel1.block _ (by simp <;> omega)).trans ((Below.heap_alloc _ _ _ (by simp)).trans (heap_new (by simp))))) (by rw [two_set_other (by omega)]; exact (hbel1.block _ (by simp)).trans (heap_new (by simp))) (by omega) (by omega)
  case rest =>
    obtain ⟨b3, gt, vs, rfl, h3, hgt, hvs, hres, hbel, l1, l2⟩ := hcut
    have hgx := HG.out.below hbel
    have c1 := hgx.c1
    obtain ⟨o, hrng, hit0⟩ := hgx.edges.range
    have hs0 := hbel.size
    have hbx := blk_lt h3
    have hgx2 := blk_lt hgt
    have hrow0 : Rowed (wc.alloc o) (wc.heap.size + 1) b3 gt vs n (List.replicate n (.slice none 0 0)) (List.replicate n []) :=
      rowed_begin _ _ _ _ _ _ ((Below.heap_alloc _ _ _ hbx).trans h3) ((Below.heap_alloc _ _ _ hgx2).trans hgt) (by omega) (by omega) (by simp)
    have H0 : Hid (Rowed (wc.alloc o) (wc.heap.size + 1) b3 gt vs n (List.replicate n (.slice none 0 0)) (List.replicate n []) ∧ EIter (wc.alloc o) wc.heap.size m L L ∧ Laid Prod.swap n L L (List.replicate n []) ∧ BwKeep w wc (wc.alloc o) gt n D vs) :=
      ⟨hrow0, hit0, laid_start _ n L HG.out.edges.nodup, bw_keep0 hvs hres hbel o⟩
    have HVS : Hid (OwnS wc (w.heap.size + 1) 3 1 vs (idxTo D n).length (nums (idxTo D n))) := hvs
    have hml : m < wc.heap.size := Nat.lt_of_lt_of_le HG.out.mLt hs0
    clear hit0 hrow0 hgx h3 hgt hres hbel hmk hvs
    go_wp2_with fail
    go_loopw [4] (fun _ wr => ∃ (R : List (Nat × Nat)) (ts : List Value) (T : List (List Nat)), Rowed wr (wc.heap.size + 1) b3 gt vs n ts T ∧ EIter wr wc.heap.size m L R ∧ Laid Prod.swap n L R T ∧ BwKeep w wc wr gt n D vs) (fun _ wr => iterLeft wc.heap.size m wr)
    case atStart => exact ⟨_, _, _, H0.out⟩
    case round =>
      obtain ⟨R, ts, T, hrow, hit, hlaid, hkp⟩ := hrel
      clear H0 c1 hrng
      by_cases hR : R = []
      · subst hR
        have hover := hit.over
        obtain ⟨aoV, cpV, hvf⟩ := HVS.out.len
        have d0 : wr.cell? ⟨b3, 0, none⟩ = some vs := by simp [World.cell?, hrow.hb3]
        have d1 : wr.cell? ⟨b3, 1, none⟩ = some (.slice (some ⟨gt, 0, none⟩) n n) := by simp [World.cell?, hrow.hb3]
        have e0 : wr.cell? ⟨w.heap.size, 0, none⟩ = some (.slice none 0 0) := by simp [World.cell?, hkp.res]
        have e1 : wr.cell? ⟨w.heap.size, 1, none⟩ = some (.slice none 0 0) := by simp [World.cell?, hkp.res]
        have f0 : wr.frozen? ⟨w.heap.size, 0, none⟩ = false := by simp [World.frozen?, hkp.res]
        have f1 : wr.frozen? ⟨w.heap.size, 1, none⟩ = false := by simp [World.frozen?, hkp.res]
        have hfin : Hid (∀ u0 u1 : Value, WalkIn ((wr.setCell ⟨w.heap.size, 0, none⟩ u0).setCell ⟨w.heap.size, 1, none⟩ u1) vs (.slice (some ⟨gt, 0, none⟩) n n) ts n (idxTo D n) T ∧ Below w.heap.size w ((wr.setCell ⟨w.heap.size, 0, none⟩ u0).setCell ⟨w.heap.size, 1, none⟩ u1) ∧ (∀ i b, i < n → (b ∈ T.getD i [] ↔ (b, i) ∈ L))) := by
          intro u0 u1
          have ht : Turned wr ((wr.setCell ⟨w.heap.size, 0, none⟩ u0).setCell ⟨w.heap.size, 1, none⟩ u1) w.heap.size :=
            ⟨rfl, rfl, rfl, by simp [World.setCell], fun k hk => (Below.heap_setCell _ _ _ _ hk).trans (Below.heap_setCell _ _ _ _ hk)⟩
          have hrow' := hrow.turned ht (by omega) (by omega) (by omega)
          have hvs' : OwnS ((wr.setCell ⟨w.heap.size, 0, none⟩ u0).setCell ⟨w.heap.size, 1, none⟩ u1) (w.heap.size + 1) 3 1 vs (idxTo D n).length (nums (idxTo D n)) := hkp.own.of_block fun k hk => ht.block k (by have := (hkp.own.lt k hk).1; omega)
          have hidx := idxTo_le D n
          refine ⟨rowed_walk hrow' hlaid (fun x hx => ⟨(HG.out.lt x hx).2, (HG.out.lt x hx).1⟩) (pairs40 HG.out) hvs'.rd (fun a ha => ?_) (by omega) HG.out.pos HG.out.le, hkp.bel.trans (ht.below (Nat.le_refl _)), fun i b hi => ?_⟩
          · simp only [idxTo, List.mem_filter, List.mem_range] at ha
            exact ha.1
          · rw [hlaid.mem i b hi]
            constructor
            · rintro ⟨x, h1, _, h2⟩
              have : x = (b, i) := by have := congrArg Prod.swap h2; simpa using this
              rw [← this]; exact h1
            · intro h1
              exact ⟨(b, i), h1, by simp, rfl⟩
        subst hvf
        clear hit hlaid hrow hkp
        go_wp2_with fail
        exact bodyPost_ret (v := .agg #[.slice aoV (idxTo D n).length cpV, .slice (some ⟨gt, 0, none⟩) n n]) (by simp [results, Try.results65, go_sem, e0, e1]) rfl ⟨_, _, _, _, rfl, (hfin.out _ _).2.1, (hfin.out _ _).1, (hfin.out .nilIface .nilIface).2.2⟩
      · obtain ⟨⟨b, i⟩, A, B, w1, rfl, hnext, hturn, hit1, hxL, hrm, hentry⟩ := hit.step hR
        have hib := HG.out.lt _ hxL
        have hne := hit.rNe hrow.hgt
        have hne3 := hit.rNe hrow.hb3
        have hrow1 := hrow.turned hturn hne3.1 hne.1 (by omega)
        obtain ⟨v, hv⟩ : ∃ v, ts[i]? = some v := ⟨_, List.getElem?_eq_getElem (by rw [hrow.lts]; exact hib.2)⟩
        obtain ⟨ao, cap, hform⟩ := (hrow1.own i v hv).len
        have hcame : Came w1 (wc.heap.size + 1) b3 gt vs n ts T wc.heap.size m L (A ++ B) i b b i v ao cap :=
          ⟨hrow1, hit1, hv, hform, hib.2, by omega, by omega⟩
        obtain ⟨s1, s2, s3, s4, s5⟩ := hcame.cells (w1.alloc (.cells #[.int .i64 (b : Int), .int .i64 (i : Int)] 108)) (fun _ _ _ => rfl)
        have hlen := hlaid.len i
        have hL40 := pairs40 HG.out
        have hlen2 : (T.getD i []).length ≤ 1600 := by omega
        have hb5 := hrow1.lb
        have HC : Hid (Came w1 (wc.heap.size + 1) b3 gt vs n ts T wc.heap.size m L (A ++ B) i b b i v ao cap) := hcame
        have HLAID := laid_put hlaid hrow.lT hib.2
        have HL2 : Hid (Laid Prod.swap n L (A ++ B) (T.set i (T.getD i [] ++ [b]))) := HLAID
        have HMU : Hid (iterLeft wc.heap.size m wr = (A ++ (b, i) :: B).length) := hit.left
        have hi1 : (0 : Int) ≤ (i : Int) := by omega
        have hi2 : (i : Int) < (n : Int) := by omega
        subst hform
        generalize hlT : T.getD i [] = Ti at hlen2 s4 HL2
        have HT : Hid (T.getD i [] = Ti) := hlT
        obtain ⟨⟨q1, q2, q3, q5⟩, q4⟩ := HC.out.keep1 HT.out (.cells #[.int .i64 (b : Int)] 3)
        obtain ⟨g, off, cp, w2, happ, hown2, hgrow2, hloc2⟩ := HC.out.app HT.out hlen2
        obtain ⟨⟨r1, r2, r3, r5⟩, r4⟩ := HC.out.keep2 HT.out hgrow2
        have hput := HC.out.put (b := b) (o := .cells #[.int .i64 (b : Int)] 3) (w2 := w2) (g := g) (off := off) (cp := cp) (by rw [HT.out]; exact ⟨hgrow2.os, hgrow2.tape, hgrow2.output, hgrow2.size, hgrow2.block⟩) (by rw [HT.out]; exact hown2) (by rw [HT.out]; exact hloc2)
        rw [HT.out] at hput
        have hfin : Hid (∃ (R : List (Nat × Nat)) (ts : List Value) (T : List (List Nat)), Rowed (w2.setCell ⟨gt, i, none⟩ (.slice (some ⟨g, off, none⟩) (Ti.length + 1) cp)) (wc.heap.size + 1) b3 gt vs n ts T ∧ EIter (w2.setCell ⟨gt, i, none⟩ (.slice (some ⟨g, off, none⟩) (Ti.length + 1) cp)) wc.heap.size m L R ∧ Laid Prod.swap n L R T ∧ BwKeep w wc (w2.setCell ⟨gt, i, none⟩ (.slice (some ⟨g, off, none⟩) (Ti.length + 1) cp)) gt n D vs) := by
          obtain ⟨k1, k2, k3, k4, k5, k6, k7⟩ := hput
          refine ⟨_, _, _, k1, k2, HL2.out, hkp.step (fun k hk hg' => ?_) (by rw [← hturn.size]; exact k4) (k5.trans hturn.os) (k6.trans hturn.tape) (k7.trans hturn.output) hrow.hgt l2⟩
          rw [k3 k (by omega) hg', hturn.block _ (by omega)]
        have hmu : Hid (iterLeft wc.heap.size m (w2.setCell ⟨gt, i, none⟩ (.slice (some ⟨g, off, none⟩) (Ti.length + 1) cp)) < iterLeft wc.heap.size m wr) := by
          show _ < _
          rw [HMU.out, hput.2.1.left]
          simp
        clear hput
        clear hlT HLAID hcame hrow1 hrow hit1 hit hlaid hkp hturn hib hne hne3 hR hlen hL40 hv hrm hxL
        go_wp2_with fail
        go_region
        all_goals go_wp2
        all_goals go_roundw
        case rel => exact hfin.out
        case measure => exact hmu.out

end Go.Proofs.Ytbddcodljmglfaa
