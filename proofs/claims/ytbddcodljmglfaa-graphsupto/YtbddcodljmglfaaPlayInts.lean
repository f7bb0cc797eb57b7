/- ints: a list is filled with its mark, grown, and held. -/
import Derived.Test.YtbddcodljmglfaaPlayHold
set_option linter.unusedSimpArgs false
set_option linter.unusedVariables false
namespace Go.Proofs.Ytbddcodljmglfaa
open Go.RowKit

theorem infoHeld : (Try.prog.info? 86).map (fun i => (i.zero, i.size, i.bytes)) = some (some (.agg #[.slice none 0 0, .int .i64 0]), 2, 32) := by kernel_rfl

/-- The state while a list is grown and held: i times so far. -/
structure HoldI (w0 w wr : World) (κ κ' : Nat → Role) (bw : Nat) (vg vr vh vh' v sg : Value) (G : List GSt) (N : Nat) (H H' : List HSt) (n i : Nat) (m : Int) : Prop where
  pl : PlIn w0 wr κ' bw vg vr vh' G N H'
  own : OwnS wr w0.heap.size 3 1 sg n (marks n m)
  ksg : ∀ k, sg.ownBlock = some k → κ' k = .held
  pre : Pre H' sg n m
  len : H'.length = H.length + i
  grew : Grew w wr (fun k => k = bw ∨ vh.ownBlock = some k ∨ v.ownBlock = some k)
  kept : ∀ k, k < w.heap.size → v.ownBlock ≠ some k → κ' k = κ k
  vhn : ∀ k, vh'.ownBlock = some k → vh.ownBlock = some k ∨ w.heap.size ≤ k
  sgn : ∀ k, sg.ownBlock = some k → v.ownBlock = some k ∨ w.heap.size ≤ k
  khs : ∀ k, vh.ownBlock = some k → κ k = .hs
  small : n ≤ 10000000

section
variable {w0 w wr w3 : World} {κ κ' : Nat → Role} {bw : Nat} {vg vr vh vh' v sg : Value} {G : List GSt} {N : Nat} {H H' : List HSt} {n i : Nat} {m : Int}

theorem HoldI.hold (h : HoldI w0 w wr κ κ' bw vg vr vh vh' v sg G N H H' n i m) {o : Obj} {g' off' cap' : Nat} (hown : OwnS w3 w0.heap.size 86 2 (.slice (some ⟨g', off', none⟩) (H'.length + 1) cap') (H'.length + 1) (hcells H' ++ [sg, .int .i64 m])) (hgrow : (wr.alloc o).grownBy w3 vh'.ownBlock) (hloc : (∃ cap0, vh' = .slice (some ⟨g', off', none⟩) H'.length cap0) ∨ (g' = (wr.alloc o).heap.size ∧ ∀ k, k < (wr.alloc o).heap.size → w3.heap[k]? = (wr.alloc o).heap[k]?)) (hlt : g' < w3.heap.size) :
    HoldI w0 w (w3.setCell ⟨bw, 3, none⟩ (.slice (some ⟨g', off', none⟩) (H'.length + 1) cap')) κ (fun k => if k = g' then .hs else κ' k) bw vg vr vh (.slice (some ⟨g', off', none⟩) (H'.length + 1) cap') v sg G N H (H' ++ [⟨sg, n, m⟩]) n (i + 1) m := by
  have hpl := h.pl.pushH ⟨sg, n, m⟩ hown hgrow hloc hlt ⟨h.own.rd, h.small, fun k hk => ⟨h.ksg k hk, (h.own.lt k hk).2⟩⟩
  have hsz : wr.heap.size ≤ w3.heap.size := by have := hgrow.size; simp at this; omega
  have hgn : ∀ k, k < wr.heap.size → κ' k ≠ .hs → k ≠ g' := by
    intro k hk hne e
    subst e
    rcases hloc with ⟨c, hc⟩ | ⟨hc, _⟩
    · exact hne (h.pl.khs k (by rw [hc]; rfl))
    · simp at hc; omega
  have hbw := h.pl.khead
  refine ⟨hpl, ?_, fun k hk => ?_, fun e he k hk1 hk2 => ?_, by simp [h.len]; omega, ?_, fun k hl hne => ?_, fun k hk => ?_, h.sgn, h.khs, h.small⟩
  · refine h.own.of_block fun k hk => ?_
    have hkh := h.ksg k hk
    rw [Below.heap_setCell _ _ _ _ (fun e => by rw [show k = bw from e, hbw.1] at hkh; simp at hkh), hgrow.block k (by have := (h.own.lt k hk).2; simp; omega) (fun e => by rw [h.pl.khs k e.symm] at hkh; simp at hkh)]
    exact Below.heap_alloc _ _ _ (h.own.lt k hk).2
  · show (if k = g' then Role.hs else κ' k) = .held
    rw [if_neg (hgn k (h.own.lt k hk).2 (by rw [h.ksg k hk]; simp))]
    exact h.ksg k hk
  · rcases List.mem_append.1 he with he | he
    · exact h.pre e he k hk1 hk2
    · rw [List.mem_singleton.1 he] at hk1 ⊢
      rcases h.own.2 with ⟨e1, _⟩ | ⟨g1, off1, cap1, cur, e1, _⟩
      · rw [e1] at hk1
        simp [Value.ownBlock] at hk1
      · have e2 : g1 = k := by rw [e1] at hk1; simpa [Value.ownBlock] using hk1
        subst e2
        exact ⟨off1, cap1, cap1, e1, e1, Nat.le_refl _, rfl⟩
  · have hs := h.grew.size
    have g1 : Grew wr (w3.setCell ⟨bw, 3, none⟩ (.slice (some ⟨g', off', none⟩) (H'.length + 1) cap')) (fun k => k = bw ∨ vh'.ownBlock = some k) := by
      refine ⟨hgrow.os, hgrow.tape, hgrow.output, by simp [World.setCell]; omega, fun k hm hl => ?_⟩
      rw [Below.heap_setCell _ _ _ _ (fun e => hm (.inl e)), hgrow.block k (by simp; omega) (fun e => hm (.inr e.symm))]
      exact Below.heap_alloc _ _ _ hl
    refine ⟨g1.os.trans h.grew.os, g1.tape.trans h.grew.tape, g1.output.trans h.grew.output, Nat.le_trans h.grew.size g1.size, fun k hm hl => ?_⟩
    rw [g1.block k (fun hc => ?_) (by omega)]
    · exact h.grew.block k hm hl
    · rcases hc with hc | hc
      · exact hm (.inl hc)
      · rcases h.vhn k hc with h2 | h2
        · exact hm (.inr (.inl h2))
        · omega
  · show (if k = g' then Role.hs else κ' k) = κ k
    split
    · rename_i e
      subst e
      rcases hloc with ⟨c, hc⟩ | ⟨hc, _⟩
      · rcases h.vhn k (by rw [hc]; rfl) with h2 | h2
        · exact (h.khs k h2).symm
        · omega
      · have := h.grew.size
        simp at hc
        omega
    · exact h.kept k hl hne
  · have e1 : g' = k := by simpa [Value.ownBlock] using hk
    subst e1
    rcases hloc with ⟨c, hc⟩ | ⟨hc, _⟩
    · exact h.vhn g' (by rw [hc]; rfl)
    · have := h.grew.size
      simp at hc
      exact .inr (by omega)

theorem HoldI.after (h : HoldI w0 w wr κ κ' bw vg vr vh vh' v sg G N H H' n i m) {o : Obj} (hgrow : (wr.alloc o).grownBy w3 vh'.ownBlock) : w3.cell? ⟨bw, 3, none⟩ = some vh' ∧ w3.frozen? ⟨bw, 3, none⟩ = false := by
  have hb : w3.heap[bw]? = wr.heap[bw]? := by
    rw [hgrow.block bw (by have := h.pl.bwLt; simp; omega) (fun e => by have := h.pl.khs bw e.symm; rw [h.pl.khead.1] at this; simp at this)]
    exact Below.heap_alloc _ _ _ h.pl.bwLt
  constructor
  · rw [World.cell?_of_block (w := wr) hb]; exact h.pl.c3
  · simp [World.frozen?, hb, h.pl.head]

theorem HoldI.grow (h : HoldI w0 w wr κ κ' bw vg vr vh vh' v sg G N H H' n i m) {o : Obj} {g' off' cap' : Nat} (hn : n + 1 ≤ 10000000) (hown : OwnS w3 w0.heap.size 3 1 (.slice (some ⟨g', off', none⟩) (n + 1) cap') (n + 1) (marks n m ++ [.int .i64 m])) (hgrow : (wr.alloc o).grownBy w3 sg.ownBlock) (hloc : (∃ cap0, sg = .slice (some ⟨g', off', none⟩) n cap0) ∨ (g' = (wr.alloc o).heap.size ∧ ∀ k, k < (wr.alloc o).heap.size → w3.heap[k]? = (wr.alloc o).heap[k]?)) (hlt : g' < w3.heap.size) :
    HoldI w0 w w3 κ (fun k => if k = g' then .held else κ' k) bw vg vr vh vh' v (.slice (some ⟨g', off', none⟩) (n + 1) cap') G N H H' (n + 1) i m := by
  obtain ⟨hpl, hpre⟩ := h.pl.pushG h.own h.ksg h.pre hown hgrow hloc hlt
  have hsz : wr.heap.size ≤ w3.heap.size := by have := hgrow.size; simp at this; omega
  have hm' : marks n m ++ [.int .i64 m] = marks (n + 1) m := by simp [marks, List.replicate_succ']
  refine ⟨hpl, by rw [← hm']; exact hown, fun k hk => ?_, hpre, h.len, ?_, fun k hl hne => ?_, h.vhn, fun k hk => ?_, h.khs, hn⟩
  · have e1 : g' = k := by simpa [Value.ownBlock] using hk
    show (if k = g' then Role.held else κ' k) = .held
    rw [if_pos e1.symm]
  · have hs := h.grew.size
    have g1 : Grew wr w3 (fun k => sg.ownBlock = some k) := by
      refine ⟨hgrow.os, hgrow.tape, hgrow.output, hsz, fun k hm hl => ?_⟩
      rw [hgrow.block k (by simp; omega) (fun e => hm e.symm)]
      exact Below.heap_alloc _ _ _ hl
    refine ⟨g1.os.trans h.grew.os, g1.tape.trans h.grew.tape, g1.output.trans h.grew.output, Nat.le_trans h.grew.size g1.size, fun k hm hl => ?_⟩
    rw [g1.block k (fun hc => ?_) (by omega)]
    · exact h.grew.block k hm hl
    · rcases h.sgn k hc with h2 | h2
      · exact hm (.inr (.inr h2))
      · omega
  · show (if k = g' then Role.held else κ' k) = κ k
    split
    · rename_i e
      subst e
      rcases hloc with ⟨c, hc⟩ | ⟨hc, _⟩
      · rcases h.sgn k (by rw [hc]; rfl) with h2 | h2
        · exact absurd h2 hne
        · omega
      · have := h.grew.size
        simp at hc
        omega
    · exact h.kept k hl hne
  · have e1 : g' = k := by simpa [Value.ownBlock] using hk
    subst e1
    rcases hloc with ⟨c, hc⟩ | ⟨hc, _⟩
    · exact h.sgn g' (by rw [hc]; rfl)
    · have := h.grew.size
      simp at hc
      exact .inr (by omega)
end

theorem heldOne (ao : Option Addr) (n c : Nat) (m : Int) : ∀ u ∈ [Value.slice ao n c, Value.int .i64 m], u.oneCell' = true := by
  intro u hu
  simp at hu
  rcases hu with rfl | rfl <;> rfl
theorem markOne (m : Int) : ∀ u ∈ [Value.int .i64 m], u.oneCell' = true := by
  intro u hu
  simp at hu
  subst hu
  rfl

set_option maxRecDepth 100000 in
set_option maxHeartbeats 4000000 in
theorem ints_any (w0 w : World) (κ : Nat → Role) (bw : Nat) (vg vr vh : Value) (G : List GSt) (N : Nat) (H : List HSt) (h : PlIn w0 w κ bw vg vr vh G N H) (v : Value) (len : Nat) (xs : List Value) (hv : OwnS w w0.heap.size 3 1 v len xs) (hk : ∀ k, v.ownBlock = some k → κ k = .other) (hlen : len ≤ 2000000) (hN : N ≤ 4000000000) (hH : H.length ≤ 4000000000) :
    Calls Try.prog 53 #[.pointer (some ⟨bw, 2, none⟩), v] w fun e w' => e = .returned (.tuple #[]) ∧ ∃ κ' vh' H', PlIn w0 w' κ' bw vg vr vh' G (N + 1) H' ∧ H'.length = H.length + 4 ∧ Grew w w' (fun k => k = bw ∨ vh.ownBlock = some k ∨ v.ownBlock = some k) ∧ (∀ k, k < w.heap.size → v.ownBlock ≠ some k → κ' k = κ k) := by
  obtain ⟨ao, cp, rfl⟩ := hv.len
  have HP : Hid (PlIn w0 w κ bw vg vr vh G N H) := h
  have HV : Hid (OwnS w w0.heap.size 3 1 (.slice ao len cp) len xs) := hv
  have HK : Hid (∀ k, (Value.slice ao len cp).ownBlock = some k → κ k = .other) := hk
  have c2 := h.c2
  have f2 := h.f 2
  clear h hv hk
  go_enter Try.func53, Try.ntmps53
  go_wp2_with fail
  have HP1 : Hid (PlIn w0 (w.setCell ⟨bw, 2, none⟩ (.int .i64 ((N : Int) + 1))) κ bw vg vr vh G (N + 1) H) := by
    have := HP.out.setN (N + 1)
    show PlIn _ _ _ _ _ _ _ _ _ _
    simpa using this
  have hxl := HV.out.1
  have hkh := HP.out.khead
  have HV1 : Hid (OwnS (w.setCell ⟨bw, 2, none⟩ (.int .i64 ((N : Int) + 1))) w0.heap.size 3 1 (.slice ao len cp) len (fillTo xs 0 (-1000 - ((N : Int) + 1)))) := by
    refine OwnS.of_block (w := w) (by simpa [fillTo, marks] using HV.out) fun k hk => Below.heap_setCell _ _ _ _ (fun e => ?_)
    have := HK.out k hk
    rw [show k = bw from e, hkh.1] at this
    simp at this
  have HG1 : Hid (Grew w (w.setCell ⟨bw, 2, none⟩ (.int .i64 ((N : Int) + 1))) (fun k => k = bw ∨ vh.ownBlock = some k ∨ (Value.slice ao len cp).ownBlock = some k)) := grew_set.mono (fun k hk => .inl hk)
  generalize (-1000 - ((N : Int) + 1)) = m at HV1 ⊢
  clear c2 f2 hkh
  go_loopg [5] len (fun gk s5 wr => ∃ k : Nat, k + gk = len ∧ s5 = .int .i64 k ∧ Hid (PlIn w0 wr κ bw vg vr vh G (N + 1) H) ∧ Hid (OwnS wr w0.heap.size 3 1 (.slice ao len cp) len (fillTo xs k m)) ∧ Hid (Grew w wr (fun k => k = bw ∨ vh.ownBlock = some k ∨ (Value.slice ao len cp).ownBlock = some k)))
  case atStart => exact ⟨0, by omega, rfl, HP1, HV1, HG1⟩
  case round =>
    clear HP1 HV1 HG1
    obtain ⟨k, hkg, rfl, hp, ho, hgr⟩ := hrel
    by_cases hlt : k < len
    · obtain ⟨g, off, cap, he⟩ := ho.out.some_of_pos (by omega)
      simp only [Value.slice.injEq] at he
      obtain ⟨rfl, -, rfl⟩ := he
      obtain ⟨⟨u, cu, -⟩, fu⟩ := ho.out.cellAt hlt
      have hkg2 := HK.out g rfl
      have hlo := (ho.out.lt g rfl).1
      have HP2 : Hid (PlIn w0 (wr.setCell ⟨g, off + k, none⟩ (.int .i64 m)) κ bw vg vr vh G (N + 1) H) := hp.out.keep (grew_set (o := off + k)) (fun k hk => by subst hk; exact ⟨hkg2, hlo⟩)
      have HO2 : Hid (OwnS (wr.setCell ⟨g, off + k, none⟩ (.int .i64 m)) w0.heap.size 3 1 (.slice (some ⟨g, off, none⟩) len cp) len (fillTo xs (k + 1) m)) := by
        rw [← fillTo_succ (by omega)]
        exact ho.out.setAt k _
      have HG2 : Hid (Grew w (wr.setCell ⟨g, off + k, none⟩ (.int .i64 m)) (fun k => k = bw ∨ vh.ownBlock = some k ∨ (Value.slice (some ⟨g, off, none⟩) len cp).ownBlock = some k)) := hgr.out.trans (grew_set.mono (fun k hk => .inr (.inr (by rw [hk]; rfl))))
      clear hkg2 hlo hp ho hgr
      go_wp2_with fail
      go_roundg (len - (k + 1))
      case measure => omega
      case rel => exact ⟨k + 1, by omega, by go_num, HP2, HO2, HG2⟩
    · obtain rfl : k = len := by omega
      have HI0 : Hid (HoldI w0 w wr κ (fun j => if (Value.slice ao k cp).ownBlock = some j then .held else κ j) bw vg vr vh vh (.slice ao k cp) (.slice ao k cp) G (N + 1) H H k 0 m) := by
        refine ⟨hp.out.relabel (fun j hj => ?_) (fun j hj => ?_), by have := ho.out; rw [fillTo_all (by omega)] at this; exact this, fun j hj => by simp [hj], fun e he j h1 h2 => ?_, rfl, hgr.out, fun j _ hne => by simp [hne], fun j hj => .inl hj, fun j hj => .inl hj, HP.out.khs, by omega⟩
        · by_cases e : (Value.slice ao k cp).ownBlock = some j
          · exact absurd (HK.out j e) hj
          · simp [e]
        · have hne : (Value.slice ao k cp).ownBlock ≠ some j := fun e => by have := (ho.out.lt j e).2; omega
          simp [hne, hp.out.fresh j hj]
        · have := ((hp.out.lists e he).2.2 j h1).1
          rw [HK.out j h2] at this
          simp at this
      go_wp2_with fail
      clear hp ho hgr
      obtain ⟨i1, hi1, hy0, hy1, hy2⟩ := info_parts infoHeld
      obtain ⟨i0, hi0, hz0, hz1, hz2⟩ := info_parts infoInt
      go_loopg [6, 7] 3 (fun gk s6 s7 wr => ∃ (i n : Nat) (κ' : Nat → Role) (vh' : Value) (H' : List HSt), i + gk = 3 ∧ s7 = .int .i64 i ∧ Hid (n = k + i) ∧ Hid (HoldI w0 w wr κ κ' bw vg vr vh vh' (.slice ao k cp) s6 G (N + 1) H H' n i m))
      case atStart => exact ⟨0, k, _, vh, H, by omega, rfl, rfl, HI0⟩
      case round =>
        clear HI0
        obtain ⟨i, n, κ', vh', H', hig, rfl, HN, hh⟩ := hrel
        obtain ⟨ao6, cp6, rfl⟩ := hh.out.own.len
        obtain ⟨ao3, cp3, rfl⟩ := hh.out.pl.hs.len
        have c3 := hh.out.pl.c3
        have f3 := hh.out.pl.f 3
        have hHb : H'.length ≤ 4000000010 := by have := hh.out.len; omega
        have hbs := hh.out.pl.bel.size
        have hnb : n ≤ 2000010 := by have := HN.out; omega
        by_cases hlt : i < 3
        · go_wp2_with (first
            | (at_builtin; have hq9 := HH2; refine wpList_append_own2 _ rfl _ _ 26 rfl w0.heap.size 3 i0 (.int .i64 0) 1 8 Try.underlying26 hi0 hz0 hz1 hz2 rfl (by decide) _ _ _ rfl (HH2.out.own.alloc _) ⟨w6.heap.size, 0, none⟩ 1 1 [.int .i64 m] rfl rfl (cell_new1' _ _ _ _ (by simp)) (markOne m) (by decide) (by unfold maxLen; omega) (by omega) (by simp; omega) ?_; intro g2 off2 cap2 w7 hown7 hgrow7 hloc7 hlt7)
            | (at_builtin; refine wpList_append_own2 _ rfl _ _ 48 rfl w0.heap.size 86 i1 _ 2 32 Try.underlying48 hi1 hy0 hy1 hy2 rfl (by decide) _ _ _ rfl (hh.out.pl.hs.alloc _) ⟨wr.heap.size, 0, none⟩ 1 1 [.slice ao6 n cp6, .int .i64 m] rfl rfl (cell_new2 wr _ _ _ _ rfl) (heldOne _ _ _ _) (by decide) (by unfold maxLen; omega) (by omega) (by simp; omega) ?_; intro g1 off1 cap1 w6 hown6 hgrow6 hloc6 hlt6; have HH2 : Hid _ := hh.out.hold hown6 hgrow6 hloc6 hlt6; have hbs6 : w0.heap.size ≤ w6.heap.size := (by have h9 := HH2.out.pl.bel.size; simpa [World.setCell] using h9); obtain ⟨c6, f6⟩ := hh.out.after hgrow6; clear hown6 hgrow6 hloc6 hlt6))
          have HH3 : Hid _ := HH2.out.grow (by omega) hown7 hgrow7 hloc7 hlt7
          go_roundg (3 - (i + 1))
          case measure => omega
          case rel => exact ⟨i + 1, n + 1, _, _, _, by omega, by go_num, by show _ = _; have := HN.out; omega, HH3.out⟩
        · obtain rfl : i = 3 := by omega
          rw [show ((3 : Nat) : Int) = (3 : Int) from rfl]
          go_wp2_with (first
            | (at_builtin; refine wpList_append_own2 _ rfl _ _ 48 rfl w0.heap.size 86 i1 _ 2 32 Try.underlying48 hi1 hy0 hy1 hy2 rfl (by decide) _ _ _ rfl (hh.out.pl.hs.alloc _) ⟨wr.heap.size, 0, none⟩ 1 1 [.slice ao6 n cp6, .int .i64 m] rfl rfl (cell_new2 wr _ _ _ _ rfl) (heldOne _ _ _ _) (by decide) (by unfold maxLen; omega) (by omega) (by simp; omega) ?_; intro g1 off1 cap1 w6 hown6 hgrow6 hloc6 hlt6; have HH2 : Hid _ := hh.out.hold hown6 hgrow6 hloc6 hlt6; obtain ⟨c6, f6⟩ := hh.out.after hgrow6; clear hown6 hgrow6 hloc6 hlt6))
          go_end0
          exact ⟨rfl, _, _, _, HH2.out.pl, by have := HH2.out.len; simpa using this, HH2.out.grew, HH2.out.kept⟩

end Go.Proofs.Ytbddcodljmglfaa
