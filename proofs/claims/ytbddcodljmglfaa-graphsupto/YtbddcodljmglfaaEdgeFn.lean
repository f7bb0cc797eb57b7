/- edge: where ways leave what a is over, or come back to a. -/
import Derived.Test.YtbddcodljmglfaaAsk
set_option linter.unusedSimpArgs false
set_option linter.unusedVariables false
namespace Go.Proofs.Ytbddcodljmglfaa
open Go.RowKit

def OnEdge (L : List (Nat × Nat)) (a y : Nat) : Prop := (¬ HeldF L a y ∨ y = a) ∧ ∃ x, HeldF L a x ∧ (x, y) ∈ L

def qEdge (bs : List Bool) (L : List (Nat × Nat)) (n a y : Nat) : Bool := !(bs.getD y false && decide (y ≠ a)) && (List.range n).any (fun x => bs.getD x false && decide ((x, y) ∈ L))

def upTo (q : Nat → Bool) (k : Nat) : List Nat := (List.range k).filter q
theorem upTo_succ (q : Nat → Bool) (k : Nat) : upTo q (k + 1) = upTo q k ++ if q k then [k] else [] := by
  unfold upTo
  rw [List.range_succ, List.filter_append]
  simp only [List.filter_cons, List.filter_nil]
theorem upTo_le (q : Nat → Bool) (k : Nat) : (upTo q k).length ≤ k := by
  have := List.length_filter_le q (List.range k)
  simpa [upTo] using this

theorem qEdge_iff {bs : List Bool} {L : List (Nat × Nat)} {n a y : Nat} (hL : ∀ x ∈ L, x.1 < n ∧ x.2 < n) (hy : y < n) (h : ∀ b, b < n → (bs.getD b false = true ↔ HeldF L a b)) : qEdge bs L n a y = true ↔ OnEdge L a y := by
  simp only [qEdge, Bool.and_eq_true, Bool.not_eq_true', Bool.and_eq_false_iff, decide_eq_false_iff_not, Decidable.not_not, List.any_eq_true, List.mem_range, decide_eq_true_eq]
  unfold OnEdge
  constructor
  · rintro ⟨h1, x, hx, h2, h3⟩
    refine ⟨?_, x, (h x hx).1 h2, h3⟩
    rcases h1 with h1 | h1
    · exact .inl (fun h' => by rw [(h y hy).2 h'] at h1; simp at h1)
    · exact .inr (by simpa using h1)
  · rintro ⟨h1, x, h2, h3⟩
    have hx := (hL _ h3).1
    refine ⟨?_, x, hx, (h x hx).2 h2, h3⟩
    rcases h1 with h1 | h1
    · left
      cases hv : bs.getD y false
      · rfl
      · exact absurd ((h y hy).1 hv) h1
    · exact .inr (by simpa using h1)

set_option maxRecDepth 100000 in
set_option maxHeartbeats 4000000 in
theorem edge_any (w : World) (p m q n : Nat) (L : List (Nat × Nat)) (D : List Bool) (hg : GraphIn w p m q n L D) (vs vt : Value) (ts : List Value) (T : List (List Nat)) (hw : WalkIn w vs vt ts n [0] T) (hT : ∀ i b, i < n → (b ∈ T.getD i [] ↔ (i, b) ∈ L)) (a : Nat) (ha : a < n) :
    Calls Try.prog 78 #[.pointer (some ⟨p, 0, none⟩), .int .i64 a, .agg #[vs, vt]] w fun e w' => ∃ (v : Value) (qq : Nat → Bool), e = .returned v ∧ OwnS w' w.heap.size 3 1 v (upTo qq n).length (nums (upTo qq n)) ∧ (∀ y, y < n → (qq y = true ↔ OnEdge L a y)) ∧ Below w.heap.size w w' := by
  have hle := hg.le
  have HG : Hid (GraphIn w p m q n L D) := hg
  have hb0 : Below w.heap.size w (w.alloc (.cells #[vs, vt] 103)) := (Below.refl _ _).alloc (Nat.le_refl _) _
  have hcall := held_any _ vs vt ts n [0] T (a : Int) (hw.below hb0)
  have HC : Hid (Calls Try.prog 74 _ (w.alloc (.cells #[vs, vt] 103)) _) := hcall
  have HF : Hid (∀ b, Held (· ∈ [0]) (fun a c => c ∈ T.getD a []) a b ↔ HeldF L a b) := by
    intro b
    unfold Held HeldF
    rw [fwd_iff hg hw hT, fwd_iff hg hw hT]
  obtain ⟨-, ao, cap, rfl, -⟩ := hw.steps
  obtain ⟨-, ao9, cap9, rfl, -⟩ := hw.starts
  clear hg hcall hw hT hb0
  go_enter Try.func78, Try.ntmps78
  go_wp2_with fail
  go_step3
  go_wp2_with fail
  refine HC.out.mono ?_
  rintro e w2 ⟨gs, bs, rfl, hgs, hh2, hl2, ht2, hb2⟩
  have hB2 : Below w.heap.size w w2 := box_below hb2
  have HB2 : Hid (Below w.heap.size w w2) := hB2
  have HT2 : Hid (∀ b, b < n → (bs.getD b false = true ↔ HeldF L a b)) := fun b hb => (ht2 b hb).trans (HF.out b)
  have HH2 : Hid (w2.heap[gs]? = some (.cells (bits bs).toArray 4 (0, 0)) ∧ bs.length = n) := ⟨hh2, hl2⟩
  have c0 : w2.cell? ⟨p, 0, none⟩ = some (.int .i64 n) := (HG.out.below hB2).c0
  clear HC HF ht2 hh2 hl2 hb2 hB2 hgs
  go_wp2_with fail
  go_step3
  go_wp2_with fail
  go_loopg [8, 18] n (fun g s8 s18 wr => ∃ y : Nat, y + g = n ∧ s18 = .int .i64 y ∧ Hid (OwnS wr w2.heap.size 3 1 s8 (upTo (qEdge bs L n a) y).length (nums (upTo (qEdge bs L n a) y))) ∧ Hid (Below w2.heap.size w2 wr))
  case atStart => exact ⟨0, by omega, rfl, OwnS.nil _ _ _ _, Below.refl _ _⟩
  case round =>
    clear c0
    obtain ⟨y, hyg, rfl, hown, hbel⟩ := hrel
    by_cases hyn : y < n
    · have hcy := (cell_bits HH2.out.1 (k := y) (by rw [HH2.out.2]; exact hyn)).1
      have hgl := blk_lt HH2.out.1
      have hcy' : wr.cell? ⟨gs, y, none⟩ = some (.bool (bs.getD y false)) := by rw [hbel.out.cell hgl]; exact hcy
      have hgr := HG.out.below (HB2.out.trans (hbel.out.mono HB2.out.size))
      have c0 := hgr.c0
      have HGR : Hid (GraphIn wr p m q n L D) := hgr
      clear hcy hgr
      by_cases hskip : bs.getD y false = true ∧ y ≠ a
      · obtain ⟨h1, h2⟩ := hskip
        rw [h1] at hcy'
        have hq : Hid (qEdge bs L n a y = false) := by show _ = _; simp [-List.getD_eq_getElem?_getD, qEdge, h1, h2]
        have h3 : ((y : Int) == (a : Int)) = false := by simp; omega
        have h4 : ¬ (y : Int) = (a : Int) := by omega
        clear h1
        go_wp2_with fail
        go_roundg (n - (y + 1))
        case measure => omega
        case rel => exact ⟨y + 1, by omega, by go_num, by show OwnS _ _ _ _ _ _ _; rw [upTo_succ, hq.out]; simpa using hown.out, hbel⟩
      · have hq : Hid (qEdge bs L n a y = (List.range n).any (fun x => bs.getD x false && decide ((x, y) ∈ L))) := by
          show _ = _
          cases hv : bs.getD y false
          · simp [-List.getD_eq_getElem?_getD, qEdge, hv]
          · have : y = a := by
              by_cases e : y = a
              · exact e
              · exact absurd ⟨hv, e⟩ hskip
            simp [-List.getD_eq_getElem?_getD, qEdge, hv, this]
        have hall : ∃ c : Bool, bs.getD y false = c := ⟨_, rfl⟩
        obtain ⟨c, hc⟩ := hall
        rw [hc] at hcy'
        have hca : c = false ∨ (c = true ∧ y = a) := by
          cases c
          · exact .inl rfl
          · refine .inr ⟨rfl, ?_⟩
            by_cases e : y = a
            · exact e
            · exact absurd ⟨hc, e⟩ hskip
        clear hskip hc
        obtain ⟨ao8, cp8, rfl⟩ := hown.out.len
        rcases hca with rfl | ⟨rfl, hya⟩
        all_goals
          try (have h4 : (a : Int) = (y : Int) := by omega
               clear hya)
          go_wp2_with fail
          clear hcy' c0
          try clear h4
          go_loopg [8, 34] n (fun g2 s8 s34 wx => ∃ x : Nat, x + g2 = n ∧ s34 = .int .i64 x ∧ s8 = .slice ao8 (upTo (qEdge bs L n a) y).length cp8 ∧ wx = wr ∧ Hid (∀ j, j < x → (bs.getD j false && decide ((j, y) ∈ L)) = false))
          case atStart => exact ⟨0, by omega, rfl, rfl, rfl, fun j hj => absurd hj (by omega)⟩
          case round =>
            obtain ⟨x, hxg, rfl, rfl, rfl, hno⟩ := hrel
            by_cases hxn : x < n
            · have hcx : wr.cell? ⟨gs, x, none⟩ = some (.bool (bs.getD x false)) := by rw [hbel.out.cell hgl]; exact (cell_bits HH2.out.1 (k := x) (by rw [HH2.out.2]; exact hxn)).1
              have hcnt := count_any wr p m L x y HGR.out.c1 HGR.out.edges
              have HCT : Hid (Calls Try.prog 36 _ wr _) := hcnt
              clear hcnt
              cases hbx : bs.getD x false
              · rw [hbx] at hcx
                have HX : Hid (bs.getD x false = false) := hbx
                clear hbx HCT
                go_wp2_with fail
                go_roundg (n - (x + 1))
                case measure => omega
                case rel => exact ⟨x + 1, by omega, by go_num, rfl, rfl, fun j hj => by rcases Nat.lt_or_eq_of_le (Nat.le_of_lt_succ hj) with h' | h'; exact hno.out j h'; rw [h', HX.out]; rfl⟩
              · rw [hbx] at hcx
                have HX : Hid (bs.getD x false = true) := hbx
                clear hbx
                by_cases hm : (x, y) ∈ L
                · have HCT2 : Hid (Calls Try.prog 36 #[.pointer (some ⟨p, 0, none⟩), .int .i64 x, .int .i64 y] wr fun e w' => e = .returned (.int .i64 1) ∧ w' = wr) := by show Calls _ _ _ _ _; have := HCT.out; simpa [hm] using this
                  have hqy : Hid (qEdge bs L n a y = true) := by
                    show _ = _
                    rw [hq.out, List.any_eq_true]
                    exact ⟨x, by simpa using hxn, by simp [-List.getD_eq_getElem?_getD, HX.out, hm]⟩
                  have hle8 := upTo_le (qEdge bs L n a) y
                  obtain ⟨i0, hi, hz0, hz1, hz2⟩ := info_parts infoInt
                  have hs := hbel.out.size
                  clear HCT
                  go_wp2_with (first | (go_at_call 36; refine HCT2.out.mono ?_; rintro e w9 ⟨rfl, h9⟩; replace h9 := h9.symm; subst h9) | (at_builtin; go_loud (refine wpList_append_ownS _ rfl _ _ 26 rfl w2.heap.size 3 i0 (.int .i64 0) 1 8 Try.underlying26 hi hz0 hz1 hz2 rfl (by decide) _ _ _ rfl (hown.out.alloc _) ⟨wr.heap.size, 0, none⟩ 1 1 [.int .i64 (y : Int)] rfl rfl (cell_new1 _ _ _) (fun u hu => nums_one u y hu) (by decide) (by unfold maxLen; omega) (by omega) (by simp; omega) ?_; intro g' off' cap' w3 hown3 hgrow3 hloc3 hlt3)))
                  have hb3 : Below w2.heap.size w2 w3 := (hbel.out.alloc hs _).grown hgrow3 (by simp; omega) (fun j hj => (hown.out.lt j hj).1)
                  go_wp2_with fail
                  go_roundg (n - (y + 1))
                  case measure => omega
                  case rel => exact ⟨y + 1, by omega, by go_num, by show OwnS _ _ _ _ _ _ _; rw [upTo_succ, hqy.out, if_pos rfl, nums_append]; simpa [nums] using hown3, hb3⟩
                · have HCT2 : Hid (Calls Try.prog 36 #[.pointer (some ⟨p, 0, none⟩), .int .i64 x, .int .i64 y] wr fun e w' => e = .returned (.int .i64 0) ∧ w' = wr) := by show Calls _ _ _ _ _; have := HCT.out; simpa [hm] using this
                  clear HCT
                  go_wp2_with (go_at_call 36; refine HCT2.out.mono ?_; rintro e w9 ⟨rfl, h9⟩; replace h9 := h9.symm; subst h9)
                  go_roundg (n - (x + 1))
                  case measure => omega
                  case rel => exact ⟨x + 1, by omega, by go_num, rfl, rfl, fun j hj => by rcases Nat.lt_or_eq_of_le (Nat.le_of_lt_succ hj) with h' | h'; exact hno.out j h'; rw [h']; simp [hm]⟩
            · have hqn : Hid (qEdge bs L n a y = false) := by
                show _ = _
                rw [hq.out, List.any_eq_false]
                intro x hx
                have hx' : x < n := by simpa using hx
                rw [hno.out x (by omega)]
                simp
              go_wp2_with fail
              go_roundg (n - (y + 1))
              case measure => omega
              case rel => exact ⟨y + 1, by omega, by go_num, by show OwnS _ _ _ _ _ _ _; rw [upTo_succ, hqn.out]; simpa using hown.out, hbel⟩
    · obtain rfl : n = y := by omega
      have hfin : Hid (∀ v : Value, OwnS wr w2.heap.size 3 1 v (upTo (qEdge bs L n a) n).length (nums (upTo (qEdge bs L n a) n)) → ∃ (v' : Value) (qq : Nat → Bool), Ending.returned v = .returned v' ∧ OwnS wr w.heap.size 3 1 v' (upTo qq n).length (nums (upTo qq n)) ∧ (∀ y, y < n → (qq y = true ↔ OnEdge L a y)) ∧ Below w.heap.size w wr) :=
        fun v hv => ⟨v, qEdge bs L n a, rfl, hv.mono HB2.out.size, fun y hy => qEdge_iff HG.out.lt hy HT2.out, HB2.out.trans (hbel.out.mono HB2.out.size)⟩
      go_wp2_with fail
      try rw [Exit.noGoto_ret]
      go_ret
      exact hfin.out _ hown.out

end Go.Proofs.Ytbddcodljmglfaa
