/- (walk).reached: which nodes are reached from the starts on ways that do not go over one. -/
import Derived.Test.YtbddcodljmglfaaVisit
set_option linter.unusedSimpArgs false
set_option linter.unusedVariables false
namespace Go.Proofs.Ytbddcodljmglfaa
open Go.RowKit

/-- A manner of walking: the starts S, and where each of the n nodes leads to (T). -/
structure WalkIn (w : World) (vs vt : Value) (ts : List Value) (n : Nat) (S : List Nat) (T : List (List Nat)) : Prop where
  starts : RdS w 1 vs S.length (nums S)
  steps : RdS w 1 vt n ts
  lenT : T.length = n
  each : ∀ i v, ts[i]? = some v → RdS w 1 v (T.getD i []).length (nums (T.getD i []))
  pos : 1 ≤ n
  le : n ≤ 40
  sLt : ∀ a ∈ S, a < n
  tLt : ∀ l ∈ T, ∀ a ∈ l, a < n
  sLe : S.length ≤ 1000000
  tLe : ∀ l ∈ T, l.length ≤ 1000000

theorem WalkIn.below {w w' : World} {vs vt : Value} {ts : List Value} {n : Nat} {S : List Nat} {T : List (List Nat)} (h : WalkIn w vs vt ts n S T) (hb : Below w.heap.size w w') : WalkIn w' vs vt ts n S T :=
  ⟨h.starts.below hb, h.steps.below hb, h.lenT, fun i v hi => (h.each i v hi).below hb, h.pos, h.le, h.sLt, h.tLt, h.sLe, h.tLe⟩

theorem RdS.blk {w : World} {size : Nat} {v : Value} {n : Nat} {xs : List Value} (h : RdS w size v n xs) (hs : 0 < size) (hn : 0 < n) : ∀ k, v.ownBlock = some k → k < w.heap.size := by
  intro k hk
  obtain ⟨hl, ao, cap, rfl, hr⟩ := h
  rcases hr with hr | ⟨g, off, rfl, hr⟩
  · omega
  · simp [Value.ownBlock] at hk
    subst hk
    have hpos : 0 < xs.length := by rw [hl]; exact Nat.mul_pos hn hs
    have := hr 0 xs[0] (by simp [hpos])
    exact World.block_lt_of_cell? w _ this

theorem OwnS.pop {w : World} {base : Nat} {v x : Value} {n : Nat} {xs : List Value} (h : OwnS w base 3 1 v (n + 1) (x :: xs)) :
    ∃ g off cap v', v = .slice (some ⟨g, off, none⟩) (n + 1) cap ∧ w.cell? ⟨g, off, none⟩ = some x ∧ base ≤ g ∧ (∀ w', (Instr.slice 26 (.slice (some ⟨g, off, none⟩) (n + 1) cap) (some (.int .i64 1)) none none).run Try.prog w' = .ok v' w') ∧ OwnS w base 3 1 v' n xs := by
  rcases h.2 with ⟨rfl, h2⟩ | ⟨g, off, cap, cur, rfl, h1, hg, hnc, hcm, hcs, hx⟩
  · omega
  · refine ⟨g, off, cap, .slice (if cap = 1 then some ⟨g, off, none⟩ else some ⟨g, off + 1, none⟩) n (cap - 1), rfl, ?_, h1, fun w' => ?_, ?_⟩
    · have := hx 0 x (by simp)
      simp at this
      simp [World.cell?, hg, this]
    · have h1n : (1 : Int) ≤ (n : Int) + 1 := by omega
      simp [h1n, Instr.slice, run_underlying Try.underlying26, Instr.sliceBounds, Instr.sliceBound, asIntOf, Result.andThen, sizeInt, Addr.add_lit]
    · refine ⟨by have := h.1; simp at this ⊢; omega, .inr ?_⟩
      by_cases hc : cap = 1
      · subst hc
        have hn : n = 0 := by omega
        subst hn
        have hxs : xs = [] := List.eq_nil_of_length_eq_zero (by have := h.1; simp at this; simp [this])
        subst hxs
        exact ⟨g, off, 0, cur, by simp, h1, hg, by omega, by omega, by omega, by simp⟩
      · refine ⟨g, off + 1, cap - 1, cur, by simp [hc], h1, hg, by omega, by omega, by omega, fun j u hj => ?_⟩
        have := hx (j + 1) u (by simpa using hj)
        rw [← this]
        congr 1
        omega

/-- What the search has still to do. -/
def falses (c : List Value) : Nat := (c.filter fun v => match v with | .bool false => true | _ => false).length
def lenOfCell (c : Array Value) : Nat := match c.toList with | [.slice _ k _] => k | _ => 0
def srchMu (gs bw : Nat) (w : World) : Nat :=
  (match w.heap[gs]? with | some (.cells c _ _) => 2 * falses c.toList | _ => 0) + (match w.heap[bw]? with | some (.cells c _ _) => lenOfCell c | _ => 0)

theorem falses_bits (l : List Bool) : falses (bits l) = unseen l := by
  induction l with
  | nil => rfl
  | cons b l ih =>
    cases b
    · simp [falses, bits, unseen] at ih ⊢
      exact ih
    · simp [falses, bits, unseen] at ih ⊢
      exact ih

theorem srchMu_eq {w : World} {B0 base bx bs gs bw : Nat} {x : Int} {n : Nat} {s : List Bool × List Nat} {vw : Value} (h : Srch w B0 base bx bs gs bw x n s vw) : srchMu gs bw w = 2 * unseen s.1 + s.2.length := by
  obtain ⟨ao, cap, hv⟩ := h.own.len
  simp only [srchMu, h.hg, h.hw, lenOfCell, hv]
  rw [falses_bits]

theorem Srch.popped {w : World} {B0 base bx bs gs bw : Nat} {x : Int} {n : Nat} {sn : List Bool} {a : Nat} {q : List Nat} {vw v' : Value} (h : Srch w B0 base bx bs gs bw x n (sn, a :: q) vw) (hown : OwnS w base 3 1 v' q.length (nums q)) :
    Srch (w.setCell ⟨bw, 0, none⟩ v') B0 base bx bs gs bw x n (sn, q) v' ∧ Below B0 w (w.setCell ⟨bw, 0, none⟩ v') := by
  have hne := h.ne
  have ho1 := h.o1
  have ho2 := h.o2
  refine ⟨⟨?_, ?_, ?_, ?_, ?_, h.len, h.le, by simpa using h.bB, ho1, ho2⟩, (Below.refl _ _).setCell (by simp; omega) _⟩
  · rw [Below.heap_setCell _ _ _ _ (by simp; omega)]; exact h.hx
  · rw [Below.heap_setCell _ _ _ _ (by simp; omega)]; exact h.hs
  · rw [Below.heap_setCell _ _ _ _ (by simp; omega)]; exact h.hg
  · simp [World.setCell, Array.getElem?_modify, h.hw]
  · exact hown.of_block fun k hk => Below.heap_setCell _ _ _ _ (by have := (hown.lt k hk).1; simp; omega)

theorem bits_replicate (n : Nat) : (bits (List.replicate n false)).toArray = Array.replicate n (.bool false) := by
  apply Array.toList_inj.1
  simp [bits]

/-- The world in which the search begins. -/
theorem srch_begin (w : World) (cs : Array Value) (t : TypeId) (x : Int) (n : Nat) (hle : n ≤ 40) :
    Srch (((((w.alloc (.cells cs t)).alloc (.cells #[.int .i64 x] 3)).alloc (.cells (Array.replicate n (.bool false)) 4)).alloc (.cells #[.slice (some ⟨w.heap.size + 1 + 1, 0, none⟩) n n] 71)).alloc (.cells #[.slice none 0 0] 26))
      (w.heap.size + 1) (w.heap.size + 1 + 1 + 1 + 1 + 1) (w.heap.size + 1) (w.heap.size + 1 + 1 + 1) (w.heap.size + 1 + 1) (w.heap.size + 1 + 1 + 1 + 1) x n (List.replicate n false, []) (.slice none 0 0) := by
  refine ⟨?_, ?_, ?_, ?_, OwnS.nil _ _ _ _, by simp, hle, by simp, by omega, by omega⟩
  · rw [Below.heap_alloc _ _ _ (by simp <;> omega), Below.heap_alloc _ _ _ (by simp <;> omega), Below.heap_alloc _ _ _ (by simp <;> omega), heap_new (by simp)]
  · rw [Below.heap_alloc _ _ _ (by simp), heap_new (by simp)]
  · rw [Below.heap_alloc _ _ _ (by simp <;> omega), Below.heap_alloc _ _ _ (by simp), heap_new (by simp), bits_replicate]
  · rw [heap_new (by simp)]

theorem below_begin (w : World) (a b c d e : Obj) : Below w.heap.size w (((((w.alloc a).alloc b).alloc c).alloc d).alloc e) :=
  (((((Below.refl _ _).alloc (Nat.le_refl _) _).alloc (by simp) _).alloc (by simp; omega) _).alloc (by simp; omega) _).alloc (by simp; omega) _

set_option maxRecDepth 100000 in
set_option maxHeartbeats 4000000 in
theorem reached_any (w : World) (vs vt : Value) (ts : List Value) (n : Nat) (S : List Nat) (T : List (List Nat)) (x : Int) (h : WalkIn w vs vt ts n S T) :
    Calls Try.prog 61 #[.agg #[vs, vt], .int .i64 x] w fun e w' => ∃ (gs : Nat) (bs : List Bool), e = .returned (.slice (some ⟨gs, 0, none⟩) n n) ∧ w.heap.size ≤ gs ∧ w'.heap[gs]? = some (.cells (bits bs).toArray 4 (0, 0)) ∧ bs.length = n ∧
      (∀ b, bs.getD b false = true ↔ RA (· ∈ S) (fun a c => c ∈ T.getD a []) x b) ∧ Below w.heap.size w w' := by
  have hmk := makeBools n (by have := h.le; omega)
  have hle := h.le
  obtain ⟨hl1, ao, cap, rfl, hr⟩ := h.steps
  rcases hr with hr | ⟨g2, off2, rfl, hr⟩
  · have := h.pos; omega
  have hbeg := srch_begin w #[vs, .slice (some ⟨g2, off2, none⟩) n cap] 103 x n h.le
  have hbel5 := below_begin w (.cells #[vs, .slice (some ⟨g2, off2, none⟩) n cap] 103) (.cells #[.int .i64 x] 3) (.cells (Array.replicate n (.bool false)) 4) (.cells #[.slice (some ⟨w.heap.size + 1 + 1, 0, none⟩) n n] 71) (.cells #[.slice none 0 0] 26)
  have hcall1 := visit_any _ _ _ _ _ _ _ x n _ _ hbeg (by simp [unseen]) vs S (h.starts.below hbel5) (fun hp k hk => by have := h.starts.blk (by decide) hp k hk; omega) h.sLt h.sLe
  have hstart := bfs_start n S T x h.sLt
  obtain ⟨w5, hw5⟩ : ∃ w5, w5 = (((((w.alloc (.cells #[vs, .slice (some ⟨g2, off2, none⟩) n cap] 103)).alloc (.cells #[.int .i64 x] 3)).alloc (.cells (Array.replicate n (.bool false)) 4)).alloc (.cells #[.slice (some ⟨w.heap.size + 1 + 1, 0, none⟩) n n] 71)).alloc (.cells #[.slice none 0 0] 26)) := ⟨_, rfl⟩
  have hbox : Hid (w5.heap[w.heap.size]? = some (.cells #[vs, .slice (some ⟨g2, off2, none⟩) n cap] 103 (0, 0))) := by
    show _ = _
    rw [hw5, Below.heap_alloc _ _ _ (by simp; omega), Below.heap_alloc _ _ _ (by simp; omega), Below.heap_alloc _ _ _ (by simp; omega), Below.heap_alloc _ _ _ (by simp), heap_new rfl]
  have HW5 : Hid (Below w.heap.size w w5) := by rw [hw5]; exact hbel5
  have HH : Hid (WalkIn w vs (.slice (some ⟨g2, off2, none⟩) n cap) ts n S T) := h
  have HST : Hid (Bfs n S T x (vis x S (List.replicate n false, []))) := hstart
  have HR : Hid (∀ j u, ts[j]? = some u → w.cell? ⟨g2, off2 + j, none⟩ = some u) := hr
  have HL : Hid (ts.length = n) := by show _ = _; simpa using hl1
  clear hbeg hbel5 hstart h hr hl1
  rw [← hw5] at hcall1
  have HC : Hid (Calls Try.prog 75 _ w5 _) := hcall1
  clear hcall1
  have HW : Hid (w5 = _) := hw5
  clear hw5
  go_enter Try.func61, Try.ntmps61
  go_wp2_with (first | (go_at_call 75; rw [← HW.out]; refine HC.out.mono ?_; rintro e w1 ⟨rfl, vw1, hsr1, hbel1⟩))
  have HS1 : Hid (Srch w1 (w.heap.size + 1) (w.heap.size + 1 + 1 + 1 + 1 + 1) (w.heap.size + 1) (w.heap.size + 1 + 1 + 1) (w.heap.size + 1 + 1) (w.heap.size + 1 + 1 + 1 + 1) x n (vis x S (List.replicate n false, [])) vw1) := hsr1
  clear hsr1 HC HW
  go_loopw [8] (fun _ wr => ∃ (s : List Bool × List Nat) (vw : Value), Srch wr (w.heap.size + 1) (w.heap.size + 1 + 1 + 1 + 1 + 1) (w.heap.size + 1) (w.heap.size + 1 + 1 + 1) (w.heap.size + 1 + 1) (w.heap.size + 1 + 1 + 1 + 1) x n s vw ∧ Bfs n S T x s ∧ Below (w.heap.size + 1) w5 wr) (fun _ wr => srchMu (w.heap.size + 1 + 1) (w.heap.size + 1 + 1 + 1 + 1) wr)
  case atStart => exact ⟨_, _, HS1.out, HST.out, hbel1⟩
  case round =>
    obtain ⟨⟨sn, q0⟩, vw, hsr, hbfs, hbel⟩ := hrel
    clear HS1 HST hbel1
    have cs := hsr.cs
    have cw := hsr.cw
    have fw := hsr.fw
    have HB : Hid (Bfs n S T x (sn, q0)) := hbfs
    have HSR : Hid (Srch wr (w.heap.size + 1) (w.heap.size + 1 + 1 + 1 + 1 + 1) (w.heap.size + 1) (w.heap.size + 1 + 1 + 1) (w.heap.size + 1 + 1) (w.heap.size + 1 + 1 + 1 + 1) x n (sn, q0) vw) := hsr
    have hbelw : Hid (Below w.heap.size w wr) := HW5.out.trans (hbel.mono (by omega))
    clear hbfs hsr
    cases q0 with
    | nil =>
      obtain ⟨ao, cp, rfl⟩ := HSR.out.own.len
      simp only [List.length_nil] at cw
      have hfin : Hid (∃ (gs : Nat) (bs : List Bool), Ending.returned (.slice (some ⟨w.heap.size + 1 + 1, 0, none⟩) n n) = Ending.returned (.slice (some ⟨gs, 0, none⟩) n n) ∧ w.heap.size ≤ gs ∧ wr.heap[gs]? = some (.cells (bits bs).toArray 4 (0, 0)) ∧ bs.length = n ∧
          (∀ b, bs.getD b false = true ↔ RA (· ∈ S) (fun a c => c ∈ T.getD a []) x b) ∧ Below w.heap.size w wr) :=
        ⟨w.heap.size + 1 + 1, sn, rfl, by omega, HSR.out.hg, HB.out.len, bfs_end HB.out, hbelw.out⟩
      clear HSR HB
      go_wp2
      go_ret
      exact hfin.out
    | cons a q =>
      have hroom := HB.out.room
      simp only [List.length_cons] at hroom
      have han : a < n := HB.out.lt a (by simp)
      obtain ⟨g, off, cp, v', rfl, hc0, hbg, hrun, hown'⟩ := HSR.out.own.pop
      obtain ⟨ao', cp', rfl⟩ := hown'.len
      have hrun' := hrun wr
      clear hrun
      have hpop := HSR.out.popped hown'
      have c0 : wr.cell? ⟨w.heap.size, 1, none⟩ = some (.slice (some ⟨g2, off2, none⟩) n cap) := by
        have : wr.heap[w.heap.size]? = _ := (hbel.block _ (by omega)).trans hbox.out
        simp [World.cell?, this]
      have hat : ts[a]? = some (ts.getD a .nilIface) := by simp [List.getD, HL.out, han]
      have c2 : wr.cell? ⟨g2, off2 + a, none⟩ = some (ts.getD a .nilIface) := by
        have h1 := HR.out a _ hat
        rw [hbelw.out.cell (World.block_lt_of_cell? w _ h1)]
        exact h1
      have hg2 : g2 < w.heap.size := by
        have h1 := HR.out a _ hat
        exact World.block_lt_of_cell? w _ h1
      have hrdT := (HH.out.each a _ hat)
      generalize hu : ts.getD a .nilIface = u at c2 hrdT
      clear hu hat
      obtain ⟨aoU, cpU, rfl⟩ : ∃ aoU cpU, u = .slice aoU (T.getD a []).length cpU := by obtain ⟨_, aoU, cpU, hh, _⟩ := hrdT; exact ⟨aoU, cpU, hh⟩
      have hsz : Below w.heap.size w (wr.setCell ⟨w.heap.size + 1 + 1 + 1 + 1, 0, none⟩ (.slice ao' q.length cp')) := hbelw.out.trans (hpop.2.mono (by omega))
      have htl : ∀ b ∈ T.getD a [], b < n := by
        intro b hb
        refine HH.out.tLt _ ?_ b hb
        simp [List.getD, HH.out.lenT, han]
      have htl2 : (T.getD a []).length ≤ 1000000 := by
        refine HH.out.tLe _ ?_
        simp [List.getD, HH.out.lenT, han]
      have hcall2 := visit_any _ _ _ _ _ _ _ x n _ _ hpop.1 (by simp only []; omega) (.slice aoU (T.getD a []).length cpU) (T.getD a []) (hrdT.below hsz) (fun hp k hk => by have := hrdT.blk (by decide) hp k hk; omega) htl htl2
      have hmu := srchMu_eq HSR.out
      have hstep := bfs_step n S T x sn a q HH.out.tLt HB.out
      have hfin : Hid (∀ w2 vw2, Srch w2 (w.heap.size + 1) (w.heap.size + 1 + 1 + 1 + 1 + 1) (w.heap.size + 1) (w.heap.size + 1 + 1 + 1) (w.heap.size + 1 + 1) (w.heap.size + 1 + 1 + 1 + 1) x n (vis x (T.getD a []) (sn, q)) vw2 → srchMu (w.heap.size + 1 + 1) (w.heap.size + 1 + 1 + 1 + 1) w2 < srchMu (w.heap.size + 1 + 1) (w.heap.size + 1 + 1 + 1 + 1) wr) := by
        intro w2 vw2 h2
        rw [srchMu_eq h2, hmu]
        obtain ⟨_, _, ⟨kk, g3, _⟩, g4, _⟩ := vis_props x n (T.getD a []) (sn, q) HB.out.len htl
        have := congrArg List.length g3
        simp only [List.length_append, List.length_cons] at this g4 ⊢
        omega
      have HST : Hid (Bfs n S T x (vis x (T.getD a []) (sn, q))) := hstep
      have HBel : Hid (Below (w.heap.size + 1) w5 (wr.setCell ⟨w.heap.size + 1 + 1 + 1 + 1, 0, none⟩ (.slice ao' q.length cp'))) := hbel.trans hpop.2
      have HC : Hid (Calls Try.prog 75 _ (wr.setCell ⟨w.heap.size + 1 + 1 + 1 + 1, 0, none⟩ (.slice ao' q.length cp')) _) := hcall2
      have c0' : (wr.setCell ⟨w.heap.size + 1 + 1 + 1 + 1, 0, none⟩ (.slice ao' q.length cp')).cell? ⟨w.heap.size, 1, none⟩ = some (.slice (some ⟨g2, off2, none⟩) n cap) := by
        rw [World.cell?_of_block (Below.heap_setCell _ _ _ _ (by simp; omega))]; exact c0
      have c2' : (wr.setCell ⟨w.heap.size + 1 + 1 + 1 + 1, 0, none⟩ (.slice ao' q.length cp')).cell? ⟨g2, off2 + a, none⟩ = some (.slice aoU (T.getD a []).length cpU) := by
        rw [World.cell?_of_block (Below.heap_setCell _ _ _ _ (by simp; omega))]; exact c2
      clear hstep hcall2 hmu htl htl2 hsz hrdT hpop hbel hbelw HSR HB hown' HH HR hbox
      go_wp2_with (first | (go_at_call 75; refine HC.out.mono ?_; rintro e w2 ⟨rfl, vw2, hsr2, hbel2⟩))
      go_roundw
      case rel => exact ⟨_, _, hsr2, HST.out, HBel.out.trans hbel2⟩
      case measure => exact hfin.out _ _ hsr2

end Go.Proofs.Ytbddcodljmglfaa
