/- Which lines of a text are which lines of its blocks: of no run. And what follows on it. -/
import Derived.Test.YtbddcodljmglfaaGreatDoorVarsA
import Derived.Test.YtbddcodljmglfaaGreatDoorBridgeA
import Derived.Test.YtbddcodljmglfaaGreatDoorRT15
import Derived.Test.YtbddcodljmglfaaGreatDoorFuelWalk
set_option linter.unusedSimpArgs false
set_option linter.unusedVariables false
namespace Go.Proofs.YtbddcodljmglfaaGreatDoor

theorem line_noblock {s : BA} {l : LineG} (h : lineOf 0 (cuts 32 s) = some l) : isBlock (hd (cuts 32 s)) = false := by
  obtain ⟨x0, bs, hc⟩ := cuts_cons s
  rw [hc] at h ⊢
  simp only [lineOf] at h
  split at h
  · rename_i k hk
    have hlt := kind_lt hk
    have hw := kind_word hk
    show (ByteArray.toList x0 == _) = false
    rw [hw]
    rcases (by omega : k = 0 ∨ k = 1 ∨ k = 2 ∨ k = 3 ∨ k = 4 ∨ k = 5 ∨ k = 6 ∨ k = 7 ∨ k = 8 ∨ k = 9) with rfl | rfl | rfl | rfl | rfl | rfl | rfl | rfl | rfl | rfl <;> rfl
  · cases h
theorem block_cuts {s : BA} (h : ByteArray.toList s = [98, 108, 111, 99, 107]) : isBlock (hd (cuts 32 s)) = true := by
  rw [ByteArray.toList_eq] at h
  have hc : cuts 32 s = [s] := by
    unfold cuts
    rw [h, cutsB_none 32 _ (by decide)]
    simp only [List.map_cons, List.map_nil]
    rw [ofL_eq h]
  rw [hc]
  show (ByteArray.toList s == _) = true
  rw [ByteArray.toList_eq, h]
  rfl
theorem args_noblock {s : BA} {A : List Ver} (h : argsOf 0 (cuts 32 s) = some A) : isBlock (hd (cuts 32 s)) = false := by
  obtain ⟨x0, bs, hc⟩ := cuts_cons s
  rw [hc] at h ⊢
  simp only [argsOf] at h
  split at h
  · rename_i hq
    show (ByteArray.toList x0 == _) = false
    rw [hq.1]
    rfl
  · cases h

/-- What is known of the blocks, i lines read. -/
structure LinesOf (T0 : List BA) (i : Nat) (p : PG) : Prop where
  firsts : (p.closed ++ p.cur.toList).map (·.first) = (blkIdx 0 (T0.take i)).map (· + 1)
  lines : ∀ b ∈ p.closed ++ p.cur.toList, ∀ (j : Nat) l, b.lines[j]? = some l → ∃ s, T0[b.first + j]? = some s ∧ lineOf 0 (cuts 32 s) = some l
  cur : ∀ b, p.cur = some b → b.first + b.lines.length = i
  start : i = 0 → p.closed = [] ∧ p.cur = none

theorem take_snoc {T0 : List BA} {i : Nat} {s : BA} (h : T0[i]? = some s) : T0.take (i + 1) = T0.take i ++ [s] := by
  rw [List.take_add_one, h]
  rfl
theorem take_len {T0 : List BA} {i : Nat} {s : BA} (h : T0[i]? = some s) : (T0.take i).length = i := by
  have := (List.getElem?_eq_some_iff.1 h).1
  simp
  omega
theorem lines_step {T0 : List BA} {i mb : Nat} {s : BA} {p q : PG} (hs : T0[i]? = some s) (h : stepL 0 mb i s p = some q) (hp : LinesOf T0 i p) : LinesOf T0 (i + 1) q := by
  have hidx := blkIdx_snoc (T0.take i) 0 s
  rw [← take_snoc hs, take_len hs, Nat.zero_add] at hidx
  unfold stepL at h
  split at h
  · rename_i hi0
    split at h
    · rename_i a ha
      injection h with h
      subst h
      rw [if_neg (by rw [args_noblock ha]; decide), List.append_nil] at hidx
      obtain ⟨h1, h2⟩ := hp.start hi0
      refine ⟨by rw [hidx]; exact hp.firsts, hp.lines, fun b hb => ?_, fun h => absurd h (by omega)⟩
      rw [show p.cur = none from h2] at hb
      cases hb
    · cases h
  · split at h
    · rename_i b hb
      unfold inB at h
      simp only [show ¬ ((0 : Nat) = 1) by decide, false_and, if_false] at h
      cases hl : lineOf 0 (cuts 32 s) with
      | none => rw [hl] at h; simp at h
      | some l =>
        rw [hl] at h
        simp only at h
        rw [if_neg (by rw [line_noblock hl]; decide), List.append_nil] at hidx
        have hcur := hp.cur b hb
        have hbl : ∀ (j : Nat) l', (b.lines ++ [l])[j]? = some l' → ∃ s, T0[b.first + j]? = some s ∧ lineOf 0 (cuts 32 s) = some l' := by
          intro j l' hj
          by_cases hjl : j < b.lines.length
          · rw [List.getElem?_append_left hjl] at hj
            exact hp.lines b (by rw [hb]; simp) j l' hj
          · rw [List.getElem?_append_right (by omega)] at hj
            have hj0 : j = b.lines.length := by
              rcases Nat.lt_or_ge b.lines.length j with h' | h'
              · rw [List.getElem?_eq_none (by simp; omega)] at hj; cases hj
              · omega
            subst hj0
            simp at hj
            subst hj
            exact ⟨s, by rw [hcur]; exact hs, hl⟩
        have hfi := hp.firsts
        rw [hb] at hfi
        cases he : endsK l.word with
        | true =>
          rw [he] at h
          simp only at h
          injection h with h
          subst h
          refine ⟨?_, ?_, fun b' hb' => (by cases hb'), fun h => absurd h (by omega)⟩
          · rw [hidx, ← hfi]
            simp
          · intro b' hb' j l' hj
            simp only [Option.toList_none, List.append_nil, List.mem_append, List.mem_singleton] at hb'
            rcases hb' with hb' | rfl
            · exact hp.lines b' (List.mem_append_left _ hb') j l' hj
            · exact hbl j l' hj
        | false =>
          rw [he] at h
          simp only at h
          injection h with h
          subst h
          refine ⟨?_, ?_, fun b' hb' => ?_, fun h => absurd h (by omega)⟩
          · rw [hidx, ← hfi]
            simp
          · intro b' hb' j l' hj
            simp only [Option.toList_some, List.mem_append, List.mem_singleton] at hb'
            rcases hb' with hb' | rfl
            · exact hp.lines b' (List.mem_append_left _ hb') j l' hj
            · exact hbl j l' hj
          · injection hb' with hb'
            subst hb'
            simp
            omega
    · rename_i hnone
      split at h
      · rename_i hq
        injection h with h
        subst h
        rw [if_pos (block_cuts hq.1)] at hidx
        have hfi := hp.firsts
        rw [hnone] at hfi
        refine ⟨?_, ?_, fun b' hb' => ?_, fun h => absurd h (by omega)⟩
        · simp only [Option.toList_none, List.append_nil] at hfi
          rw [hidx]
          simp [hfi]
        · intro b' hb' j l' hj
          simp only [Option.toList_some, List.mem_append, List.mem_singleton] at hb'
          rcases hb' with hb' | rfl
          · exact hp.lines b' (List.mem_append_left _ hb') j l' hj
          · simp at hj
        · injection hb' with hb'
          subst hb'
          simp
      · cases h
theorem lines_run {T0 : List BA} {mb : Nat} : ∀ (T : List BA) (i : Nat) (p q : PG), T = T0.drop i → i ≤ T0.length → runL 0 mb i T p = .ok q → LinesOf T0 i p → LinesOf T0 T0.length q ∧ q.cur = none
  | [], i, p, q, hT, hi, h, hp => by
    unfold runL at h
    split at h
    · rename_i hc
      injection h with h
      subst h
      have hl : i = T0.length := by
        have := congrArg List.length hT
        simp at this
        omega
      subst hl
      exact ⟨hp, by simpa using hc.1⟩
    · cases h
  | s :: r, i, p, q, hT, hi, h, hp => by
    unfold runL at h
    have hs : T0[i]? = some s := by
      have := congrArg (·[0]?) hT
      simp at this
      rw [← this]
    cases hst : stepL 0 mb i s p with
    | none => rw [hst] at h; cases h
    | some p' =>
      rw [hst] at h
      have hlt := (List.getElem?_eq_some_iff.1 hs).1
      refine lines_run r (i + 1) p' q ?_ (by omega) h (lines_step hs hst hp)
      have := congrArg (List.drop 1) hT
      simpa [List.drop_drop, Nat.add_comm] using this
/-- Of a text that is a program: where its blocks begin, and what their lines say. -/
theorem prog_lines {s : BA} {A : List Ver} {bs : List BlockG} (h : progG s = .ok (A, bs)) : bs.map (·.first) = (blkIdx 0 (cuts 10 s)).map (· + 1) ∧ ∀ b ∈ bs, ∀ (j : Nat) l, b.lines[j]? = some l → ∃ x, (cuts 10 s)[b.first + j]? = some x ∧ lineOf 0 (cuts 32 x) = some l := by
  unfold progG at h
  split at h
  · cases h
  · rename_i a bs' hr
    split at h
    · cases h
    · injection h with h
      injection h with h1 h2
      subst h1 h2
      unfold readG at hr
      split at hr
      · cases hr
      · split at hr
        · cases hr
        · rename_i q hq
          split at hr
          · cases hr
          · injection hr with hr
            injection hr with h1 h2
            subst h1 h2
            obtain ⟨g1, g2⟩ := lines_run (T0 := cuts 10 s) (cuts 10 s) 0 _ q (by simp) (by omega) hq ⟨by simp [blkIdx], by simp, fun b hb => (by cases hb), fun _ => ⟨rfl, rfl⟩⟩
            have hf := g1.firsts
            have hl := g1.lines
            rw [g2] at hf hl
            rw [List.take_length] at hf
            simp only [Option.toList_none, List.append_nil] at hf hl
            exact ⟨hf, hl⟩

end Go.Proofs.YtbddcodljmglfaaGreatDoor

namespace Go.Proofs.YtbddcodljmglfaaGreatDoor
open Go.RowKit

theorem putV_nodup {V : List (Ver × Int)} {p : Ver} {n : Int} (h : (V.map (·.1)).Nodup) : ((putV V p n).map (·.1)).Nodup := by
  unfold putV
  split
  · have e : (V.map (fun x => if x.1 = p then (p, n) else x)).map (·.1) = V.map (·.1) := by
      rw [List.map_map]
      apply List.map_congr_left
      intro x _
      by_cases hx : x.1 = p <;> simp [hx]
    rw [e]
    exact h
  · rename_i hh
    rw [List.map_append, List.nodup_append]
    refine ⟨h, by simp, fun a ha b hb e => ?_⟩
    simp at hb
    subst hb
    subst e
    exact hh (hasV_iff.2 ha)
theorem putV_len (V : List (Ver × Int)) (p : Ver) (n : Int) : (putV V p n).length ≤ V.length + 1 := by
  unfold putV
  split <;> simp
theorem putV_zero {V : List (Ver × Int)} (h : ∀ x ∈ V, x.1.2 = 0) (a : BA) (n : Int) : ∀ x ∈ putV V (a, 0) n, x.1.2 = 0 := by
  unfold putV
  split
  · intro x hx
    obtain ⟨y, hy, rfl⟩ := List.mem_map.1 hx
    by_cases he : y.1 = (a, 0)
    · simp [he]
    · simp [he, h y hy]
  · intro x hx
    rcases List.mem_append.1 hx with hx | hx
    · exact h x hx
    · rw [List.mem_singleton] at hx; subst hx; rfl
theorem foldV_nodup : ∀ (l : List (Ver × Int)) (V : List (Ver × Int)), (V.map (·.1)).Nodup → ((l.foldl (fun V x => putV V x.1 x.2) V).map (·.1)).Nodup
  | [], V, h => h
  | x :: r, V, h => foldV_nodup r _ (putV_nodup h)
theorem foldV_len : ∀ (l : List (Ver × Int)) (V : List (Ver × Int)), (l.foldl (fun V x => putV V x.1 x.2) V).length ≤ V.length + l.length
  | [], V => by simp
  | x :: r, V => by
    have h1 := foldV_len r (putV V x.1 x.2)
    have h2 := putV_len V x.1 x.2
    simp only [List.foldl_cons, List.length_cons]
    omega

/-- A trace with one number more. -/
theorem traceB_first (y : Int) : traceB [y] = ofD (Lib.itoa y) := by
  unfold traceB ofD
  rw [List.map_cons, List.map_nil, Lib.join_one]
theorem traceB_more (tr : List Int) (y : Int) (h : tr ≠ []) : traceB (tr ++ [y]) = (traceB tr ++ (⟨#[32]⟩ : BA)) ++ ofD (Lib.itoa y) := by
  cases tr with
  | nil => exact absurd rfl h
  | cons a r =>
    apply ba_ext
    rw [ByteArray.toList_eq, ByteArray.toList_eq]
    have e : (Lib.join ((a :: r ++ [y]).map Lib.itoa) [32]) = Lib.join ((a :: r).map Lib.itoa) [32] ++ (32 :: Lib.itoa y) := by
      rw [List.map_append, List.map_cons, List.cons_append, Lib.join_cons, Lib.join_cons, joinTail_app, List.append_assoc]
      simp [Lib.joinTail]
    show (Lib.join ((a :: r ++ [y]).map Lib.itoa) [32]).toArray.toList = _
    rw [e]
    simp [traceB, ofD]
theorem itoa_len_pos (y : Int) : 0 < (Lib.itoa y).length := by
  unfold Lib.itoa
  split
  · simp
  · rw [Lib.decDigits]
    split <;> simp
theorem traceB_empty (tr : List Int) : (traceB tr).size = 0 ↔ tr = [] := by
  constructor
  · intro h
    cases tr with
    | nil => rfl
    | cons a r =>
      exfalso
      have h2 : (Lib.join ((a :: r).map Lib.itoa) [32]).length = 0 := by
        have : (traceB (a :: r)).size = (Lib.join ((a :: r).map Lib.itoa) [32]).length := by
          show (Lib.join ((a :: r).map Lib.itoa) [32]).toArray.size = _
          simp
        omega
      rw [List.map_cons, Lib.join_cons, List.length_append] at h2
      have := itoa_len_pos a
      omega
  · rintro rfl
    rfl

end Go.Proofs.YtbddcodljmglfaaGreatDoor

namespace Go.Proofs.YtbddcodljmglfaaGreatDoor
open Go.RowKit

theorem aggRes2 : AggT 44 3 [.bool false, .int .i64 0, .string ⟨#[]⟩] := ⟨⟨_, Tryz.underlying44, rfl⟩, by kernel_rfl, by kernel_rfl, rfl⟩

theorem VarsIn.below {base : Nat} {w w' : World} {vb : Nat} {V : List (Ver × Int)} {nv vv : Value} (h : VarsIn base w vb V nv vv) (hb : Below w.heap.size w w') : VarsIn base w' vb V nv vv :=
  ⟨h.box.below hb, own_below h.names hb, own_below h.values hb, h.zero, h.lo, h.few⟩

/-- The world of the document's run: its variables, its result's box, the box of what it will answer. -/
structure DRun (w wr : World) (rb : Nat) (V : List (Ver × Int)) (nv vv : Value) (rc : List Value) : Prop where
  vars : VarsIn (w.heap.size + 1) wr (w.heap.size + 1) V nv vv
  res : BoxIn wr w.heap.size 44 [.bool false, .int .i64 0, .string ⟨#[]⟩]
  r : BoxIn wr rb 44 rc
  lo : w.heap.size + 1 ≤ rb
  bel : Below w.heap.size w wr
  nodup : (V.map (·.1)).Nodup
  fits : FitV V
section
variable {w wr w' : World} {rb : Nat} {V : List (Ver × Int)} {nv vv : Value} {rc : List Value}
theorem DRun.hi (h : DRun w wr rb V nv vv rc) : w.heap.size + 1 ≤ wr.heap.size := h.res.lt
theorem DRun.below (h : DRun w wr rb V nv vv rc) (hb : Below wr.heap.size wr w') : DRun w w' rb V nv vv rc :=
  ⟨h.vars.below hb, h.res.below hb, h.r.below hb, h.lo, h.bel.trans (hb.mono (by have := h.hi; omega)), h.nodup, h.fits⟩
theorem DRun.set (h : DRun w wr rb V nv vv rc) (i : Nat) (u : Value) : DRun w (wr.setCell ⟨rb, i, none⟩ u) rb V nv vv (rc.set i u) := by
  have hr := h.r
  refine ⟨⟨h.vars.box.of_block (Below.heap_setCell _ _ _ _ ?_), h.vars.names.set_other hr (by decide) _, h.vars.values.set_other hr (by decide) _, h.vars.zero, h.vars.lo, h.vars.few⟩, h.res.of_block (Below.heap_setCell _ _ _ _ ?_), ?_, h.lo, h.bel.trans ((Below.refl _ _).setCell ?_ _), h.nodup, h.fits⟩
  · show w.heap.size + 1 ≠ rb
    rintro rfl
    have := h.vars.box
    unfold BoxIn at this
    rw [show wr.heap[w.heap.size + 1]? = _ from hr] at this
    simp at this
  · have := h.lo
    show w.heap.size ≠ rb
    omega
  · exact hr.set (i := i)
  · have := h.lo
    show _ ≤ rb
    omega
theorem DRun.get (h : DRun w wr rb V nv vv rc) (x : BA) : Calls Tryz.prog 76 #[.pointer (some ⟨w.heap.size + 1, 0, none⟩), .string x] wr fun e w' => e = .returned (.int .i64 (getV V (x, 0))) ∧ w' = wr := get_any wr _ _ V nv vv x h.vars
theorem DRun.put (h : DRun w wr rb V nv vv rc) (x : BA) (n : Int) (hn : fits64 n) (hl : V.length ≤ 999999) : Calls Tryz.prog 74 #[.pointer (some ⟨w.heap.size + 1, 0, none⟩), .string x, .int .i64 n] wr fun e w' => e = .returned (.tuple #[]) ∧ ∃ nv' vv', DRun w w' rb (putV V (x, 0) n) nv' vv' rc := by
  refine (put_any wr _ _ V nv vv x n h.vars h.nodup h.hi hl).mono ?_
  rintro e w' ⟨h1, ⟨nv', vv', h2⟩, h3, h4⟩
  exact ⟨h1, nv', vv', h2, h.res.of_block (h3.block _ (by omega)), h4 _ _ _ h.r, h.lo, h.bel.trans (h3.mono (by omega)), putV_nodup h.nodup, h.fits.put _ hn⟩
end
theorem rdT_cells {w : World} {t : TypeId} {ao : Option Addr} {n cp : Nat} {ls : List Nat} (h : RdT w t 1 (.slice ao n cp) n (nums ls)) (hn : 0 < n) : ∃ g o, ao = some ⟨g, o, none⟩ ∧ ∀ (j k : Nat), ls[j]? = some k → w.cell? ⟨g, o + j, none⟩ = some (.int .i64 (k : Int)) := by
  obtain ⟨ao', cp', h1, -, h2⟩ := h.cell
  injection h1 with h1 _ _
  obtain ⟨g, o, h3, -, h4⟩ := h2 hn
  exact ⟨g, o, h1.trans h3, fun j k hk => h4 j _ (by simp [nums, hk])⟩

theorem traceB_size (tr : List Int) (h : ∀ n ∈ tr, fits64 n) : (traceB tr).size ≤ 22 * tr.length := by
  have e : (traceB tr).size = (Lib.join (tr.map Lib.itoa) [32]).length := by
    show (Lib.join (tr.map Lib.itoa) [32]).toArray.size = _
    simp
  rw [e]
  have hl := lens_le tr h
  cases tr with
  | nil => simp [Lib.join]
  | cons a r =>
    rw [List.map_cons, Lib.join_length]
    simp only [List.length_map, List.length_cons, List.map_cons, List.length_nil] at *
    omega
theorem itoa_size {Y : Int} (h : fits64 Y) : (ofD (Lib.itoa Y)).size ≤ 21 := by
  have := Lib.itoa_length_le Y h.1 h.2
  show (Lib.itoa Y).toArray.size ≤ 21
  simpa using this
theorem baEmpty (s : BA) : (ByteArray.toList s).isEmpty = decide (s.size = 0) := by
  rw [ByteArray.toList_eq]
  have : s.size = s.data.toList.length := by simp
  rw [this]
  cases s.data.toList <;> simp
/-- The lines ahead: what they say, that they end a block, that they lead somewhere. -/
structure LsIn (T : List BA) (n i : Nat) (ls : List LineG) : Prop where
  text : ∀ (k : Nat) l, ls[k]? = some l → ∃ x, T[i + k]? = some x ∧ lineOf 0 (cuts 32 x) = some l
  ends : ∃ pre last, ls = pre ++ [last] ∧ endsK last.word = true
  leads : ∀ l ∈ ls, ∀ k ∈ l.leads, k < n
theorem LsIn.some {T : List BA} {n i : Nat} {ls : List LineG} (h : LsIn T n i ls) : ∃ l r, ls = l :: r := by
  obtain ⟨pre, last, rfl, -⟩ := h.ends
  cases pre with
  | nil => exact ⟨_, _, rfl⟩
  | cons a r => exact ⟨_, _, rfl⟩
theorem LsIn.next {T : List BA} {n i : Nat} {l : LineG} {r : List LineG} (h : LsIn T n i (l :: r)) (he : endsK l.word = false) : LsIn T n (i + 1) r := by
  refine ⟨fun k l' hk => ?_, ?_, fun l' hl => h.leads l' (List.mem_cons_of_mem _ hl)⟩
  · obtain ⟨x, h1, h2⟩ := h.text (k + 1) l' hk
    exact ⟨x, by rw [← h1]; congr 1; omega, h2⟩
  · obtain ⟨pre, last, h1, h2⟩ := h.ends
    cases pre with
    | nil =>
      simp at h1
      rw [h1.1] at he
      rw [he] at h2
      cases h2
    | cons a p =>
      injection h1 with _ h1
      exact ⟨p, last, h1, h2⟩

/-- A line that sets something, by its first two words. -/
theorem LineW.sets {ws : List BA} {l : LineG} (h : LineW ws l) (hw : l.word < 6) : ∃ x0 a r, ws = x0 :: a :: r ∧ l.sets = (a, 0) ∧ (ByteArray.toList x0 == [101, 110, 100]) = false ∧ (ByteArray.toList x0 == [111, 117, 116]) = false ∧ (ByteArray.toList x0 == [103, 111, 116, 111]) = false ∧ (ByteArray.toList x0 == [105, 102]) = false := by
  cases h with
  | set x0 a b v h0 hb => exact ⟨x0, a, _, rfl, rfl, by rw [kind_word h0]; rfl, by rw [kind_word h0]; rfl, by rw [kind_word h0]; rfl, by rw [kind_word h0]; rfl⟩
  | copy x0 a b h0 => exact ⟨x0, a, _, rfl, rfl, by rw [kind_word h0]; rfl, by rw [kind_word h0]; rfl, by rw [kind_word h0]; rfl, by rw [kind_word h0]; rfl⟩
  | two k x0 a b c h0 hk =>
    refine ⟨x0, a, _, rfl, rfl, ?_, ?_, ?_, ?_⟩
    all_goals (rw [kind_word h0]; rcases hk with rfl | rfl | rfl | rfl <;> rfl)
  | one k x0 a h0 hk => rcases hk with rfl | rfl <;> simp at hw
  | go x0 a n h0 ha => simp at hw
  | cond x0 a b c n m h0 hb hc => simp at hw
theorem LineW.out {ws : List BA} {l : LineG} (h : LineW ws l) (hw : l.word = 6) : ∃ x0 a, ws = [x0, a] ∧ l.takes = [(a, 0)] ∧ (ByteArray.toList x0 == [101, 110, 100]) = false ∧ (ByteArray.toList x0 == [111, 117, 116]) = true := by
  cases h with
  | set x0 a b v h0 hb => simp at hw
  | copy x0 a b h0 => simp at hw
  | two k x0 a b c h0 hk => simp at hw; omega
  | one k x0 a h0 hk => simp at hw; subst hw; exact ⟨x0, a, rfl, rfl, by rw [kind_word h0]; rfl, by rw [kind_word h0]; rfl⟩
  | go x0 a n h0 ha => simp at hw
  | cond x0 a b c n m h0 hb hc => simp at hw
theorem LineW.ended {ws : List BA} {l : LineG} (h : LineW ws l) (hw : l.word = 9) : ∃ x0 a, ws = [x0, a] ∧ l.takes = [(a, 0)] ∧ (ByteArray.toList x0 == [101, 110, 100]) = true := by
  cases h with
  | set x0 a b v h0 hb => simp at hw
  | copy x0 a b h0 => simp at hw
  | two k x0 a b c h0 hk => simp at hw; omega
  | one k x0 a h0 hk => simp at hw; subst hw; exact ⟨x0, a, rfl, rfl, by rw [kind_word h0]; rfl⟩
  | go x0 a n h0 ha => simp at hw
  | cond x0 a b c n m h0 hb hc => simp at hw
theorem LineW.goes {ws : List BA} {l : LineG} (h : LineW ws l) (hw : l.word = 7) : ∃ x0 a n, ws = [x0, a] ∧ l.leads = [n] ∧ (∀ y, nextG l y = n) ∧ (ByteArray.toList x0 == [101, 110, 100]) = false ∧ (ByteArray.toList x0 == [111, 117, 116]) = false ∧ (ByteArray.toList x0 == [103, 111, 116, 111]) = true ∧ (ByteArray.toList x0 == [105, 102]) = false := by
  cases h with
  | set x0 a b v h0 hb => simp at hw
  | copy x0 a b h0 => simp at hw
  | two k x0 a b c h0 hk => simp at hw; omega
  | one k x0 a h0 hk => simp at hw; omega
  | go x0 a n h0 ha => exact ⟨x0, a, n, rfl, rfl, fun y => by simp [nextG], by rw [kind_word h0]; rfl, by rw [kind_word h0]; rfl, by rw [kind_word h0]; rfl, by rw [kind_word h0]; rfl⟩
  | cond x0 a b c n m h0 hb hc => simp at hw
theorem LineW.ifs {ws : List BA} {l : LineG} (h : LineW ws l) (hw : l.word = 8) : ∃ x0 a b c n m, ws = [x0, a, b, c] ∧ l.leads = [n, m] ∧ l.takes = [(a, 0)] ∧ (∀ y, nextG l y = if y = 0 then m else n) ∧ (ByteArray.toList x0 == [101, 110, 100]) = false ∧ (ByteArray.toList x0 == [111, 117, 116]) = false ∧ (ByteArray.toList x0 == [103, 111, 116, 111]) = false ∧ (ByteArray.toList x0 == [105, 102]) = true := by
  cases h with
  | set x0 a b v h0 hb => simp at hw
  | copy x0 a b h0 => simp at hw
  | two k x0 a b c h0 hk => simp at hw; omega
  | one k x0 a h0 hk => simp at hw; omega
  | go x0 a n h0 ha => simp at hw
  | cond x0 a b c n m h0 hb hc => exact ⟨x0, a, b, c, n, m, rfl, rfl, rfl, fun y => by by_cases hy : y = 0 <;> simp [nextG, hy], by rw [kind_word h0]; rfl, by rw [kind_word h0]; rfl, by rw [kind_word h0]; rfl, by rw [kind_word h0]; rfl⟩

theorem tleads {base : Nat} {w : World} {tb i : Nat} {T : List BA} {bl : List Nat} {gL offL cpL : Nat} {bv : Value} {vals : List Value} {x : BA} {l : LineG} (hT : TextIn base w tb T bl (.slice (some ⟨gL, offL, none⟩) T.length cpL) bv vals) (hx : T[i]? = some x) (hl : lineOf 0 (cuts 32 x) = some l) (hTl : T.length ≤ 1000) (hpl : kindOf (hd (cuts 32 x)) = none ∨ plainR 0 (hd (cuts 32 x)) (cuts 32 x)) :
    Calls Tryz.prog 72 #[.pointer (some ⟨tb, 0, none⟩), .int .i64 (i : Int)] w fun e w' => (∃ ao cp, e = .returned (.slice ao l.leads.length cp) ∧ RdT w' 3 1 (.slice ao l.leads.length cp) l.leads.length (nums l.leads)) ∧ Below w.heap.size w w' := by
  obtain ⟨vw, ci, hwi, hcap⟩ := hT.line hx
  have hi := (List.getElem?_eq_some_iff.1 hx).1
  refine (leads_any w tb gL offL T.length cpL i (cuts 32 x) vw (hd (cuts 32 x)) hi (by omega) hcap (hT.box.cell rfl) ci hwi hpl).mono ?_
  rintro e w' ⟨⟨v, rfl, h1⟩, h2⟩
  have he : leadsR (hd (cuts 32 x)) (cuts 32 x) = l.leads := leadsS_line hl
  rw [he] at h1
  obtain ⟨ao, cp, rfl⟩ := h1.len
  exact ⟨⟨ao, cp, rfl, h1.rdT⟩, h2⟩

end Go.Proofs.YtbddcodljmglfaaGreatDoor
