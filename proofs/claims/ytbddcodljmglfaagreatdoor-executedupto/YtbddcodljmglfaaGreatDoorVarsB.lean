/- Fueled: more fuel goes on where less has stopped. And what follows on it. -/
import Derived.Test.YtbddcodljmglfaaGreatDoorRunB
import Derived.Deep.RegionWith
import Derived.Test.YtbddcodljmglfaaGreatDoorTopA
import Derived.Test.YtbddcodljmglfaaGreatDoorRunA
import Derived.Test.YtbddcodljmglfaaGreatDoorVarsA
import Derived.Test.YtbddcodljmglfaaGreatDoorTextA
import Derived.Test.YtbddcodljmglfaaGreatDoorTextB
set_option linter.unusedSimpArgs false
set_option linter.unusedVariables false
namespace Go.Proofs.YtbddcodljmglfaaGreatDoor
open Go.RowKit

theorem joinTail_app (sep : List UInt8) (a b : List (List UInt8)) : Lib.joinTail sep (a ++ b) = Lib.joinTail sep a ++ Lib.joinTail sep b := by simp [Lib.joinTail]
end Go.Proofs.YtbddcodljmglfaaGreatDoor

namespace Go.Proofs.YtbddcodljmglfaaGreatDoor
open Go.RowKit

theorem putV_nodup {V : List (Ver × Int)} {p : Ver} {n : Int} (h : (V.map (·.1)).Nodup) : ((putV V p n).map (·.1)).Nodup := by
  unfold putV
  split
  · have e : (V.map (fun x => if x.1 = p then (p, n) else x)).map (·.1) = V.map (·.1) := by
      rw [List.map_map]
      apply List.map_congr_left
      intro x _
      by_cases hx : x.1 = p <;> simp [hx]
    rw [e]
    exact h
  · rename_i hh
    rw [List.map_append, List.nodup_append]
    refine ⟨h, by simp, fun a ha b hb e => ?_⟩
    simp at hb
    subst hb
    subst e
    exact hh (hasV_iff.2 ha)
theorem putV_len (V : List (Ver × Int)) (p : Ver) (n : Int) : (putV V p n).length ≤ V.length + 1 := by
  unfold putV
  split <;> simp
theorem foldV_nodup : ∀ (l : List (Ver × Int)) (V : List (Ver × Int)), (V.map (·.1)).Nodup → ((l.foldl (fun V x => putV V x.1 x.2) V).map (·.1)).Nodup
  | [], V, h => h
  | x :: r, V, h => foldV_nodup r _ (putV_nodup h)
theorem foldV_len : ∀ (l : List (Ver × Int)) (V : List (Ver × Int)), (l.foldl (fun V x => putV V x.1 x.2) V).length ≤ V.length + l.length
  | [], V => by simp
  | x :: r, V => by
    have h1 := foldV_len r (putV V x.1 x.2)
    have h2 := putV_len V x.1 x.2
    simp only [List.foldl_cons, List.length_cons]
    omega

/-- A trace with one number more. -/
theorem traceB_first (y : Int) : traceB [y] = ofD (Lib.itoa y) := by
  unfold traceB ofD
  rw [List.map_cons, List.map_nil, Lib.join_one]
theorem traceB_more (tr : List Int) (y : Int) (h : tr ≠ []) : traceB (tr ++ [y]) = (traceB tr ++ (⟨#[32]⟩ : BA)) ++ ofD (Lib.itoa y) := by
  cases tr with
  | nil => exact absurd rfl h
  | cons a r =>
    apply ba_ext
    rw [ByteArray.toList_eq, ByteArray.toList_eq]
    have e : (Lib.join ((a :: r ++ [y]).map Lib.itoa) [32]) = Lib.join ((a :: r).map Lib.itoa) [32] ++ (32 :: Lib.itoa y) := by
      rw [List.map_append, List.map_cons, List.cons_append, Lib.join_cons, Lib.join_cons, joinTail_app, List.append_assoc]
      simp [Lib.joinTail]
    show (Lib.join ((a :: r ++ [y]).map Lib.itoa) [32]).toArray.toList = _
    rw [e]
    simp [traceB, ofD]
theorem itoa_len_pos (y : Int) : 0 < (Lib.itoa y).length := by
  unfold Lib.itoa
  split
  · simp
  · rw [Lib.decDigits]
    split <;> simp
theorem traceB_empty (tr : List Int) : (traceB tr).size = 0 ↔ tr = [] := by
  constructor
  · intro h
    cases tr with
    | nil => rfl
    | cons a r =>
      exfalso
      have h2 : (Lib.join ((a :: r).map Lib.itoa) [32]).length = 0 := by
        have : (traceB (a :: r)).size = (Lib.join ((a :: r).map Lib.itoa) [32]).length := by
          show (Lib.join ((a :: r).map Lib.itoa) [32]).toArray.size = _
          simp
        omega
      rw [List.map_cons, Lib.join_cons, List.length_append] at h2
      have := itoa_len_pos a
      omega
  · rintro rfl
    rfl

end Go.Proofs.YtbddcodljmglfaaGreatDoor

namespace Go.Proofs.YtbddcodljmglfaaGreatDoor
open Go.RowKit

theorem aggRes2 : AggT 44 3 [.bool false, .int .i64 0, .string ⟨#[]⟩] := ⟨⟨_, Tryz.underlying44, rfl⟩, by kernel_rfl, by kernel_rfl, rfl⟩

theorem VarsIn.below {base : Nat} {w w' : World} {vb : Nat} {V : List (Ver × Int)} {nv vv : Value} (h : VarsIn base w vb V nv vv) (hb : Below w.heap.size w w') : VarsIn base w' vb V nv vv :=
  ⟨h.box.below hb, own_below h.names hb, own_below h.values hb, h.zero, h.lo, h.few⟩

/-- The world of the document's run: its variables, its result's box, the box of what it will answer. -/
structure DRun (w wr : World) (rb : Nat) (V : List (Ver × Int)) (nv vv : Value) (rc : List Value) : Prop where
  vars : VarsIn (w.heap.size + 1) wr (w.heap.size + 1) V nv vv
  res : BoxIn wr w.heap.size 44 [.bool false, .int .i64 0, .string ⟨#[]⟩]
  r : BoxIn wr rb 44 rc
  lo : w.heap.size + 1 ≤ rb
  bel : Below w.heap.size w wr
  nodup : (V.map (·.1)).Nodup
  fits : FitV V
section
variable {w wr w' : World} {rb : Nat} {V : List (Ver × Int)} {nv vv : Value} {rc : List Value}
theorem DRun.hi (h : DRun w wr rb V nv vv rc) : w.heap.size + 1 ≤ wr.heap.size := h.res.lt
theorem DRun.below (h : DRun w wr rb V nv vv rc) (hb : Below wr.heap.size wr w') : DRun w w' rb V nv vv rc :=
  ⟨h.vars.below hb, h.res.below hb, h.r.below hb, h.lo, h.bel.trans (hb.mono (by have := h.hi; omega)), h.nodup, h.fits⟩
theorem DRun.set (h : DRun w wr rb V nv vv rc) (i : Nat) (u : Value) : DRun w (wr.setCell ⟨rb, i, none⟩ u) rb V nv vv (rc.set i u) := by
  have hr := h.r
  refine ⟨⟨h.vars.box.of_block (Below.heap_setCell _ _ _ _ ?_), h.vars.names.set_other hr (by decide) _, h.vars.values.set_other hr (by decide) _, h.vars.zero, h.vars.lo, h.vars.few⟩, h.res.of_block (Below.heap_setCell _ _ _ _ ?_), ?_, h.lo, h.bel.trans ((Below.refl _ _).setCell ?_ _), h.nodup, h.fits⟩
  · show w.heap.size + 1 ≠ rb
    rintro rfl
    have := h.vars.box
    unfold BoxIn at this
    rw [show wr.heap[w.heap.size + 1]? = _ from hr] at this
    simp at this
  · have := h.lo
    show w.heap.size ≠ rb
    omega
  · exact hr.set (i := i)
  · have := h.lo
    show _ ≤ rb
    omega
theorem DRun.get (h : DRun w wr rb V nv vv rc) (x : BA) : Calls Tryz.prog 76 #[.pointer (some ⟨w.heap.size + 1, 0, none⟩), .string x] wr fun e w' => e = .returned (.int .i64 (getV V (x, 0))) ∧ w' = wr := get_any wr _ _ V nv vv x h.vars
theorem DRun.put (h : DRun w wr rb V nv vv rc) (x : BA) (n : Int) (hn : fits64 n) (hl : V.length ≤ 999999) : Calls Tryz.prog 74 #[.pointer (some ⟨w.heap.size + 1, 0, none⟩), .string x, .int .i64 n] wr fun e w' => e = .returned (.tuple #[]) ∧ ∃ nv' vv', DRun w w' rb (putV V (x, 0) n) nv' vv' rc := by
  refine (put_any wr _ _ V nv vv x n h.vars h.nodup h.hi hl).mono ?_
  rintro e w' ⟨h1, ⟨nv', vv', h2⟩, h3, h4⟩
  exact ⟨h1, nv', vv', h2, h.res.of_block (h3.block _ (by omega)), h4 _ _ _ h.r, h.lo, h.bel.trans (h3.mono (by omega)), putV_nodup h.nodup, h.fits.put _ hn⟩
end
theorem rdT_cells {w : World} {t : TypeId} {ao : Option Addr} {n cp : Nat} {ls : List Nat} (h : RdT w t 1 (.slice ao n cp) n (nums ls)) (hn : 0 < n) : ∃ g o, ao = some ⟨g, o, none⟩ ∧ ∀ (j k : Nat), ls[j]? = some k → w.cell? ⟨g, o + j, none⟩ = some (.int .i64 (k : Int)) := by
  obtain ⟨ao', cp', h1, -, h2⟩ := h.cell
  injection h1 with h1 _ _
  obtain ⟨g, o, h3, -, h4⟩ := h2 hn
  exact ⟨g, o, h1.trans h3, fun j k hk => h4 j _ (by simp [nums, hk])⟩

theorem traceB_size (tr : List Int) (h : ∀ n ∈ tr, fits64 n) : (traceB tr).size ≤ 22 * tr.length := by
  have e : (traceB tr).size = (Lib.join (tr.map Lib.itoa) [32]).length := by
    show (Lib.join (tr.map Lib.itoa) [32]).toArray.size = _
    simp
  rw [e]
  have hl := lens_le tr h
  cases tr with
  | nil => simp [Lib.join]
  | cons a r =>
    rw [List.map_cons, Lib.join_length]
    simp only [List.length_map, List.length_cons, List.map_cons, List.length_nil] at *
    omega
theorem itoa_size {Y : Int} (h : fits64 Y) : (ofD (Lib.itoa Y)).size ≤ 21 := by
  have := Lib.itoa_length_le Y h.1 h.2
  show (Lib.itoa Y).toArray.size ≤ 21
  simpa using this
theorem baEmpty (s : BA) : (ByteArray.toList s).isEmpty = decide (s.size = 0) := by
  rw [ByteArray.toList_eq]
  have : s.size = s.data.toList.length := by simp
  rw [this]
  cases s.data.toList <;> simp
/-- The lines ahead: what they say, that they end a block, that they lead somewhere. -/
structure LsIn (T : List BA) (n i : Nat) (ls : List LineG) : Prop where
  text : ∀ (k : Nat) l, ls[k]? = some l → ∃ x, T[i + k]? = some x ∧ lineOf 0 (cuts 32 x) = some l
  ends : ∃ pre last, ls = pre ++ [last] ∧ endsK last.word = true
  leads : ∀ l ∈ ls, ∀ k ∈ l.leads, k < n
theorem LsIn.some {T : List BA} {n i : Nat} {ls : List LineG} (h : LsIn T n i ls) : ∃ l r, ls = l :: r := by
  obtain ⟨pre, last, rfl, -⟩ := h.ends
  cases pre with
  | nil => exact ⟨_, _, rfl⟩
  | cons a r => exact ⟨_, _, rfl⟩
theorem LsIn.next {T : List BA} {n i : Nat} {l : LineG} {r : List LineG} (h : LsIn T n i (l :: r)) (he : endsK l.word = false) : LsIn T n (i + 1) r := by
  refine ⟨fun k l' hk => ?_, ?_, fun l' hl => h.leads l' (List.mem_cons_of_mem _ hl)⟩
  · obtain ⟨x, h1, h2⟩ := h.text (k + 1) l' hk
    exact ⟨x, by rw [← h1]; congr 1; omega, h2⟩
  · obtain ⟨pre, last, h1, h2⟩ := h.ends
    cases pre with
    | nil =>
      simp at h1
      rw [h1.1] at he
      rw [he] at h2
      cases h2
    | cons a p =>
      injection h1 with _ h1
      exact ⟨p, last, h1, h2⟩

/-- A line that sets something, by its first two words. -/
theorem LineW.sets {ws : List BA} {l : LineG} (h : LineW ws l) (hw : l.word < 6) : ∃ x0 a r, ws = x0 :: a :: r ∧ l.sets = (a, 0) ∧ (ByteArray.toList x0 == [101, 110, 100]) = false ∧ (ByteArray.toList x0 == [111, 117, 116]) = false ∧ (ByteArray.toList x0 == [103, 111, 116, 111]) = false ∧ (ByteArray.toList x0 == [105, 102]) = false := by
  cases h with
  | set x0 a b v h0 hb => exact ⟨x0, a, _, rfl, rfl, by rw [kind_word h0]; rfl, by rw [kind_word h0]; rfl, by rw [kind_word h0]; rfl, by rw [kind_word h0]; rfl⟩
  | copy x0 a b h0 => exact ⟨x0, a, _, rfl, rfl, by rw [kind_word h0]; rfl, by rw [kind_word h0]; rfl, by rw [kind_word h0]; rfl, by rw [kind_word h0]; rfl⟩
  | two k x0 a b c h0 hk =>
    refine ⟨x0, a, _, rfl, rfl, ?_, ?_, ?_, ?_⟩
    all_goals (rw [kind_word h0]; rcases hk with rfl | rfl | rfl | rfl <;> rfl)
  | one k x0 a h0 hk => rcases hk with rfl | rfl <;> simp at hw
  | go x0 a n h0 ha => simp at hw
  | cond x0 a b c n m h0 hb hc => simp at hw
theorem LineW.out {ws : List BA} {l : LineG} (h : LineW ws l) (hw : l.word = 6) : ∃ x0 a, ws = [x0, a] ∧ l.takes = [(a, 0)] ∧ (ByteArray.toList x0 == [101, 110, 100]) = false ∧ (ByteArray.toList x0 == [111, 117, 116]) = true := by
  cases h with
  | set x0 a b v h0 hb => simp at hw
  | copy x0 a b h0 => simp at hw
  | two k x0 a b c h0 hk => simp at hw; omega
  | one k x0 a h0 hk => simp at hw; subst hw; exact ⟨x0, a, rfl, rfl, by rw [kind_word h0]; rfl, by rw [kind_word h0]; rfl⟩
  | go x0 a n h0 ha => simp at hw
  | cond x0 a b c n m h0 hb hc => simp at hw
theorem LineW.ended {ws : List BA} {l : LineG} (h : LineW ws l) (hw : l.word = 9) : ∃ x0 a, ws = [x0, a] ∧ l.takes = [(a, 0)] ∧ (ByteArray.toList x0 == [101, 110, 100]) = true := by
  cases h with
  | set x0 a b v h0 hb => simp at hw
  | copy x0 a b h0 => simp at hw
  | two k x0 a b c h0 hk => simp at hw; omega
  | one k x0 a h0 hk => simp at hw; subst hw; exact ⟨x0, a, rfl, rfl, by rw [kind_word h0]; rfl⟩
  | go x0 a n h0 ha => simp at hw
  | cond x0 a b c n m h0 hb hc => simp at hw
theorem LineW.goes {ws : List BA} {l : LineG} (h : LineW ws l) (hw : l.word = 7) : ∃ x0 a n, ws = [x0, a] ∧ l.leads = [n] ∧ (∀ y, nextG l y = n) ∧ (ByteArray.toList x0 == [101, 110, 100]) = false ∧ (ByteArray.toList x0 == [111, 117, 116]) = false ∧ (ByteArray.toList x0 == [103, 111, 116, 111]) = true ∧ (ByteArray.toList x0 == [105, 102]) = false := by
  cases h with
  | set x0 a b v h0 hb => simp at hw
  | copy x0 a b h0 => simp at hw
  | two k x0 a b c h0 hk => simp at hw; omega
  | one k x0 a h0 hk => simp at hw; omega
  | go x0 a n h0 ha => exact ⟨x0, a, n, rfl, rfl, fun y => by simp [nextG], by rw [kind_word h0]; rfl, by rw [kind_word h0]; rfl, by rw [kind_word h0]; rfl, by rw [kind_word h0]; rfl⟩
  | cond x0 a b c n m h0 hb hc => simp at hw
theorem LineW.ifs {ws : List BA} {l : LineG} (h : LineW ws l) (hw : l.word = 8) : ∃ x0 a b c n m, ws = [x0, a, b, c] ∧ l.leads = [n, m] ∧ l.takes = [(a, 0)] ∧ (∀ y, nextG l y = if y = 0 then m else n) ∧ (ByteArray.toList x0 == [101, 110, 100]) = false ∧ (ByteArray.toList x0 == [111, 117, 116]) = false ∧ (ByteArray.toList x0 == [103, 111, 116, 111]) = false ∧ (ByteArray.toList x0 == [105, 102]) = true := by
  cases h with
  | set x0 a b v h0 hb => simp at hw
  | copy x0 a b h0 => simp at hw
  | two k x0 a b c h0 hk => simp at hw; omega
  | one k x0 a h0 hk => simp at hw; omega
  | go x0 a n h0 ha => simp at hw
  | cond x0 a b c n m h0 hb hc => exact ⟨x0, a, b, c, n, m, rfl, rfl, rfl, fun y => by by_cases hy : y = 0 <;> simp [nextG, hy], by rw [kind_word h0]; rfl, by rw [kind_word h0]; rfl, by rw [kind_word h0]; rfl, by rw [kind_word h0]; rfl⟩

end Go.Proofs.YtbddcodljmglfaaGreatDoor
