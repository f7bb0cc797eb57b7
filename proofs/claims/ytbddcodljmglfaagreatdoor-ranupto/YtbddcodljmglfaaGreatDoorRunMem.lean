/- The world of a run: its result's box, the variables' map, the trace. -/
import Derived.Test.YtbddcodljmglfaaGreatDoorRunFns
import Derived.Test.YtbddcodljmglfaaGreatDoorEnv
import Derived.Test.YtbddcodljmglfaaGreatDoorLostFn
import Derived.Lib.ItoaLen
set_option linter.unusedSimpArgs false
set_option linter.unusedVariables false
namespace Go.Proofs.YtbddcodljmglfaaGreatDoor
open Go.RowKit

/-- A trace in memory: its numbers, in digits. -/
def digs (tr : List Int) : List BA := tr.map fun n => ⟨(Lib.itoa n).toArray⟩
def traceB (tr : List Int) : BA := ⟨(Lib.join (tr.map Lib.itoa) [32]).toArray⟩
def resCells (r : RunR) : List Value := [.bool r.ended, .int .i64 r.value, .string (traceB r.trace)]
def resV (r : RunR) : Value := .agg (resCells r).toArray
theorem aggRes : AggT 30 3 [.bool false, .int .i64 0, .string ⟨#[]⟩] := ⟨⟨_, Tryz.underlying30, rfl⟩, by kernel_rfl, by kernel_rfl, rfl⟩

theorem one_res (a : Bool) (b : Int) (c : BA) : ([Value.bool a, .int .i64 b, .string c].toArray.all (·.oneCell')) = true := by simp [Value.oneCell']
structure RunIn (w wr : World) (H m : Nat) (V : List (Ver × Int)) (tv : Value) (tr : List Int) : Prop where
  res : BoxIn wr H 30 [.bool false, .int .i64 0, .string ⟨#[]⟩]
  map : VMap wr m V
  lo : H + 1 ≤ m
  trace : OwnS wr (H + 1) 9 1 tv tr.length (strs (digs tr))
  bel : Below H w wr
  fits : FitV V
  tfits : ∀ n ∈ tr, fits64 n

section
variable {w wr w' : World} {H m : Nat} {V : List (Ver × Int)} {tv : Value} {tr : List Int}
theorem RunIn.hi (h : RunIn w wr H m V tv tr) : H + 1 ≤ wr.heap.size := h.res.lt
theorem RunIn.below (h : RunIn w wr H m V tv tr) (hb : Below wr.heap.size wr w') : RunIn w w' H m V tv tr :=
  ⟨h.res.below hb, h.map.below hb, h.lo, h.trace.of_block fun k hk => hb.block k (h.trace.lt k hk).2, h.bel.trans (hb.mono (by have := h.hi; omega)), h.fits, h.tfits⟩
/-- The map's block is not the trace's row. -/
theorem RunIn.apart (h : RunIn w wr H m V tv tr) : tv.ownBlock ≠ some m := by
  intro e
  obtain ⟨es, c, hm, -⟩ := h.map
  rcases h.trace.2 with ⟨h1, -⟩ | ⟨g, off, cap, cur, h1, -, h2, -⟩
  · rw [h1] at e; simp [Value.ownBlock] at e
  · rw [h1] at e
    simp [Value.ownBlock] at e
    subst e
    rw [hm] at h2
    cases h2
/-- A variable is set. -/
theorem RunIn.update (h : RunIn w wr H m V tv tr) {V' : List (Ver × Int)} (hm : VMap w' m V') (hf : FitV V') (ho : ∀ k, k ≠ m → w'.heap[k]? = wr.heap[k]?) (hs : w'.heap.size = wr.heap.size) (h1 : w'.os = wr.os) (h2 : w'.tape = wr.tape) (h3 : w'.output = wr.output) : RunIn w w' H m V' tv tr := by
  have hlo := h.lo
  have hhi := h.hi
  refine ⟨h.res.of_block (ho _ (by omega)), hm, h.lo, h.trace.of_block fun k hk => ho k (fun e => h.apart (by rw [← e]; exact hk)), h.bel.trans ⟨h1, h2, h3, Nat.le_of_eq hs.symm, fun k hk => ho k (by omega)⟩, hf, h.tfits⟩
/-- A number is put out. -/
theorem RunIn.put (h : RunIn w wr H m V tv tr) {o : Obj} {tv' : Value} {n : Int} (ho : OwnS w' (H + 1) 9 1 tv' (tr.length + 1) (strs (digs tr) ++ [.string ⟨(Lib.itoa n).toArray⟩])) (hg : (wr.alloc o).grownBy w' tv.ownBlock) (hn : fits64 n) : RunIn w w' H m V tv' (tr ++ [n]) := by
  have hhi := h.hi
  have hb : Below (H + 1) wr w' := grown_below h.trace hg (by omega)
  refine ⟨h.res.of_block (hb.block _ (by omega)), ?_, h.lo, ?_, h.bel.trans (hb.mono (by omega)), h.fits, fun x hx => ?_⟩
  · refine h.map.of_block ?_
    rw [hg.block m (by simp; have := h.map.lt; omega) (fun e => h.apart e.symm), Below.heap_alloc wr o m h.map.lt]
  · have : strs (digs (tr ++ [n])) = strs (digs tr) ++ [.string ⟨(Lib.itoa n).toArray⟩] := by simp [strs, digs]
    rw [this, List.length_append]
    exact ho
  · rcases List.mem_append.1 hx with hx | hx
    · exact h.tfits x hx
    · rw [List.mem_singleton] at hx; subst hx; exact hn
end

theorem digs_join (tr : List Int) : (digs tr).map (·.data.toList) = tr.map Lib.itoa := by
  simp [digs]
theorem lens_le (tr : List Int) (h : ∀ n ∈ tr, fits64 n) : Lib.lens (tr.map Lib.itoa) ≤ 21 * tr.length := by
  induction tr with
  | nil => simp [Lib.lens]
  | cons a r ih =>
    have h1 := Lib.itoa_length_le a (h a (by simp)).1 (h a (by simp)).2
    have h2 := ih fun n hn => h n (List.mem_cons_of_mem _ hn)
    simp only [List.map_cons, Lib.lens, List.length_cons, List.sum_cons] at *
    omega
theorem join_any (W : World) (base : Nat) (tv : Value) (tr : List Int) (hl : tr.length ≤ 1000000) (hf : ∀ n ∈ tr, fits64 n) (h : OwnS W base 9 1 tv tr.length (strs (digs tr))) :
    Calls Tryz.prog 66 #[tv, .string ⟨#[32]⟩] W fun e w' => e = .returned (.string (traceB tr)) ∧ Below W.heap.size W w' := by
  obtain ⟨ao, cp, rfl, hcp, hc⟩ := h.rdT.cell
  by_cases h0 : tr.length = 0
  · obtain rfl := List.eq_nil_of_length_eq_zero h0
    refine (Tryz.strings_Join_none ao cp ⟨#[32]⟩ W).mono ?_
    rintro e w' ⟨rfl, rfl⟩
    exact ⟨rfl, Below.refl _ _⟩
  · obtain ⟨g, off, rfl, hg, hx⟩ := hc (by omega)
    have hd : (digs tr).length = tr.length := by simp [digs]
    have := Tryz.strings_Join g off cp (digs tr) ⟨#[32]⟩ W (fun j x hx' => hx j _ (by simp [strs, hx'])) hg (by omega) (by omega) (by
      rw [digs_join]
      have hl2 := lens_le tr hf
      cases tr with
      | nil => simp at h0
      | cons a r =>
        rw [List.map_cons, Lib.join_length]
        simp only [List.length_map, List.length_cons, List.map_cons] at *
        show 1 * _ + _ ≤ _
        omega)
    rw [hd] at this
    refine this.mono ?_
    rintro e w' ⟨rfl, hb⟩
    refine ⟨?_, hb⟩
    rw [digs_join]
    rfl

end Go.Proofs.YtbddcodljmglfaaGreatDoor
