/- A list of numbers among the arguments, opened. -/
import Derived.Test.YtbddcodljmglfaaGreatDoorLaid
import Derived.Test.YtbddcodljmglfaaGreatDoorRunFns
import Derived.Deep.SlicePairs
set_option linter.unusedSimpArgs false
set_option linter.unusedVariables false
namespace Go.Proofs.YtbddcodljmglfaaGreatDoor
open Go.ChangeShapes Go.WideShapes Go.ChangeAt Go.RowKit

theorem Tryz.laidOut : laidOutB Tryz.prog = true := by kernel_rfl

theorem bulk_one {H : Type} (d : DataW H) : 1 ≤ Rows.uptoBulk d := by
  cases d with
  | lit l => cases l <;> simp [Rows.uptoBulk]
  | nil => simp [Rows.uptoBulk]
  | ptr d => simp [Rows.uptoBulk]
  | slice elems spare => simp [Rows.uptoBulk]
  | agg parts => simp [Rows.uptoBulk]
  | iface t d => simp [Rows.uptoBulk]
  | map entries => simp [Rows.uptoBulk]
  | held h => simp [Rows.uptoBulk]
theorem bulk_len {H : Type} (l : List (DataW H)) : l.length ≤ Rows.uptoBulkAll l := by
  induction l with
  | nil => simp [Rows.uptoBulkAll]
  | cons x r ih => have := bulk_one x; simp only [Rows.uptoBulkAll, List.length_cons]; omega
theorem bulk_slice {H : Type} (elems spare : List (DataW H)) : elems.length ≤ Rows.uptoBulk (.slice elems spare) := by
  have h1 := bulk_len elems
  simp only [Rows.uptoBulk]
  omega

theorem fits_of_wf {a : Int} (h : (Lit.int .i64 a).wf = true) : fits64 a := by
  simpa [fits64, Lit.wf, IntKind.min, IntKind.max, IntKind.signed, IntKind.bits] using h

theorem rd_of {w : World} {size : Nat} {a : Addr} {n cap : Nat} {xs : List Value} (hs : 0 < size) (hl : xs.length = n * size) (h : ∀ j u, xs[j]? = some u → w.cell? (a.add j) = some u) : RdS w size (.slice (some a) n cap) n xs := by
  refine ⟨hl, some a, cap, rfl, ?_⟩
  by_cases hn : n = 0
  · exact .inl hn
  · right
    have hpos : 0 < xs.length := by rw [hl]; exact Nat.mul_pos (by omega) hs
    have h0 := h 0 xs[0] (by simp [hpos])
    obtain ⟨b, off, spot⟩ := a
    have hspot : spot = none := by simpa [Addr.add] using World.cell?_spot h0
    subst hspot
    refine ⟨b, off, rfl, fun j u hj => ?_⟩
    have := h j u hj
    rwa [Addr.add_lit] at this

section
variable {H : Type} {enc : TypeId × Value → H} {W : World} {v : Value} {d : DataW H} {p : List MemPlace}

theorem open_nums (hv : ∃ a l c, v = .slice a l c) (h : DataW.Trod enc Tryz.prog W 0 (fun _ => true) true 24 v d p) :
    ∃ zs : List Int, RdS W 1 v zs.length (ints zs) ∧ (∀ z ∈ zs, fits64 z) ∧ zs.length ≤ Rows.uptoBulk d ∧ (zs = [] ∨ ∃ elems spare, d = .slice elems spare ∧ zs.length ≤ elems.length) := by
  obtain ⟨a0, l0, c0, rfl⟩ := hv
  obtain ⟨fuel, hf⟩ := h
  rcases open_ints Tryz.underlying24 Tryz.underlying2 (by kernel_rfl) hf with ⟨hcs, _⟩ | ⟨x, l, c, zs, hcs, _, hl, hm, hz, hx, hcell, hwz⟩
  · simp [Value.cells] at hcs
    obtain ⟨rfl, rfl, rfl⟩ := hcs
    exact ⟨[], ⟨rfl, none, 0, rfl, .inl rfl⟩, by simp, by simp, .inl rfl⟩
  · simp [Value.cells] at hcs
    obtain ⟨rfl, rfl, rfl⟩ := hcs
    simp only [Prod.mk.injEq] at hx
    obtain ⟨rfl, rfl⟩ := hx
    have hzl : l0 ≤ zs.length := by rw [hz]; simpa using hl
    have htl : (zs.take l0).length = l0 := by simp; omega
    refine ⟨zs.take l0, ?_, fun z hz' => fits_of_wf (hwz z (List.mem_of_mem_take hz')), ?_, .inr ⟨_, _, rfl, by simp [lits]⟩⟩
    · rw [htl]
      refine rd_of (by decide) (by simp [ints]; omega) (fun j u hj => ?_)
      simp only [ints, List.getElem?_map, Option.map_eq_some_iff] at hj
      obtain ⟨z, hz1, rfl⟩ := hj
      have hjl : j < l0 := by
        have := (List.getElem?_eq_some_iff.1 hz1).1
        rw [htl] at this
        exact this
      rw [List.getElem?_take_of_lt hjl] at hz1
      have := hcell j (by omega)
      rw [this]
      simp [List.getD, hz1]
    · have := bulk_slice (H := H) (lits .i64 (zs.take l0)) (lits .i64 (zs.drop l0))
      refine Nat.le_trans ?_ this
      simp [lits]
end

end Go.Proofs.YtbddcodljmglfaaGreatDoor
