/- The arguments of a statement, opened: slices of pairs and of numbers, with their lengths within the bound. -/
import Derived.Test.YtbddcodljmglfaaRows
import Derived.Test.YtbddcodljmglfaaWebMake
import Derived.ProofKit
import Derived.OpenShut
import Derived.JoinedCond
import Derived.Deep.SlicePairs
set_option linter.unusedSimpArgs false
set_option linter.unusedVariables false
namespace Go.Proofs.Ytbddcodljmglfaa
open Go.ChangeShapes Go.WideShapes Go.ChangeAt Go.RowKit

theorem Try.own : ownKnob Try.prog.godebug = none := by kernel_rfl
theorem Try.laidOut : laidOutB Try.prog = true := by kernel_rfl

theorem bulk_one {H : Type} (d : DataW H) : 1 ≤ Rows.uptoBulk d := by
  cases d with
  | lit l => cases l <;> simp [Rows.uptoBulk]
  | nil => simp [Rows.uptoBulk]
  | ptr d => simp [Rows.uptoBulk]
  | slice elems spare => simp [Rows.uptoBulk]
  | agg parts => simp [Rows.uptoBulk]
  | iface t d => simp [Rows.uptoBulk]
  | map entries => simp [Rows.uptoBulk]
  | held h => simp [Rows.uptoBulk]
theorem bulk_len {H : Type} (l : List (DataW H)) : l.length ≤ Rows.uptoBulkAll l := by
  induction l with
  | nil => simp [Rows.uptoBulkAll]
  | cons x r ih => have := bulk_one x; simp only [Rows.uptoBulkAll, List.length_cons]; omega
theorem bulk_slice {H : Type} (elems spare : List (DataW H)) : elems.length ≤ Rows.uptoBulk (.slice elems spare) := by
  have h1 := bulk_len elems
  simp only [Rows.uptoBulk]
  omega

theorem fits_of_wf {a : Int} (h : (Lit.int .i64 a).wf = true) : fits a := by
  simpa [fits, Lit.wf, IntKind.min, IntKind.max, IntKind.signed, IntKind.bits] using h

theorem rd_of {w : World} {size : Nat} {a : Addr} {n cap : Nat} {xs : List Value} (hs : 0 < size) (hl : xs.length = n * size) (h : ∀ j u, xs[j]? = some u → w.cell? (a.add j) = some u) : RdS w size (.slice (some a) n cap) n xs := by
  refine ⟨hl, some a, cap, rfl, ?_⟩
  by_cases hn : n = 0
  · exact .inl hn
  · right
    have hpos : 0 < xs.length := by rw [hl]; exact Nat.mul_pos (by omega) hs
    have h0 := h 0 xs[0] (by simp [hpos])
    obtain ⟨b, off, spot⟩ := a
    have hspot : spot = none := by simpa [Addr.add] using World.cell?_spot h0
    subst hspot
    refine ⟨b, off, rfl, fun j u hj => ?_⟩
    have := h j u hj
    rwa [Addr.add_lit] at this

theorem rcells_get_inv : ∀ (l : List (Int × Int)) (j : Nat) (u : Value), (rcells l)[j]? = some u → ∃ k, ∃ h : k < l.length, (j = k * 2 ∧ u = .int .i64 l[k].1) ∨ (j = k * 2 + 1 ∧ u = .int .i64 l[k].2)
  | [], j, u, h => by simp [rcells] at h
  | x :: l, 0, u, h => by
    simp [rcells] at h
    exact ⟨0, by simp, .inl ⟨rfl, by simp [h]⟩⟩
  | x :: l, 1, u, h => by
    simp [rcells] at h
    exact ⟨0, by simp, .inr ⟨rfl, by simp [h]⟩⟩
  | x :: l, j + 2, u, h => by
    have e : rcells (x :: l) = .int .i64 x.1 :: .int .i64 x.2 :: rcells l := by simp [rcells]
    rw [e] at h
    obtain ⟨k, hk, h'⟩ := rcells_get_inv l j u (by simpa using h)
    refine ⟨k + 1, by simpa using hk, ?_⟩
    rcases h' with ⟨h1, h2⟩ | ⟨h1, h2⟩
    · exact .inl ⟨by omega, by simpa using h2⟩
    · exact .inr ⟨by omega, by simpa using h2⟩
theorem rcells_length (l : List (Int × Int)) : (rcells l).length = l.length * 2 := by
  induction l with
  | nil => rfl
  | cons x l ih => simp [rcells] at ih ⊢; omega

def numIn : Value → Int
  | .int _ n => n
  | _ => 0

section
variable {H : Type} {enc : TypeId × Value → H} {W : World} {v : Value} {d : DataW H} {p : List MemPlace}

theorem open_nums (hv : ∃ a l c, v = .slice a l c) (h : DataW.Trod enc Try.prog W 0 (fun _ => true) true 26 v d p) :
    ∃ zs : List Int, RdS W 1 v zs.length (zs.map (Value.int .i64)) ∧ (∀ z ∈ zs, fits z) ∧ zs.length ≤ Rows.uptoBulk d ∧ (zs = [] ∨ ∃ elems spare, d = .slice elems spare ∧ zs.length ≤ elems.length) := by
  obtain ⟨a0, l0, c0, rfl⟩ := hv
  obtain ⟨fuel, hf⟩ := h
  rcases open_ints Try.underlying26 Try.underlying3 (by kernel_rfl) hf with ⟨hcs, _⟩ | ⟨x, l, c, zs, hcs, _, hl, hm, hz, hx, hcell, hwz⟩
  · simp [Value.cells] at hcs
    obtain ⟨rfl, rfl, rfl⟩ := hcs
    exact ⟨[], ⟨rfl, none, 0, rfl, .inl rfl⟩, by simp, by simp, .inl rfl⟩
  · simp [Value.cells] at hcs
    obtain ⟨rfl, rfl, rfl⟩ := hcs
    simp only [Prod.mk.injEq] at hx
    obtain ⟨rfl, rfl⟩ := hx
    have hzl : l0 ≤ zs.length := by rw [hz]; simpa using hl
    have htl : (zs.take l0).length = l0 := by simp; omega
    refine ⟨zs.take l0, ?_, fun z hz' => fits_of_wf (hwz z (List.mem_of_mem_take hz')), ?_, .inr ⟨_, _, rfl, by simp [lits]⟩⟩
    · rw [htl]
      refine rd_of (by decide) (by simp; omega) (fun j u hj => ?_)
      simp only [List.getElem?_map, Option.map_eq_some_iff] at hj
      obtain ⟨z, hz1, rfl⟩ := hj
      have hjl : j < l0 := by
        have := (List.getElem?_eq_some_iff.1 hz1).1
        rw [htl] at this
        exact this
      rw [List.getElem?_take_of_lt hjl] at hz1
      have := hcell j (by omega)
      rw [this]
      simp [List.getD, hz1]
    · have := bulk_slice (H := H) (lits .i64 (zs.take l0)) (lits .i64 (zs.drop l0))
      refine Nat.le_trans ?_ this
      simp [lits]

theorem open_pairs (hv : ∃ a l c, v = .slice a l c) (h : DataW.Trod enc Try.prog W 0 (fun _ => true) true 25 v d p) :
    ∃ xs : List (Int × Int), RdS W 2 v xs.length (rcells xs) ∧ (∀ x ∈ xs, fits x.1 ∧ fits x.2) ∧ xs.length ≤ Rows.uptoBulk d ∧ (xs = [] ∨ ∃ elems spare, d = .slice elems spare ∧ xs.length ≤ elems.length) := by
  obtain ⟨a0, l0, c0, rfl⟩ := hv
  obtain ⟨fuel, hf⟩ := h
  rcases Go.Deep.open_slice_pairs Try.underlying25 Try.underlying42 (by kernel_rfl) rfl rfl (by kernel_rfl) (by kernel_rfl) hf with ⟨hcs, _⟩ | ⟨x, l, c, m, n, V0, V1, D0, D1, P0, P1, hcs, _, hl, hm, hmm, hx, hcell⟩
  · simp [Value.cells] at hcs
    obtain ⟨rfl, rfl, rfl⟩ := hcs
    exact ⟨[], ⟨rfl, none, 0, rfl, .inl rfl⟩, by simp, by simp, .inl rfl⟩
  · simp [Value.cells] at hcs
    obtain ⟨rfl, rfl, rfl⟩ := hcs
    simp only [Prod.mk.injEq] at hx
    obtain ⟨rfl, rfl⟩ := hx
    have hml : l0 ≤ m := by rw [hmm]; simpa using hl
    have hnum : ∀ i, i < l0 → V0 i = .int .i64 (numIn (V0 i)) ∧ V1 i = .int .i64 (numIn (V1 i)) ∧ fits (numIn (V0 i)) ∧ fits (numIn (V1 i)) := by
      intro i hi
      obtain ⟨_, _, t0, t1⟩ := hcell i (by omega)
      obtain ⟨a, e0, _, wa⟩ := DataW.trod_int Try.underlying3 t0
      obtain ⟨b, e1, _, wb⟩ := DataW.trod_int Try.underlying3 t1
      simp at e0 e1
      rw [e0, e1]
      exact ⟨rfl, rfl, fits_of_wf wa, fits_of_wf wb⟩
    refine ⟨(List.range l0).map fun i => (numIn (V0 i), numIn (V1 i)), ?_, ?_, ?_, .inr ⟨_, _, rfl, by simp⟩⟩
    · simp only [List.length_map, List.length_range]
      refine rd_of (by decide) (by rw [rcells_length]; simp) (fun j u hj => ?_)
      obtain ⟨k, hk, h'⟩ := rcells_get_inv _ j u hj
      have hk' : k < l0 := by simpa using hk
      obtain ⟨q0, q1, _, _⟩ := hcell k (by omega)
      obtain ⟨e0, e1, _, _⟩ := hnum k hk'
      rcases h' with ⟨rfl, rfl⟩ | ⟨rfl, rfl⟩
      · rw [q0, e0]; simp [numIn]
      · rw [q1, e1]; simp [numIn]
    · intro y hy
      obtain ⟨i, hi, rfl⟩ := List.mem_map.1 hy
      obtain ⟨_, _, h1, h2⟩ := hnum i (by simpa using hi)
      exact ⟨h1, h2⟩
    · refine Nat.le_trans ?_ (bulk_slice (H := H) _ _)
      simp

end

end Go.Proofs.Ytbddcodljmglfaa
