/- A script that came in, opened. -/
import Derived.Test.YtbddcodljmglfaaArgs
import Derived.Test.YtbddcodljmglfaaPlays
import Derived.Deep.Slices
set_option linter.unusedSimpArgs false
set_option linter.unusedVariables false
namespace Go.Proofs.Ytbddcodljmglfaa
open Go.ChangeShapes Go.WideShapes Go.ChangeAt Go.RowKit

theorem bulk_mem {H : Type} {d : DataW H} : ∀ {l : List (DataW H)}, d ∈ l → Rows.uptoBulk d ≤ Rows.uptoBulkAll l
  | [], h => by simp at h
  | x :: r, h => by
    rcases List.mem_cons.1 h with rfl | h
    · simp only [Rows.uptoBulkAll]; omega
    · have := bulk_mem h
      simp only [Rows.uptoBulkAll]
      omega

section
variable {H : Type} {enc : TypeId × Value → H} {W : World} {v : Value} {d : DataW H} {p : List MemPlace}

theorem ocells_length (l : List OpV) : (ocells l).length = l.length * 6 := by
  induction l with
  | nil => rfl
  | cons x l ih => simp [ocells] at ih ⊢; omega

theorem ocells_inv (l : List OpV) (j : Nat) (u : Value) (h : (ocells l)[j]? = some u) : ∃ k, ∃ hk : k < l.length, (j = k * 6 ∧ u = .int .i64 l[k].kd) ∨ (j = k * 6 + 1 ∧ u = .int .i64 l[k].A) ∨ (j = k * 6 + 2 ∧ u = .int .i64 l[k].B) ∨ (j = k * 6 + 3 ∧ u = .int .i64 l[k].C) ∨ (j = k * 6 + 4 ∧ u = l[k].vL) ∨ (j = k * 6 + 5 ∧ u = .bool l[k].y) := by
  have hj : j < l.length * 6 := by rw [← ocells_length]; exact (List.getElem?_eq_some_iff.1 h).1
  have hk : j / 6 < l.length := by omega
  refine ⟨j / 6, hk, ?_⟩
  obtain ⟨h0, h1, h2, h3, h4, h5⟩ := ocells_get l (j / 6) hk
  have hm : j % 6 = 0 ∨ j % 6 = 1 ∨ j % 6 = 2 ∨ j % 6 = 3 ∨ j % 6 = 4 ∨ j % 6 = 5 := by omega
  rcases hm with e | e | e | e | e | e
  · have ej : j = j / 6 * 6 := by omega
    rw [← ej, h] at h0
    exact .inl ⟨ej, by simpa using h0⟩
  · have ej : j = j / 6 * 6 + 1 := by omega
    rw [← ej, h] at h1
    exact .inr (.inl ⟨ej, by simpa using h1⟩)
  · have ej : j = j / 6 * 6 + 2 := by omega
    rw [← ej, h] at h2
    exact .inr (.inr (.inl ⟨ej, by simpa using h2⟩))
  · have ej : j = j / 6 * 6 + 3 := by omega
    rw [← ej, h] at h3
    exact .inr (.inr (.inr (.inl ⟨ej, by simpa using h3⟩)))
  · have ej : j = j / 6 * 6 + 4 := by omega
    rw [← ej, h] at h4
    exact .inr (.inr (.inr (.inr (.inl ⟨ej, by simpa using h4⟩))))
  · have ej : j = j / 6 * 6 + 5 := by omega
    rw [← ej, h] at h5
    exact .inr (.inr (.inr (.inr (.inr ⟨ej, by simpa using h5⟩))))

set_option maxRecDepth 100000 in
theorem open_ops (hv : ∃ a l c, v = .slice a l c) (h : DataW.Trod enc Try.prog W 0 (fun _ => true) true 22 v d p) (hb : Rows.uptoBulk d ≤ 1048576) :
    ∃ os : List OpV, RdS W 6 v os.length (ocells os) ∧ (∀ o ∈ os, OpOk W o) ∧ os.length ≤ 1048576 := by
  obtain ⟨a0, l0, c0, rfl⟩ := hv
  obtain ⟨fuel, hf⟩ := h
  have hce : Try.prog.cellsOf 55 = 6 := by kernel_rfl
  rcases Go.Deep.open_slice Try.underlying22 hf with ⟨hcs, _⟩ | ⟨a, len, cap, m, n, D, Pl, hcs, _, hl, hm, hmm, hx, hcell⟩
  · simp [Value.cells] at hcs
    obtain ⟨rfl, rfl, rfl⟩ := hcs
    exact ⟨[], ⟨rfl, none, 0, rfl, .inl rfl⟩, by simp, by simp⟩
  · simp [Value.cells] at hcs
    obtain ⟨rfl, rfl, rfl⟩ := hcs
    simp only [Prod.mk.injEq] at hx
    obtain ⟨rfl, rfl⟩ := hx
    have hml : l0 ≤ m := by rw [hmm]; simpa using hl
    have each : ∀ i, i < l0 → ∃ o : OpV, (W.cell? (a.add (i * 6)) = some (.int .i64 o.kd) ∧ W.cell? (a.add (i * 6 + 1)) = some (.int .i64 o.A) ∧ W.cell? (a.add (i * 6 + 2)) = some (.int .i64 o.B) ∧ W.cell? (a.add (i * 6 + 3)) = some (.int .i64 o.C) ∧ W.cell? (a.add (i * 6 + 4)) = some o.vL ∧ W.cell? (a.add (i * 6 + 5)) = some (.bool o.y)) ∧ OpOk W o := by
      intro i hi
      obtain ⟨cs', g1, g2⟩ := hcell i (by omega)
      rw [hce] at g1
      obtain ⟨_, hlen, hc⟩ := World.cells?_some g1
      obtain ⟨xs, k, hk, hxy, _, hxl, hff⟩ := DataW.trod_struct Try.underlying55 g2
      match xs, hxl, cs', hlen with
      | [y0, y1, y2, y3, y4, y5], _, [u0, u1, u2, u3, u4, u5], _ =>
        have f0 := hff 0 _ rfl
        have f1 := hff 1 _ rfl
        have f2 := hff 2 _ rfl
        have f3 := hff 3 _ rfl
        have f4 := hff 4 _ rfl
        have f5 := hff 5 _ rfl
        have hci : Try.prog.cellsOf 3 = 1 := by kernel_rfl
        have hcs : Try.prog.cellsOf 26 = 1 := by kernel_rfl
        have hcb : Try.prog.cellsOf 4 = 1 := by kernel_rfl
        simp [hci, hcs, hcb] at f0 f1 f2 f3 f4 f5
        obtain ⟨n0, e0, _, _⟩ := DataW.trod_int Try.underlying3 f0
        obtain ⟨n1, e1, _, _⟩ := DataW.trod_int Try.underlying3 f1
        obtain ⟨n2, e2, _, _⟩ := DataW.trod_int Try.underlying3 f2
        obtain ⟨n3, e3, _, w3⟩ := DataW.trod_int Try.underlying3 f3
        obtain ⟨b5, e5, _⟩ := DataW.trod_bool Try.underlying4 f5
        have hsl : ∃ a l c, u4 = Value.slice a l c := by
          rcases open_ints Try.underlying26 Try.underlying3 (by kernel_rfl) f4 with ⟨hcs4, _⟩ | ⟨x, l, c, zs, hcs4, _⟩
          · exact ⟨_, _, _, by simpa using hcs4⟩
          · exact ⟨_, _, _, by simpa using hcs4⟩
        obtain ⟨a4, l4, c4, rfl⟩ := hsl
        obtain ⟨zs, hz1, _, hz3, _⟩ := open_nums (W := W) (v := .slice a4 l4 c4) (d := y4.1) (p := y4.2) ⟨_, _, _, rfl⟩ ⟨k, f4⟩
        simp only [List.cons.injEq, and_true] at e0 e1 e2 e3 e5
        have q0 := hc 0 (by omega)
        have q1 := hc 1 (by omega)
        have q2 := hc 2 (by omega)
        have q3 := hc 3 (by omega)
        have q4 := hc 4 (by omega)
        have q5 := hc 5 (by omega)
        rw [Go.Deep.add_add] at q0 q1 q2 q3 q4 q5
        refine ⟨⟨n0, n1, n2, n3, .slice a4 l4 c4, b5, zs⟩, ⟨?_, ?_, ?_, ?_, ?_, ?_⟩, hz1, ?_, fits_of_wf w3⟩
        · simpa [e0] using q0
        · simpa [e1] using q1
        · simpa [e2] using q2
        · simpa [e3] using q3
        · simpa using q4
        · simpa [e5] using q5
        · have hD : D i = .agg ([y0, y1, y2, y3, y4, y5].map (·.1)) := by
            simp only [Prod.mk.injEq] at hxy
            exact hxy.1
          have b1 : Rows.uptoBulk y4.1 ≤ Rows.uptoBulk (D i) := by
            rw [hD]
            have := bulk_mem (d := y4.1) (l := [y0, y1, y2, y3, y4, y5].map (·.1)) (by simp)
            simp only [Rows.uptoBulk]
            omega
          have b2 : Rows.uptoBulk (D i) ≤ Rows.uptoBulkAll ((List.range l0).map D) := bulk_mem (List.mem_map.2 ⟨i, by simpa using hi, rfl⟩)
          simp only [Rows.uptoBulk] at hb
          show zs.length ≤ 1500000
          omega
    have hin : Inhabited OpV := ⟨⟨0, 0, 0, 0, .slice none 0 0, false, []⟩⟩
    obtain ⟨q, hq⟩ := Go.Deep.choose_lt each
    refine ⟨(List.range l0).map q, ?_, ?_, ?_⟩
    · simp only [List.length_map, List.length_range]
      refine rd_of (by decide) (by rw [ocells_length]; simp) (fun j u hj => ?_)
      obtain ⟨k, hk, h'⟩ := ocells_inv _ j u hj
      have hk' : k < l0 := by simpa using hk
      obtain ⟨q0, q1, q2, q3, q4, q5⟩ := (hq k hk').1
      rcases h' with ⟨rfl, rfl⟩ | ⟨rfl, rfl⟩ | ⟨rfl, rfl⟩ | ⟨rfl, rfl⟩ | ⟨rfl, rfl⟩ | ⟨rfl, rfl⟩
      · simpa using q0
      · simpa using q1
      · simpa using q2
      · simpa using q3
      · simpa using q4
      · simpa using q5
    · intro o ho
      obtain ⟨i, hi, rfl⟩ := List.mem_map.1 ho
      exact (hq i (by simpa using hi)).2
    · have := bulk_slice (H := H) ((List.range l0).map D) ((List.range (m - l0)).map fun j => D (l0 + j))
      simp at this ⊢
      omega
end

end Go.Proofs.Ytbddcodljmglfaa
