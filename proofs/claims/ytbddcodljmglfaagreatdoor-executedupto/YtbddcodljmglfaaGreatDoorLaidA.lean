/- What the listed variables give to the walks; a start that lays them. And what follows on it. -/
import Derived.Test.YtbddcodljmglfaaGreatDoorEnv
import Derived.Test.YtbddcodljmglfaaGreatDoorTie
import Derived.Test.YtbddcodljmglfaaGreatDoorCards
import Derived.Deep.DeepHandedRow
import Derived.Lib.LaidTab
import Derived.Lay
import Derived.LaidSub
import Derived.LaidLaws
import Derived.MakeChecks
import Derived.Shelf.Vars
import Derived.ProofKit
import Derived.OpenShut
import Derived.ChangeMaps5
import Derived.SevenTiedAt
import Derived.Test.YtbddcodljmglfaaGreatDoorRunB
import Derived.Deep.SlicePairs
set_option linter.unusedSimpArgs false
set_option linter.unusedVariables false
namespace Go.Proofs.YtbddcodljmglfaaGreatDoor
open Go.ChangeShapes Go.WideShapes Go.ChangeAt Go.RowKit

theorem Tryz.own : ownKnob Tryz.prog.godebug = none := by kernel_rfl

/-- The seven variables that each row of the seat lists. -/
def seven : List (String × DataW Unit) := Rows.checkedUptoRow.laid

theorem sentinel_cell {W : World} {name : String} {d : DataW Unit} {g : Nat} {t : TypeId} {ms : Array (String × TypeId)} {nm : String} {x : DataW Unit} (hpl : ([(name, d)].all fun x => x.2.handleName?.isNone) = true) (hd : d = .iface nm x) (hg : Tryz.prog.globalNamed name = some g) (ht : (Tryz.prog.globals[g]?).map (·.type) = some t) (hi : Tryz.prog.underlying t = some (.interface ms))
    (h : laidMetH Tryz.prog [(name, d)] W) : ∃ te pe, W.cell? ⟨g, 0, none⟩ = some (.iface te pe) := by
  rw [MakeChecks.laidMetH_plain _ _ _ hpl] at h
  subst hd
  obtain ⟨ps, ⟨g', t', cs, fuel, p, q, hg', ht', hv, hd, _, _⟩, _, _⟩ := h
  obtain rfl := Option.some.inj (hg.symm.trans hg')
  obtain rfl := Option.some.inj (ht.symm.trans ht')
  obtain ⟨f', u, v, hcs, -, -⟩ := iface_of_trod hi hd
  refine ⟨u, v, ?_⟩
  rw [World.var?_cell hg hv 0]
  have : cs.toList[0]? = some (.iface u v) := by rw [hcs]; rfl
  simpa using this

theorem env_of {W : World} (hL : laidMetH Tryz.prog seven W) (hsh : W.ShapedOpen Tryz.prog) : Env 9 W := by
  have hmax : ∃ m, W.cell? ⟨1, 0, none⟩ = some (.int .i64 m) := cell_of_shapedOpen_int (t := 3) (zero := #[.int .i64 0]) hsh (of_decide_eq_true (by kernel_rfl)) (by kernel_rfl) rfl (by kernel_rfl) (by kernel_rfl) Tryz.underlying3
  have h1 : laidMetH Tryz.prog [("internal/strconv.uint64pow10", Lib.tabData .u64 Lib.pow10Tab)] W := by
    have := hL.filter (fun x => x.1 == "internal/strconv.uint64pow10")
    rw [show seven.filter (fun x => x.1 == "internal/strconv.uint64pow10") = [("internal/strconv.uint64pow10", Lib.tabData .u64 Lib.pow10Tab)] from by kernel_rfl] at this
    exact this
  have h2 : laidMetH Tryz.prog [("strconv.ErrSyntax", Rows.laid_strconv_ErrSyntax)] W := by
    have := hL.filter (fun x => x.1 == "strconv.ErrSyntax")
    rw [show seven.filter (fun x => x.1 == "strconv.ErrSyntax") = [("strconv.ErrSyntax", Rows.laid_strconv_ErrSyntax)] from by kernel_rfl] at this
    exact this
  have h3 : laidMetH Tryz.prog [("strconv.ErrRange", Rows.laid_strconv_ErrRange)] W := by
    have := hL.filter (fun x => x.1 == "strconv.ErrRange")
    rw [show seven.filter (fun x => x.1 == "strconv.ErrRange") = [("strconv.ErrRange", Rows.laid_strconv_ErrRange)] from by kernel_rfl] at this
    exact this
  have hsyn := sentinel_cell (by kernel_rfl) rfl (show Tryz.prog.globalNamed "strconv.ErrSyntax" = some 7 by kernel_rfl) (by kernel_rfl) Tryz.underlying179 h2
  have hran := sentinel_cell (by kernel_rfl) rfl (show Tryz.prog.globalNamed "strconv.ErrRange" = some 8 by kernel_rfl) (by kernel_rfl) Tryz.underlying179 h3
  refine ⟨Nat.le_refl _, ?_, hmax, hsyn, hran, ?_⟩
  · obtain ⟨te, pe, h⟩ := hran
    have hlt : 8 < W.heap.size := by
      rcases Nat.lt_or_ge 8 W.heap.size with h' | h'
      · exact h'
      · simp [World.cell?, Array.getElem?_eq_none h'] at h
    omega
  · exact Lib.tabIs_of_head (rest := []) (g := 2) (by kernel_rfl) (by kernel_rfl) Tryz.underlying260 Tryz.underlying232 (by kernel_rfl) (by kernel_rfl) (by rw [MakeChecks.laidMetH_plain _ _ _ (by kernel_rfl)] at h1; exact h1)

/-- A start that holds them. -/
noncomputable def sevenWorld (os : Os) : World := World.laidAll Tryz.prog os seven
theorem seven_met (os : Os) (args : Array Value) : laidMet Tryz.prog seven ((sevenWorld os).forCall (fun _ _ => 0) ⟨#[], args, []⟩).memory :=
  laidMet_laidAll _ (by kernel_rfl) (by kernel_rfl)
end Go.Proofs.YtbddcodljmglfaaGreatDoor

namespace Go.Proofs.YtbddcodljmglfaaGreatDoor
open Go.ChangeShapes Go.WideShapes Go.ChangeAt Go.RowKit

theorem Tryz.laidOut : laidOutB Tryz.prog = true := by kernel_rfl

theorem bulk_one {H : Type} (d : DataW H) : 1 ≤ Rows.uptoBulk d := by
  cases d with
  | lit l => cases l <;> simp [Rows.uptoBulk]
  | nil => simp [Rows.uptoBulk]
  | ptr d => simp [Rows.uptoBulk]
  | slice elems spare => simp [Rows.uptoBulk]
  | agg parts => simp [Rows.uptoBulk]
  | iface t d => simp [Rows.uptoBulk]
  | map entries => simp [Rows.uptoBulk]
  | held h => simp [Rows.uptoBulk]
theorem bulk_len {H : Type} (l : List (DataW H)) : l.length ≤ Rows.uptoBulkAll l := by
  induction l with
  | nil => simp [Rows.uptoBulkAll]
  | cons x r ih => have := bulk_one x; simp only [Rows.uptoBulkAll, List.length_cons]; omega
theorem bulk_slice {H : Type} (elems spare : List (DataW H)) : elems.length ≤ Rows.uptoBulk (.slice elems spare) := by
  have h1 := bulk_len elems
  simp only [Rows.uptoBulk]
  omega

theorem fits_of_wf {a : Int} (h : (Lit.int .i64 a).wf = true) : fits64 a := by
  simpa [fits64, Lit.wf, IntKind.min, IntKind.max, IntKind.signed, IntKind.bits] using h

theorem rd_of {w : World} {size : Nat} {a : Addr} {n cap : Nat} {xs : List Value} (hs : 0 < size) (hl : xs.length = n * size) (h : ∀ j u, xs[j]? = some u → w.cell? (a.add j) = some u) : RdS w size (.slice (some a) n cap) n xs := by
  refine ⟨hl, some a, cap, rfl, ?_⟩
  by_cases hn : n = 0
  · exact .inl hn
  · right
    have hpos : 0 < xs.length := by rw [hl]; exact Nat.mul_pos (by omega) hs
    have h0 := h 0 xs[0] (by simp [hpos])
    obtain ⟨b, off, spot⟩ := a
    have hspot : spot = none := by simpa [Addr.add] using World.cell?_spot h0
    subst hspot
    refine ⟨b, off, rfl, fun j u hj => ?_⟩
    have := h j u hj
    rwa [Addr.add_lit] at this

section
variable {H : Type} {enc : TypeId × Value → H} {W : World} {v : Value} {d : DataW H} {p : List MemPlace}

theorem open_nums (hv : ∃ a l c, v = .slice a l c) (h : DataW.Trod enc Tryz.prog W 0 (fun _ => true) true 24 v d p) :
    ∃ zs : List Int, RdS W 1 v zs.length (ints zs) ∧ (∀ z ∈ zs, fits64 z) ∧ zs.length ≤ Rows.uptoBulk d ∧ (zs = [] ∨ ∃ elems spare, d = .slice elems spare ∧ zs.length ≤ elems.length) := by
  obtain ⟨a0, l0, c0, rfl⟩ := hv
  obtain ⟨fuel, hf⟩ := h
  rcases open_ints Tryz.underlying24 Tryz.underlying2 (by kernel_rfl) hf with ⟨hcs, _⟩ | ⟨x, l, c, zs, hcs, _, hl, hm, hz, hx, hcell, hwz⟩
  · simp [Value.cells] at hcs
    obtain ⟨rfl, rfl, rfl⟩ := hcs
    exact ⟨[], ⟨rfl, none, 0, rfl, .inl rfl⟩, by simp, by simp, .inl rfl⟩
  · simp [Value.cells] at hcs
    obtain ⟨rfl, rfl, rfl⟩ := hcs
    simp only [Prod.mk.injEq] at hx
    obtain ⟨rfl, rfl⟩ := hx
    have hzl : l0 ≤ zs.length := by rw [hz]; simpa using hl
    have htl : (zs.take l0).length = l0 := by simp; omega
    refine ⟨zs.take l0, ?_, fun z hz' => fits_of_wf (hwz z (List.mem_of_mem_take hz')), ?_, .inr ⟨_, _, rfl, by simp [lits]⟩⟩
    · rw [htl]
      refine rd_of (by decide) (by simp [ints]; omega) (fun j u hj => ?_)
      simp only [ints, List.getElem?_map, Option.map_eq_some_iff] at hj
      obtain ⟨z, hz1, rfl⟩ := hj
      have hjl : j < l0 := by
        have := (List.getElem?_eq_some_iff.1 hz1).1
        rw [htl] at this
        exact this
      rw [List.getElem?_take_of_lt hjl] at hz1
      have := hcell j (by omega)
      rw [this]
      simp [List.getD, hz1]
    · have := bulk_slice (H := H) (lits .i64 (zs.take l0)) (lits .i64 (zs.drop l0))
      refine Nat.le_trans ?_ this
      simp [lits]
end

end Go.Proofs.YtbddcodljmglfaaGreatDoor
