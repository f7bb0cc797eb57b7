/- What the listed variables give to the walks; a start that lays them. -/
import Derived.Test.YtbddcodljmglfaaGreatDoorEnv
import Derived.Test.YtbddcodljmglfaaGreatDoorTie
import Derived.Test.YtbddcodljmglfaaGreatDoorCards
import Derived.Deep.DeepHandedRow
import Derived.Lib.LaidTab
import Derived.Lay
import Derived.LaidSub
import Derived.LaidLaws
import Derived.MakeChecks
import Derived.Shelf.Vars
import Derived.ProofKit
import Derived.OpenShut
import Derived.ChangeMaps5
import Derived.SevenTiedAt
set_option linter.unusedSimpArgs false
set_option linter.unusedVariables false
namespace Go.Proofs.YtbddcodljmglfaaGreatDoor
open Go.ChangeShapes Go.WideShapes Go.ChangeAt Go.RowKit

theorem Tryz.own : ownKnob Tryz.prog.godebug = none := by kernel_rfl

/-- The seven variables that each row of the seat lists. -/
def seven : List (String × DataW Unit) := Rows.checkedUptoRow.laid

theorem sentinel_cell {W : World} {name : String} {d : DataW Unit} {g : Nat} {t : TypeId} {ms : Array (String × TypeId)} {nm : String} {x : DataW Unit} (hpl : ([(name, d)].all fun x => x.2.handleName?.isNone) = true) (hd : d = .iface nm x) (hg : Tryz.prog.globalNamed name = some g) (ht : (Tryz.prog.globals[g]?).map (·.type) = some t) (hi : Tryz.prog.underlying t = some (.interface ms))
    (h : laidMetH Tryz.prog [(name, d)] W) : ∃ te pe, W.cell? ⟨g, 0, none⟩ = some (.iface te pe) := by
  rw [MakeChecks.laidMetH_plain _ _ _ hpl] at h
  subst hd
  obtain ⟨ps, ⟨g', t', cs, fuel, p, q, hg', ht', hv, hd, _, _⟩, _, _⟩ := h
  obtain rfl := Option.some.inj (hg.symm.trans hg')
  obtain rfl := Option.some.inj (ht.symm.trans ht')
  obtain ⟨f', u, v, hcs, -, -⟩ := iface_of_trod hi hd
  refine ⟨u, v, ?_⟩
  rw [World.var?_cell hg hv 0]
  have : cs.toList[0]? = some (.iface u v) := by rw [hcs]; rfl
  simpa using this

theorem env_of {W : World} (hL : laidMetH Tryz.prog seven W) (hsh : W.ShapedOpen Tryz.prog) : Env 9 W := by
  have hmax : ∃ m, W.cell? ⟨1, 0, none⟩ = some (.int .i64 m) := cell_of_shapedOpen_int (t := 3) (zero := #[.int .i64 0]) hsh (of_decide_eq_true (by kernel_rfl)) (by kernel_rfl) rfl (by kernel_rfl) (by kernel_rfl) Tryz.underlying3
  have h1 : laidMetH Tryz.prog [("internal/strconv.uint64pow10", Lib.tabData .u64 Lib.pow10Tab)] W := by
    have := hL.filter (fun x => x.1 == "internal/strconv.uint64pow10")
    rw [show seven.filter (fun x => x.1 == "internal/strconv.uint64pow10") = [("internal/strconv.uint64pow10", Lib.tabData .u64 Lib.pow10Tab)] from by kernel_rfl] at this
    exact this
  have h2 : laidMetH Tryz.prog [("strconv.ErrSyntax", Rows.laid_strconv_ErrSyntax)] W := by
    have := hL.filter (fun x => x.1 == "strconv.ErrSyntax")
    rw [show seven.filter (fun x => x.1 == "strconv.ErrSyntax") = [("strconv.ErrSyntax", Rows.laid_strconv_ErrSyntax)] from by kernel_rfl] at this
    exact this
  have h3 : laidMetH Tryz.prog [("strconv.ErrRange", Rows.laid_strconv_ErrRange)] W := by
    have := hL.filter (fun x => x.1 == "strconv.ErrRange")
    rw [show seven.filter (fun x => x.1 == "strconv.ErrRange") = [("strconv.ErrRange", Rows.laid_strconv_ErrRange)] from by kernel_rfl] at this
    exact this
  have hsyn := sentinel_cell (by kernel_rfl) rfl (show Tryz.prog.globalNamed "strconv.ErrSyntax" = some 7 by kernel_rfl) (by kernel_rfl) Tryz.underlying179 h2
  have hran := sentinel_cell (by kernel_rfl) rfl (show Tryz.prog.globalNamed "strconv.ErrRange" = some 8 by kernel_rfl) (by kernel_rfl) Tryz.underlying179 h3
  refine ⟨Nat.le_refl _, ?_, hmax, hsyn, hran, ?_⟩
  · obtain ⟨te, pe, h⟩ := hran
    have hlt : 8 < W.heap.size := by
      rcases Nat.lt_or_ge 8 W.heap.size with h' | h'
      · exact h'
      · simp [World.cell?, Array.getElem?_eq_none h'] at h
    omega
  · exact Lib.tabIs_of_head (rest := []) (g := 2) (by kernel_rfl) (by kernel_rfl) Tryz.underlying260 Tryz.underlying232 (by kernel_rfl) (by kernel_rfl) (by rw [MakeChecks.laidMetH_plain _ _ _ (by kernel_rfl)] at h1; exact h1)

/-- A start that holds them. -/
noncomputable def sevenWorld (os : Os) : World := World.laidAll Tryz.prog os seven
theorem seven_met (os : Os) (args : Array Value) : laidMet Tryz.prog seven ((sevenWorld os).forCall (fun _ _ => 0) ⟨#[], args, []⟩).memory :=
  laidMet_laidAll _ (by kernel_rfl) (by kernel_rfl)
theorem seven_shaped (os : Os) : ((sevenWorld os).forCall (fun _ _ => 0) ⟨#[], #[], []⟩).Shaped Tryz.prog :=
  World.shaped_of_ZipB (by kernel_rfl) (by kernel_rfl)

end Go.Proofs.YtbddcodljmglfaaGreatDoor
