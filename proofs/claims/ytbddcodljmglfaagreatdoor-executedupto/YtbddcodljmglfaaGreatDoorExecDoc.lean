/- The document's Exec, whole. -/
import Derived.Test.YtbddcodljmglfaaGreatDoorEX9
import Derived.Test.YtbddcodljmglfaaGreatDoorEX9b
import Derived.Test.YtbddcodljmglfaaGreatDoorExecC
import Derived.Test.YtbddcodljmglfaaGreatDoorLawA
set_option linter.unusedSimpArgs false
set_option linter.unusedVariables false
namespace Go.Proofs.YtbddcodljmglfaaGreatDoor
open Go.RowKit

theorem drunF_of (w : World) (s : BA) (A : List Ver) (bs : List BlockG) (hp : formG s = .ok (A, bs)) (F : Nat) (hF : F ≤ 2000) (argv : Value) (xs : List Int) (hx : RdS w 1 argv xs.length (ints xs)) (hx64 : ∀ x ∈ xs, fits64 x)
    (tb : Nat) (lv bv : Value) (hT : TextO w tb (cuts 10 s) lv bv) :
    Calls Tryz.prog 41 #[.pointer (some ⟨tb, 0, none⟩), argv, .int .i64 (F : Int)] w fun e w' => e = .returned (resV (runF bs F (startG A xs) 0 (linesAt bs 0) [])) ∧ Below w.heap.size w w' := by
  obtain ⟨hFT, hok, ⟨hA4, hAok, x0, hx0, hAx⟩, hbl, hph0, ⟨hU, hAU⟩, hnp⟩ := form_run hp
  obtain ⟨e1, e2⟩ := start_ren hAok xs
  have hrun : runF (bs.map renB) F (startG (A.map rho) xs) 0 (linesAt (bs.map renB) 0) [] = runF bs F (startG A xs) 0 (linesAt bs 0) [] := by
    rw [e1, linesAt_ren]
    exact run_ren hok F _ 0 _ [] e2 (fun l hl => hl)
  rw [← hrun]
  obtain ⟨⟨base, vals, hTF⟩, hpl⟩ := hT
  have hn1 := hFT.n1
  have hn40 := hFT.n40
  have hbll := hFT.bl
  obtain ⟨gL, offL, cpL, v, rfl, -⟩ := hTF.at (j := 0) (List.getElem?_eq_some_iff.1 hx0).1
  obtain ⟨aoB, cpB, rfl, -, hB⟩ := hTF.blocks.rdT.cell
  obtain ⟨gB, ofB, rfl, -⟩ := hB (by omega)
  by_cases hside : (cuts 32 x0).length ≤ xs.length + 1
  · exact drunF_A w tb F base gL offL cpL gB ofB cpB (cuts 10 s) (blkIdx 0 (cuts 10 s)) vals (A.map rho) bs _ argv xs x0 hTF rfl hF hx hx64 hx0 hFT.len hAx (by simpa using hA4) hpl hFT (by omega) hbl (by omega) hph0 hU hAU hnp hside
  · exact drunF_B w tb F base gL offL cpL gB ofB cpB (cuts 10 s) (blkIdx 0 (cuts 10 s)) vals (A.map rho) bs _ argv xs x0 hTF rfl hF hx hx64 hx0 hFT.len hAx (by simpa using hA4) hpl hFT (by omega) hbl (by omega) hph0 hU hAU hnp (by omega)

theorem execsDoc : ExecsDoc := by
  intro w s hs argv xs hx hx64 fuel
  unfold resF
  cases hp : formG s with
  | error e => exact dExec_err w s hs e.1 e.2 (form_err hp) hp argv fuel
  | ok r =>
    obtain ⟨A, bs⟩ := r
    simp only
    by_cases hf : fuel < 0 ∨ 2000 < fuel
    · simp only [hf, if_true]
      exact dExec_conf w s hs _ hp argv fuel hf
    · simp only [hf, if_false]
      obtain ⟨F, rfl⟩ : ∃ F : Nat, fuel = F := ⟨fuel.toNat, by omega⟩
      rw [Int.toNat_natCast]
      exact dExec_ok w s hs _ hp argv F (by omega) _ (fun W tb lv bv hb hT => drunF_of W s A bs hp F (by omega) argv xs (hx.below hb) hx64 tb lv bv hT)

end Go.Proofs.YtbddcodljmglfaaGreatDoor
