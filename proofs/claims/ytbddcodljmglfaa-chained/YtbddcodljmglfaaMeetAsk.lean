/- Meets of package ridge. -/
import Derived.Test.YtbddcodljmglfaaMeetFn
set_option linter.unusedSimpArgs false
set_option linter.unusedVariables false
namespace Go.Proofs.Ytbddcodljmglfaa
open Go.RowKit

theorem gMeets_no (w : World) (p m q n : Nat) (L : List (Nat × Nat)) (D : List Bool) (hg : GraphIn w p m q n L D) (v : Value) (zs : List Int) (hv : RdS w 1 v zs.length (zs.map (Value.int .i64))) (hzl : zs.length ≤ 1152921504606846976) (h : zs.all (isNode n) = false) :
    Calls Try.prog 33 #[.pointer (some ⟨p, 0, none⟩), v] w fun e w' => e = .returned (.tuple #[.slice none 0 0, .int .i64 2]) ∧ w' = w := by
  have hcall := has_any w p n v zs hg.c0 hv hzl
  rw [h] at hcall
  have HC : Hid (Calls Try.prog 30 _ w _) := hcall
  obtain ⟨-, ao, cap, rfl, -⟩ := hv
  clear h hg hcall
  go_enter Try.func33, Try.ntmps33
  go_wp2_with fail
  refine HC.out.mono ?_
  rintro e w' ⟨rfl, h9⟩
  replace h9 := h9.symm
  subst h9
  go_wp2_with fail
  go_ret2
  exact ⟨rfl, rfl⟩

/-- The list of where the ways from F meet, by rising numbers. -/
def MeetList (w : World) (base : Nat) (L : List (Nat × Nat)) (n : Nat) (F : List Nat) (v : Value) : Prop :=
  ∃ sn : List Bool, OwnS w base 3 1 v (idxTo sn n).length (nums (idxTo sn n)) ∧ (∀ y, sn.getD y false = true ↔ Met L F y)

set_option maxHeartbeats 1000000 in
theorem gMeets_any (w : World) (p m q n : Nat) (L : List (Nat × Nat)) (D : List Bool) (hg : GraphIn w p m q n L D) (v : Value) (F : List Nat) (hv : RdS w 1 v F.length (nums F)) (hF : ∀ a ∈ F, a < n) (hFl : F.length ≤ 1152921504606846976) :
    Calls Try.prog 33 #[.pointer (some ⟨p, 0, none⟩), v] w fun e w' => ∃ v' : Value, e = .returned (.tuple #[v', .int .i64 0]) ∧ MeetList w' w.heap.size L n F v' ∧ Below w.heap.size w w' := by
  have hall : (F.map (fun a : Nat => (a : Int))).all (isNode n) = true := by
    simp only [List.all_eq_true, List.mem_map]
    rintro x ⟨a, ha, rfl⟩
    exact isNode_nat (hF a ha)
  have hcall := has_any w p n v (F.map (fun a : Nat => (a : Int))) hg.c0 (by simpa [nums, List.map_map, Function.comp_def] using hv) (by simpa using hFl)
  rw [hall] at hcall
  have HC : Hid (Calls Try.prog 30 _ w _) := hcall
  have hcall2 := meets_any w p m q n L D hg v F hv hF hFl
  have HC2 : Hid (Calls Try.prog 63 _ w _) := hcall2
  obtain ⟨-, ao, cap, rfl, -⟩ := hv
  clear hg hcall hcall2 hall hF
  go_enter Try.func33, Try.ntmps33
  go_wp2_with fail
  refine HC.out.mono ?_
  rintro e w' ⟨rfl, h9⟩
  replace h9 := h9.symm
  subst h9
  go_wp2_with fail
  refine HC2.out.mono ?_
  rintro e w2 ⟨v', sn, rfl, hown, hsn, hb⟩
  have hfin : Hid (∃ v'' : Value, Ending.returned (.tuple #[v', .int .i64 0]) = .returned (.tuple #[v'', .int .i64 0]) ∧ MeetList w2 w.heap.size L n F v'' ∧ Below w.heap.size w w2) := ⟨v', rfl, ⟨sn, hown, hsn⟩, hb⟩
  clear hown hsn
  go_wp2_with fail
  go_ret2
  exact hfin.out

end Go.Proofs.Ytbddcodljmglfaa
