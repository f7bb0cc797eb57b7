/- Proved: called with whatever number and lists, Walked returns true and leaves its arguments as they were. No condition. -/
import Derived.Test.YtbddcodljmglfaaArgs
import Derived.Test.YtbddcodljmglfaaWalkedWalk
import Derived.SizedLaws
set_option linter.unusedSimpArgs false
set_option linter.unusedVariables false
namespace Go.Proofs.Ytbddcodljmglfaa
open Go.ChangeShapes Go.WideShapes Go.ChangeAt Go.RowKit

theorem Try.bytesInt : Try.prog.bytesOf 3 = 8 := by kernel_rfl
theorem Try.bytesPair : Try.prog.bytesOf 42 = 16 := by kernel_rfl

set_option maxRecDepth 100000 in
theorem walked_lifted (os : Os) (started : os.Started) (H : Type) (enc : TypeId × Value → H) :
    ReturnsInHanded {} Try.checked os 5 .any (Rows.walkedSpec.pre6 enc Try.prog Try.f5 Rows.walkedRow.domain false) (Rows.walkedSpec.post enc Try.prog Try.f5 false true false false) := by
  refine returnsInHanded_of_change_sized (C := Try.checked) Try.own started (by kernel_rfl) Try.func5
    (ChangeSpec.witness6 (enc := enc) (C := Try.checked) false ⟨#[], #[.int .i64 0, .slice none 0 0, .slice none 0 0, .slice none 0 0], []⟩ 8 (by kernel_rfl) (by kernel_rfl) (by kernel_rfl) (by kernel_rfl)) ?_
  intro W base args ds gs before hval0 hW hcnd0 hsz0 _
  have hval : ∀ (j : Nat) t v, Try.f5.params[j]? = some t → args[j]? = some v → Value.okWide Try.prog W .any base t v := hval0
  have hsz : (DataW.weightsEach Try.prog (Try.f5.params.toList ++ Rows.walkedSpec.plain.varTypes Try.prog) (ds ++ gs)).all (· ≤ reachBytes) = true := hsz0
  have hW' := hW
  obtain ⟨p, q, hA0, hV, rfl, hfz, hnd⟩ := hW
  have hA : DataW.TrodAll enc Try.prog W 0 (fun _ => true) true Try.f5.params.toList args.toList ds p := hA0
  rw [Try.params5] at hA hval hsz
  obtain ⟨v0, vs0, d0, ds0, p0, q0, hargs, rfl, rfl, h0, r0⟩ := trodAll_cons hA
  obtain ⟨v1, vs1, d1, ds1, p1, q1, rfl, rfl, rfl, h1, r1⟩ := trodAll_cons r0
  obtain ⟨v2, vs2, d2, ds2, p2, q2, rfl, rfl, rfl, h2, r2⟩ := trodAll_cons r1
  obtain ⟨v3, vs3, d3, ds3, p3, q3, rfl, rfl, rfl, h3, r3⟩ := trodAll_cons r2
  obtain ⟨rfl, rfl, rfl⟩ := trodAll_nil r3
  obtain rfl : args = #[v0, v1, v2, v3] := by cases args; simp_all
  obtain ⟨rfl, rfl⟩ := trodVars_none hV
  obtain ⟨a0, rfl, rfl, rfl, w0⟩ := open_int Try.underlying3 (hval 0 3 v0 rfl rfl) h0
  have lt1 : ∀ x ∈ p1, x.block < W.heap.size := by obtain ⟨m, hm⟩ := h1; exact DataW.trod_lt m _ _ _ hm
  have lt2 : ∀ x ∈ p2, x.block < W.heap.size := by obtain ⟨m, hm⟩ := h2; exact DataW.trod_lt m _ _ _ hm
  have lt3 : ∀ x ∈ p3, x.block < W.heap.size := by obtain ⟨m, hm⟩ := h3; exact DataW.trod_lt m _ _ _ hm
  obtain ⟨xs, hrx, hfx, -, hdx⟩ := open_pairs (okWide_slice Try.underlying25 (hval 1 25 v1 rfl rfl)) h1
  obtain ⟨zs, hrz, hfz', -, hdz⟩ := open_nums (okWide_slice Try.underlying26 (hval 2 26 v2 rfl rfl)) h2
  obtain ⟨ss, hrs, hfs, -, hds⟩ := open_nums (okWide_slice Try.underlying26 (hval 3 26 v3 rfl rfl)) h3
  have bx : xs.length ≤ 17592186044000 := by
    rcases hdx with rfl | ⟨elems, spare, rfl, hl⟩
    · simp
    · have := sized_slice hsz (j := 1) (t := 25) (e := 42) rfl rfl Try.underlying25
      rw [Try.bytesPair] at this
      simp only [reachBytes] at this
      omega
  have bz : zs.length ≤ 17592186044000 := by
    rcases hdz with rfl | ⟨elems, spare, rfl, hl⟩
    · simp
    · have := sized_slice hsz (j := 2) (t := 26) (e := 3) rfl rfl Try.underlying26
      rw [Try.bytesInt] at this
      simp only [reachBytes] at this
      omega
  have bs : ss.length ≤ 17592186044000 := by
    rcases hds with rfl | ⟨elems, spare, rfl, hl⟩
    · simp
    · have := sized_slice hsz (j := 3) (t := 26) (e := 3) rfl rfl Try.underlying26
      rw [Try.bytesInt] at this
      simp only [reachBytes] at this
      omega
  clear hA0 hval0 hsz0 hsz
  refine (walked_walk W a0 (fits_of_wf w0) v1 v2 v3 xs zs ss hrx hrz hrs hfx hfz' hfs bx bz bs).mono fun e W' hh => ?_
  obtain ⟨he, bel⟩ := hh
  subst he
  exact ⟨_, rfl, _, _, _, [], _, [], hW', trodAll_mk1 (shut_bool Try.underlying4 _),
    (trodAll_cons_mk (shut_int Try.underlying3 w0) (trodAll_cons_mk (Below.trod Try.laidOut (by kernel_rfl) (of_decide_eq_true (by kernel_rfl)) h1 bel lt1) (trodAll_cons_mk (Below.trod Try.laidOut (by kernel_rfl) (of_decide_eq_true (by kernel_rfl)) h2 bel lt2) (trodAll_cons_mk (Below.trod Try.laidOut (by kernel_rfl) (of_decide_eq_true (by kernel_rfl)) h3 bel lt3) trodAll_mk0)))), rfl, bel.frame _, fun h => by cases h⟩

theorem walked_over : Rows.walkedRow.holds Try.pinned (OpenSpec.ofChange Rows.walkedSpec) :=
  OpenClaim.holds_of_wide 5 Try.f5 rfl rfl rfl rfl rfl rfl rfl ⟨rfl, rfl, rfl, rfl, rfl⟩ rfl rfl rfl rfl rfl (by kernel_rfl) Try.func5 (by kernel_rfl)
    (of_decide_eq_true (by kernel_rfl)) (by unfold Func.isWrapper; first | (rw [if_pos (by decide +kernel)]; kernel_rfl) | (rw [if_neg (by decide +kernel)]; exact ⟨rfl, rfl⟩))
    (fun os started H enc _ => walked_lifted os started H enc)

theorem walked_holds : Rows.WalkedSaid := walked_over

#print axioms walked_holds
end Go.Proofs.Ytbddcodljmglfaa
