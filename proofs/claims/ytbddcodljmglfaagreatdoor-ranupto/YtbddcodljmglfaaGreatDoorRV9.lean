/- The document's run of a text that is a program. -/
import Derived.Test.YtbddcodljmglfaaGreatDoorRV8
set_option linter.unusedSimpArgs false
set_option linter.unusedVariables false
namespace Go.Proofs.YtbddcodljmglfaaGreatDoor
open Go.RowKit

/-- The args of a program are the words of its first line. -/
theorem prog_args {s : BA} {A : List Ver} {bs : List BlockG} (h : progG s = .ok (A, bs)) : (cuts 10 s).length ≤ 120 ∧ ∃ x0, (cuts 10 s)[0]? = some x0 ∧ A = ((cuts 32 x0).drop 1).map (·, 0) := by
  unfold progG at h
  split at h
  · cases h
  · rename_i a bs' hr
    split at h
    · cases h
    · injection h with h
      injection h with h1 h2
      subst h1 h2
      unfold readG at hr
      split at hr
      · cases hr
      · rename_i hlen
        split at hr
        · cases hr
        · rename_i q hq
          split at hr
          · cases hr
          · injection hr with hr
            injection hr with h1 h2
            subst h1 h2
            refine ⟨by omega, ?_⟩
            have hne := cuts_ne 10 s
            generalize cuts 10 s = T at *
            cases T with
            | nil => exact absurd rfl hne
            | cons x r =>
              refine ⟨x, rfl, ?_⟩
              unfold runL at hq
              cases hst : stepL 0 20 0 x ⟨[], [], none⟩ with
              | none => rw [hst] at hq; cases hq
              | some p' =>
                rw [hst] at hq
                rw [run_args r 1 p' q (by omega) hq]
                rcases step_shape hst with ⟨-, -, h2⟩ | ⟨h0, -⟩ | ⟨h0, -⟩
                · obtain ⟨x0, bs, hc⟩ := cuts_cons x
                  rw [hc] at h2 ⊢
                  exact args_names h2
                · exact absurd rfl h0
                · exact absurd rfl h0

theorem drun_of (w : World) (s : BA) (A : List Ver) (bs : List BlockG) (hp : progG s = .ok (A, bs)) (F : Nat) (hF : F ≤ 2000) (argv : Value) (xs : List Int) (hx : RdS w 1 argv xs.length (ints xs)) (hx64 : ∀ x ∈ xs, fits64 x)
    (base tb : Nat) (bl : List Nat) (lv bv : Value) (vals : List Value) (hT : TextIn base w tb (cuts 10 s) bl lv bv vals) (hbi : bl = blkIdx 0 (cuts 10 s)) (hpl : ∀ x ∈ cuts 10 s, PlainIn x) :
    Calls Tryz.prog 41 #[.pointer (some ⟨tb, 0, none⟩), argv, .int .i64 (F : Int)] w fun e w' => e = .returned (resV (runG bs F (startG A xs) (linesAt bs 0) [])) ∧ Below w.heap.size w w' := by
  obtain ⟨hl, x0, h0, hA⟩ := prog_args hp
  obtain ⟨f1, f2, f3⟩ := prog_far hp
  obtain ⟨g1, g2, g3⟩ := prog_good hp
  obtain ⟨l1, l2⟩ := prog_lines hp
  rw [← hbi] at l1
  have hlen : bs.length = bl.length := by have := congrArg List.length l1; simpa using this
  have hfirst : ∀ b (h : b < bl.length), ∃ B, bs[b]? = some B ∧ B ∈ bs ∧ B.first = bl[b] + 1 := by
    intro b h
    have hb : b < bs.length := by omega
    refine ⟨bs[b], by simp [hb], List.getElem_mem hb, ?_⟩
    have := congrArg (·[b]?) l1
    simpa [hb, h] using this
  obtain ⟨gL, offL, cpL, v, rfl, -⟩ := hT.at (j := 0) (List.getElem?_eq_some_iff.1 h0).1
  obtain ⟨aoB, cpB, rfl, -, hB⟩ := hT.blocks.rdT.cell
  obtain ⟨gB, ofB, rfl, -⟩ := hB (by omega)
  refine drun_any w tb F base gL offL cpL gB ofB cpB (cuts 10 s) bl vals A bs argv xs x0 hT hF hx hx64 h0 (by omega) hA f1 hpl (by omega) (fun b hb => ?_) (by omega)
  obtain ⟨B, hBb, hBm, hBf⟩ := hfirst b hb
  have hls : linesAt bs b = B.lines := by simp [linesAt, hBb]
  obtain ⟨pre, last, he, hk, -⟩ := (g1 B hBm).lines
  rw [hls, ← hBf]
  refine ⟨?_, ⟨fun k l hkl => l2 B hBm k l hkl, ⟨pre, last, he, hk⟩, fun l hl k hkl => by rw [← hlen]; exact g3 B hBm l hl k hkl⟩⟩
  have h00 : ∃ l, B.lines[0]? = some l := by
    rw [he]
    cases pre with
    | nil => exact ⟨_, rfl⟩
    | cons a r => exact ⟨_, rfl⟩
  obtain ⟨l, hl0⟩ := h00
  obtain ⟨x, hx, -⟩ := l2 B hBm 0 l hl0
  have := (List.getElem?_eq_some_iff.1 hx).1
  omega

end Go.Proofs.YtbddcodljmglfaaGreatDoor
