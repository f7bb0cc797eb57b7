/- The document's Read, whole; and so Checked's walk. -/
import Derived.Test.YtbddcodljmglfaaGreatDoorRT14
import Derived.Test.YtbddcodljmglfaaGreatDoorCheckedWalk
set_option linter.unusedSimpArgs false
set_option linter.unusedVariables false
namespace Go.Proofs.YtbddcodljmglfaaGreatDoor
open Go.RowKit

theorem rRead_any (w : World) (s : BA) (hs : s.size ≤ 4294967280) : Calls Tryz.prog 23 #[.string s] w fun e w' => ROut w.heap.size s e w' ∧ Below w.heap.size w w' := by
  by_cases hl : 120 < (cuts 10 s).length
  · refine rRead_err w s 6 0 (by decide) (by decide) ?_ (rread_long w s hs hl)
    unfold docG
    rw [if_pos hl]
  · have hl' : (cuts 10 s).length ≤ 120 := by omega
    cases hd : docL 0 0 ByteArray.empty (cuts 10 s) with
    | error i =>
      refine rRead_err w s 7 i (by decide) (by decide) ?_ ((rread_any w s hs hl').mono fun e w' h => ⟨h.1.1 i hd, h.2⟩)
      unfold docG
      rw [if_neg hl, hd]
    | ok nb =>
      cases hlo : docLost nb 0 (cuts 10 s) with
      | some i =>
        refine rRead_err w s 8 i (by decide) (by decide) ?_ ((rread_any w s hs hl').mono fun e w' h => ⟨(h.1.2 nb hd).1 i hlo, h.2⟩)
        unfold docG
        rw [if_neg hl, hd]
        simp only [hlo]
      | none => exact rRead_text w s nb hs hl' hd hlo

theorem readsDoc : ReadsDoc := fun w s hs => (rRead_any w s hs).mono fun e w' h => by
  obtain ⟨⟨pt, h1, -⟩, h2⟩ := h
  exact ⟨⟨pt, h1⟩, h2⟩

theorem checked_all (w : World) (base0 : Nat) (s t : BA) (hs : s.size ≤ 4294967280) (ht : t.size ≤ 4294967280) (hE : Env base0 w) :
    Calls Tryz.prog 3 #[.string s, .string t] w fun e w' => e = .returned (.bool true) ∧ Below w.heap.size w w' := checked_any readsDoc w base0 s t hs ht hE

end Go.Proofs.YtbddcodljmglfaaGreatDoor
