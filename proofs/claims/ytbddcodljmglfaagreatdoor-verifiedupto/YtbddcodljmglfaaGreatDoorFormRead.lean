/- programs.ReadForm. -/
import Derived.Test.YtbddcodljmglfaaGreatDoorGoForms
import Derived.Test.YtbddcodljmglfaaGreatDoorKRead
set_option linter.unusedSimpArgs false
set_option linter.unusedVariables false
namespace Go.Proofs.YtbddcodljmglfaaGreatDoor
open Go.RowKit

set_option maxRecDepth 100000 in
set_option maxHeartbeats 4000000 in
theorem readForm_any (w : World) (base0 : Nat) (s : BA) (hs : s.size ≤ 4294967280) (hE : Env base0 w) :
    Calls Tryz.prog 67 #[.string s] w fun e w' => ReadOut w w' (readG 1 40 1000 s) e := by
  have HK : Hid (∀ W, Below w.heap.size w W → Calls Tryz.prog 42 #[.agg #[.int .i64 1000, .int .i64 40, .int .i64 1], .string s] W fun e w' => ReadOut W w' (readG 1 40 1000 s) e) := fun W hb => kread_any W base0 1000 40 1 goesOn_forms (.inr rfl) s hs (by omega) (by omega) (hE.below hb)
  clear hE
  go_enter Tryz.func67, Tryz.ntmps67
  go_wp2_with fail
  refine (HK.out _ ((Below.refl _ _).alloc (Nat.le_refl _) _)).mono ?_
  rintro e w1 ⟨hok, her, hb1⟩
  have HB1 : Hid (Below w.heap.size w w1) := ((Below.refl _ _).alloc (Nat.le_refl _) _).trans (hb1.mono (by simp))
  have HX1 : Hid (BoxIn w1 w.heap.size 52 zProg) := (BoxIn.new w 52 zProg).below hb1
  clear hb1 HK
  cases hr : readG 1 40 1000 s with
  | ok r =>
    obtain ⟨A, bs⟩ := r
    obtain ⟨av, bv, B, rfl, hP, hB, hi⟩ := hok A bs hr
    have HP : Hid (ProgIn w1 av bv A B) := hP
    have HI : Hid (IsProg (.agg #[av, bv])) := hi
    obtain ⟨x2, y2, a2, b2, c2, d2, hvv⟩ := hi
    obtain ⟨rfl, rfl⟩ := prog_inj hvv
    clear hok her hP hvv
    go_wp2_with (first
      | (refine wpList_store_box aggProg rfl _ _ rfl _ rfl _ [.slice x2 a2 b2, .slice y2 c2 d2] rfl HX1.out rfl rfl one_prog ?_; intro w8 hb8 hg8 hs8))
    refine bodyPost_ret (results_box3 aggProg Tryz.results67 rfl rfl rfl rfl hb8) rfl ?_
    refine ⟨fun a b h => ?_, fun c i h => (by rw [hr] at h; cases h), HB1.out.trans (hg8.below HB1.out.size (fun q hq => by omega))⟩
    rw [hr] at h
    injection h with h
    injection h with h1 h2
    subst h1 h2
    exact ⟨_, _, B, rfl, HP.out.grew HX1.out hg8, hB, HI.out⟩
  | error ci =>
    obtain ⟨c, i⟩ := ci
    obtain ⟨v, rfl, hi⟩ := her c i hr
    have HI : Hid (IsProg v) := hi
    obtain ⟨x2, y2, a2, b2, c2, d2, rfl⟩ := hi
    clear hok her
    go_wp2_with (first
      | (refine wpList_store_box aggProg rfl _ _ rfl _ rfl _ [.slice x2 a2 b2, .slice y2 c2 d2] rfl HX1.out rfl rfl one_prog ?_; intro w8 hb8 hg8 hs8))
    refine bodyPost_ret (results_box3 aggProg Tryz.results67 rfl rfl rfl rfl hb8) rfl ?_
    refine ⟨fun a b h => (by rw [hr] at h; cases h), fun c' i' h => ?_, HB1.out.trans (hg8.below HB1.out.size (fun q hq => by omega))⟩
    rw [hr] at h
    injection h with h
    injection h with h1 h2
    subst h1 h2
    exact ⟨_, rfl, HI.out⟩

end Go.Proofs.YtbddcodljmglfaaGreatDoor
