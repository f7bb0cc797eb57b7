/- ridgelaw.check and Checked, once ridgeref.Read is known to tell docG. And what follows on it. -/
import Derived.Test.YtbddcodljmglfaaGreatDoorPRead
import Derived.Test.YtbddcodljmglfaaGreatDoorBridgeA
import Derived.Test.YtbddcodljmglfaaGreatDoorDocD
set_option linter.unusedSimpArgs false
set_option linter.unusedVariables false
namespace Go.Proofs.YtbddcodljmglfaaGreatDoor
open Go.RowKit

/-- What the document's Read does. -/
def ReadsDoc : Prop := ∀ (w : World) (s : BA), s.size ≤ 4294967280 → Calls Tryz.prog 23 #[.string s] w fun e w' => (∃ pt, e = .returned (.tuple #[.pointer pt, .int .i64 ((docG s).1 : Int), .int .i64 ((docG s).2 : Int)])) ∧ Below w.heap.size w w'

theorem code_doc (s : BA) : codeOf s = docG s := by rw [doc_eq]; unfold codeOf; rfl

theorem num_any (w : World) (n : Nat) : Calls Tryz.prog 24 #[.int .i64 (n : Int)] w fun e w' => e = .returned (.int .i64 (n : Int)) ∧ w' = w := by
  go_enter Tryz.func24, Tryz.ntmps24
  go_wp2
  go_ret
  exact ⟨rfl, rfl⟩

set_option maxRecDepth 100000 in
set_option maxHeartbeats 4000000 in
theorem lcheck_any (hR : ReadsDoc) (w : World) (base0 : Nat) (s : BA) (hs : s.size ≤ 4294967280) (hE : Env base0 w) :
    Calls Tryz.prog 10 #[.string s] w fun e w' => e = .returned (.bool true) ∧ Below w.heap.size w w' := by
  have HC : Hid (Calls Tryz.prog 19 #[.string s] w fun e w' => e = .returned (.tuple #[.int .i64 ((docG s).1 : Int), .int .i64 ((docG s).2 : Int)]) ∧ Below w.heap.size w w') := by
    have := check_any w base0 s hs hE
    rw [code_doc] at this
    exact this
  have HR : Hid (∀ W, Calls Tryz.prog 23 #[.string s] W fun e w' => (∃ pt, e = .returned (.tuple #[.pointer pt, .int .i64 ((docG s).1 : Int), .int .i64 ((docG s).2 : Int)])) ∧ Below W.heap.size W w') := fun W => hR W s hs
  have HNM : Hid (∀ W (n : Nat), Calls Tryz.prog 24 #[.int .i64 (n : Int)] W fun e w' => e = .returned (.int .i64 (n : Int)) ∧ w' = W) := fun W n => num_any W n
  clear hR hE
  generalize docG s = q at *
  obtain ⟨q1, q2⟩ := q
  go_enter Tryz.func10, Tryz.ntmps10
  go_wp2_with (first
    | (go_at_call 19; refine HC.out.mono ?_; rintro e w1 ⟨rfl, hb1⟩; have HB1 : Hid (Below w.heap.size w w1) := hb1; clear hb1)
    | (go_at_call 23; refine (HR.out _).mono ?_; rintro e w2 ⟨⟨pt, rfl⟩, hb2⟩; have HB2 : Hid (Below w.heap.size w w2) := HB1.out.trans (hb2.mono HB1.out.size); clear hb2)
    | (go_at_call 24; refine (HNM.out _ _).mono ?_; rintro e w3 ⟨rfl, hw3⟩; rw [hw3]; clear hw3))
  go_ret
  exact ⟨rfl, HB2.out⟩

set_option maxRecDepth 100000 in
set_option maxHeartbeats 4000000 in
theorem checked_any (hR : ReadsDoc) (w : World) (base0 : Nat) (s t : BA) (hs : s.size ≤ 4294967280) (ht : t.size ≤ 4294967280) (hE : Env base0 w) :
    Calls Tryz.prog 3 #[.string s, .string t] w fun e w' => e = .returned (.bool true) ∧ Below w.heap.size w w' := by
  have HC : Hid (∀ W x, Below w.heap.size w W → x.size ≤ 4294967280 → Calls Tryz.prog 10 #[.string x] W fun e w' => e = .returned (.bool true) ∧ Below w.heap.size w w') := fun W x hb hx => (lcheck_any hR W base0 x hx (hE.below hb)).mono (by rintro e w' ⟨h1, h2⟩; exact ⟨h1, hb.trans (h2.mono hb.size)⟩)
  clear hR hE
  have HB0 : Hid (Below w.heap.size w w) := Below.refl _ _
  go_enter Tryz.func3, Tryz.ntmps3
  go_wp2_with (first
    | (go_at_call 10; refine (HC.out _ _ HB0.out (by first | exact hs | exact ht | decide)).mono ?_; rintro e w1 ⟨rfl, hb1⟩; clear HB0; have HB0 : Hid (Below w.heap.size w w1) := hb1; clear hb1))
  go_ret
  exact ⟨rfl, HB0.out⟩

end Go.Proofs.YtbddcodljmglfaaGreatDoor

namespace Go.Proofs.YtbddcodljmglfaaGreatDoor
open Go.RowKit

/-- What the document's Verified hands back, in short. -/
def VerShort (q1 q2 : Nat) (e : Ending) : Prop := ∃ pt, e = .returned (.tuple #[.pointer pt, .int .i64 (q1 : Int), .int .i64 (q2 : Int)])
theorem ver_short {s : BA} {e : Ending} {w' : World} (h : VerOut s e w') : VerShort (codeF s).1 (codeF s).2 e := by
  unfold codeF
  cases hf : formG s with
  | error ci =>
    obtain ⟨c, i⟩ := ci
    exact ⟨none, h.1 c i hf⟩
  | ok r =>
    obtain ⟨A, bs⟩ := r
    obtain ⟨tb, lv, bv, rfl, -⟩ := h.2 A bs hf
    exact ⟨_, rfl⟩

set_option maxRecDepth 100000 in
set_option maxHeartbeats 4000000 in
theorem lverify_any (w : World) (base0 : Nat) (s : BA) (hs : s.size ≤ 4294967280) (hE : Env base0 w) :
    Calls Tryz.prog 16 #[.string s] w fun e w' => e = .returned (.bool true) ∧ Below w.heap.size w w' := by
  have HC : Hid (Calls Tryz.prog 21 #[.string s] w fun e w' => e = .returned (.tuple #[.int .i64 ((codeF s).1 : Int), .int .i64 ((codeF s).2 : Int)]) ∧ Below w.heap.size w w') := verify_any w base0 s hs hE
  have HR : Hid (∀ W, Calls Tryz.prog 31 #[.string s] W fun e w' => VerShort (codeF s).1 (codeF s).2 e ∧ Below W.heap.size W w') := fun W => (verified_any W s hs).mono (by rintro e w' ⟨h1, h2⟩; exact ⟨ver_short h1, h2⟩)
  have HNM : Hid (∀ W (n : Nat), Calls Tryz.prog 24 #[.int .i64 (n : Int)] W fun e w' => e = .returned (.int .i64 (n : Int)) ∧ w' = W) := fun W n => num_any W n
  clear hE
  generalize codeF s = q at *
  obtain ⟨q1, q2⟩ := q
  go_enter Tryz.func16, Tryz.ntmps16
  go_wp2_with (first
    | (go_at_call 21; refine Calls.mono HC.out ?_; rintro e w1 ⟨rfl, hb1⟩; have HB1 : Hid (Below w.heap.size w w1) := hb1; clear hb1)
    | (go_at_call 31; refine Calls.mono (HR.out _) ?_; rintro e w2 ⟨⟨pt, rfl⟩, hb2⟩; have HB2 : Hid (Below w.heap.size w w2) := HB1.out.trans (hb2.mono HB1.out.size); clear hb2)
    | (go_at_call 24; refine Calls.mono (HNM.out _ _) ?_; rintro e w3 ⟨rfl, hw3⟩; rw [hw3]; clear hw3))
  go_ret
  exact ⟨rfl, HB2.out⟩

set_option maxRecDepth 100000 in
set_option maxHeartbeats 4000000 in
theorem lverified_any (w : World) (base0 : Nat) (s t : BA) (hs : s.size ≤ 4294967280) (ht : t.size ≤ 4294967280) (hE : Env base0 w) :
    Calls Tryz.prog 6 #[.string s, .string t] w fun e w' => e = .returned (.bool true) ∧ Below w.heap.size w w' := by
  have HC : Hid (∀ W x, Below w.heap.size w W → x.size ≤ 4294967280 → Calls Tryz.prog 16 #[.string x] W fun e w' => e = .returned (.bool true) ∧ Below w.heap.size w w') := fun W x hb hx => (lverify_any W base0 x hx (hE.below hb)).mono (by rintro e w' ⟨h1, h2⟩; exact ⟨h1, hb.trans (h2.mono hb.size)⟩)
  clear hE
  have HB0 : Hid (Below w.heap.size w w) := Below.refl _ _
  go_enter Tryz.func6, Tryz.ntmps6
  go_wp2_with (first
    | (go_at_call 16; refine (HC.out _ _ HB0.out (by first | exact hs | exact ht | decide)).mono ?_; rintro e w1 ⟨rfl, hb1⟩; clear HB0; have HB0 : Hid (Below w.heap.size w w1) := hb1; clear hb1))
  go_ret
  exact ⟨rfl, HB0.out⟩

end Go.Proofs.YtbddcodljmglfaaGreatDoor
