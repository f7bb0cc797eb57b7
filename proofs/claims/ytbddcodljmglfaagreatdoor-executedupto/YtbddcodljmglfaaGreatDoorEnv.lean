/- What the call finds in Go's own variables; the library's functions by their contracts. -/
import Derived.Test.YtbddcodljmglfaaGreatDoorShelf
import Derived.Test.YtbddcodljmglfaaGreatDoorMathA
import Derived.Test.YtbddcodljmglfaaGreatDoorMemA
import Derived.WalkSmall
import Derived.WalkMore
import Derived.Handy
import Derived.Lib.AppendIntMem
import Derived.Lib.AtoiErrMem
import Derived.Lib.ParseIntBTie
set_option linter.unusedSimpArgs false
set_option linter.unusedVariables false
namespace Go.Proofs.YtbddcodljmglfaaGreatDoor
open Go.RowKit

/-- The library's variables, below 'base': what the calls read of them. -/
structure Env (base : Nat) (w : World) : Prop where
  le : 9 ≤ base
  size : base ≤ w.heap.size
  mlen : ∃ m : Int, w.cell? ⟨1, 0, none⟩ = some (.int .i64 m)
  syn : ∃ te pe, w.cell? ⟨7, 0, none⟩ = some (.iface te pe)
  ran : ∃ te pe, w.cell? ⟨8, 0, none⟩ = some (.iface te pe)
  tab : Lib.TabIs Tryz.prog w "internal/strconv.uint64pow10" .u64 Lib.pow10Tab

theorem Env.keep {base : Nat} {w w' : World} (h : Env base w) (hb : Below base w w') : Env base w' := by
  obtain ⟨h1, h2, ⟨m, h3⟩, ⟨t4, p4, h4⟩, ⟨t5, p5, h5⟩, h6⟩ := h
  exact ⟨h1, Nat.le_trans h2 hb.size, ⟨m, by rw [hb.cell (by show 1 < base; omega)]; exact h3⟩, ⟨t4, p4, by rw [hb.cell (by show 7 < base; omega)]; exact h4⟩,
    ⟨t5, p5, by rw [hb.cell (by show 8 < base; omega)]; exact h5⟩, var?_below (g := 2) hb (by kernel_rfl) (by omega) h6⟩
theorem Env.below {base : Nat} {w w' : World} (h : Env base w) (hb : Below w.heap.size w w') : Env base w' := h.keep (hb.mono h.size)

theorem parse_ok (w : World) (s : BA) (hs : s.size ≤ 4294967280) (v : Int) (h : Lib.parseIntB 64 s.data.toList = .ok v) :
    Calls Tryz.prog 209 #[.string s, .int .i64 10, .int .i64 64] w fun e w' => e = .returned (.tuple #[.int .i64 v, .nilIface]) ∧ Below w.heap.size w w' :=
  (Tryz.strconv_ParseInt_10_at64_ok s (by omega) v h w).mono (by
    rintro e w' ⟨he, rfl | ⟨t, rfl⟩⟩
    · exact ⟨he, Below.refl _ _⟩
    · exact ⟨he, Lib.bytesWorld_below _ _ _⟩)
theorem parse_no (w : World) (base : Nat) (s : BA) (hs : s.size ≤ 4294967280) (hE : Env base w) (h : ∀ v, Lib.parseIntB 64 s.data.toList ≠ .ok v) :
    Calls Tryz.prog 209 #[.string s, .int .i64 10, .int .i64 64] w fun e w' => (∃ n t p, e = .returned (.tuple #[.int .i64 n, .iface t p])) ∧ Below w.heap.size w w' := by
  cases hq : Lib.parseIntB 64 s.data.toList with
  | ok v => exact absurd hq (h v)
  | «syntax» =>
    obtain ⟨te, pe, hv⟩ := hE.syn
    exact (Tryz.strconv_ParseInt_10_at64_syntax s (by omega) hq _ w hv (.inr ⟨te, pe, rfl⟩)).mono (by
      rintro e w' ⟨N, he, _, _, hb⟩
      exact ⟨⟨_, _, _, he⟩, hb⟩)
  | range =>
    obtain ⟨te, pe, hv⟩ := hE.ran
    exact (Tryz.strconv_ParseInt_10_at64_range s (by omega) hq _ w hv (.inr ⟨te, pe, rfl⟩)).mono (by
      rintro e w' ⟨N, he, _, _, hb⟩
      exact ⟨⟨_, _, _, he⟩, hb⟩)
theorem format_any (w : World) (base : Nat) (n : Int) (h0 : -9223372036854775808 ≤ n) (h1 : n ≤ 9223372036854775807) (hE : Env base w) :
    Calls Tryz.prog 88 #[.int .i64 n, .int .i64 10] w fun e w' => e = .returned (.string ⟨(Lib.itoa n).toArray⟩) ∧ Below w.heap.size w w' :=
  (Tryz.strconv_FormatInt_10 n h0 h1 w hE.tab).mono (by
    rintro e w' ⟨he, k, os, rfl⟩
    exact ⟨he, Lib.below_grow _ _ (Nat.le_refl _) k os⟩)
theorem scut_any (w : World) (base : Nat) (s : BA) (c : UInt8) (hs : s.size ≤ 4294967280) (hE : Env base w) :
    Calls Tryz.prog 183 #[.string s, .string ⟨#[c]⟩] w fun e w' => (∃ b, e = .returned (.tuple #[.string (cutHead c s), .string (cutTail c s), .bool b])) ∧ ∃ n, w' = w.drewN n := by
  obtain ⟨m, hm⟩ := hE.mlen
  refine (Tryz.strings_Cut s ⟨#[c]⟩ m w (by omega) hm).mono ?_
  rintro e w' ⟨he, hw⟩
  have hl := libCut_eq c s
  have e1 : (⟨#[c]⟩ : ByteArray).data.toList = [c] := rfl
  rw [e1, hl.1, hl.2] at he
  exact ⟨⟨_, he⟩, hw⟩
theorem count_any (w : World) (s : BA) (c : UInt8) : Calls Tryz.prog 79 #[.string s, .string ⟨#[c]⟩] w fun e w' => e = .returned (.int .i64 (((cuts c s).length - 1 : Nat) : Int)) ∧ w' = w :=
  (Tryz.strings_Count_one s c w).mono (by
    rintro e w' ⟨he, hw⟩
    rw [cuts_length]
    exact ⟨he, hw⟩)
theorem split_any (w : World) (base : Nat) (s : BA) (c : UInt8) (hs : s.size ≤ 4294967280) (hE : Env base w) :
    Calls Tryz.prog 81 #[.string s, .string ⟨#[c]⟩] w fun e w' => e = .returned (.slice (some ⟨w.heap.size, 0, none⟩) (cuts c s).length (cuts c s).length) ∧ w' = w.alloc (.cells ((cuts c s).map Value.string).toArray 9) := by
  obtain ⟨m, hm⟩ := hE.mlen
  refine (Tryz.strings_Split s ⟨#[c]⟩ m w (by omega) hm (by show 1 ≤ (1 : Nat); omega)).mono ?_
  rintro e w' ⟨he, hw⟩
  have e1 : Lib.countB s ⟨#[c]⟩ + 1 = (cuts c s).length := by rw [cuts_length]; show Lib.count s.data.toList [c] + 1 = _; rw [Lib.count_one]
  rw [e1] at he
  rw [splitB_cuts] at hw
  exact ⟨he, hw⟩
theorem splitN_any (w : World) (base : Nat) (s : BA) (c : UInt8) (n : Nat) (hn : 1 ≤ n) (hn2 : n ≤ 100) (hs : s.size ≤ 4294967280) (hE : Env base w) :
    Calls Tryz.prog 181 #[.string s, .string ⟨#[c]⟩, .int .i64 n] w fun e w' => ∃ cap, (cutsN c n s).length ≤ cap ∧ e = .returned (.slice (some ⟨w.heap.size, 0, none⟩) (cutsN c n s).length cap) ∧
      ∃ cells : Array Value, w' = w.alloc (.cells cells 9) ∧ ∀ (j : Nat) (x : BA), (cutsN c n s)[j]? = some x → cells[j]? = some (.string x) := by
  obtain ⟨m, hm⟩ := hE.mlen
  refine (Tryz.strings_SplitN s ⟨#[c]⟩ n m w (by omega) hm (by show 1 ≤ (1 : Nat); omega) hn (by omega)).mono ?_
  rintro e w' ⟨he, hw⟩
  refine ⟨_, ?_, he, _, hw, ?_⟩
  · have := Lib.splitB_length_le ⟨#[c]⟩ 0 (min n (s.size + 1) - 1) s
    show (Lib.splitB _ _ _ _).length ≤ _
    omega
  · intro j x hj
    have hj' : (Lib.splitB ⟨#[c]⟩ 0 (min n (s.size + 1) - 1) s)[j]? = some x := hj
    unfold Lib.cellsOf
    rw [List.getElem?_toArray, List.getElem?_append_left (by have := (List.getElem?_eq_some_iff.1 hj').1; simpa using this), List.getElem?_map, hj']
    rfl

end Go.Proofs.YtbddcodljmglfaaGreatDoor
