/- The document's read: the world of a text that is being read. -/
import Derived.Test.YtbddcodljmglfaaGreatDoorRT10
import Derived.Test.YtbddcodljmglfaaGreatDoorBridge5
import Derived.Test.YtbddcodljmglfaaGreatDoorBox
set_option linter.unusedSimpArgs false
set_option linter.unusedVariables false
namespace Go.Proofs.YtbddcodljmglfaaGreatDoor
open Go.RowKit

theorem aggText : AggT 66 3 [.slice none 0 0, .slice none 0 0, .bool false] := ⟨⟨_, Tryz.underlying66, rfl⟩, by kernel_rfl, by kernel_rfl, rfl⟩

set_option maxRecDepth 100000 in
set_option maxHeartbeats 4000000 in
/-- A text of too many lines. -/
theorem rread_long (w : World) (s : BA) (hs : s.size ≤ 4294967280) (hl : 120 < (cuts 10 s).length) :
    Calls Tryz.prog 37 #[.string s, .bool false] w fun e w' => e = .returned (.tuple #[.pointer none, .int .i64 6, .int .i64 0]) ∧ Below w.heap.size w w' := by
  have HSP : Hid (Calls Tryz.prog 69 #[.string s, .int .u8 10] w fun e w' => (∃ v, e = .returned v ∧ OwnS w' w.heap.size 9 1 v (cuts 10 s).length (strs (cuts 10 s))) ∧ Below w.heap.size w w') := rSplit_any w s 10 hs
  generalize cuts 10 s = T at *
  obtain ⟨N, hN⟩ : ∃ N, N = T.length := ⟨_, rfl⟩
  have HN : Hid (N = T.length) := hN
  rw [← hN] at HSP hl
  have hl' : (120 : Int) < (N : Int) := by omega
  clear hN
  go_enter Tryz.func37, Tryz.ntmps37
  by_cases h1 : 1000 < N
  · have h1' : (1000 : Int) < (N : Int) := by omega
    go_wp2_with (first | (go_at_call 69; refine HSP.out.mono ?_; rintro e w1 ⟨⟨v, rfl, hv⟩, hb⟩; obtain ⟨ao, cp, rfl⟩ := hv.len; have HB1 : Hid (Below w.heap.size w w1) := hb; clear hb hv))
    go_ret3
    exact ⟨rfl, HB1.out⟩
  · have h1' : ¬ (1000 : Int) < (N : Int) := by omega
    go_wp2_with (first | (go_at_call 69; refine HSP.out.mono ?_; rintro e w1 ⟨⟨v, rfl, hv⟩, hb⟩; obtain ⟨ao, cp, rfl⟩ := hv.len; have HB1 : Hid (Below w.heap.size w w1) := hb; clear hb hv))
    go_ret3
    exact ⟨rfl, HB1.out⟩

/-- A text as far as it is read: L its lines so far, bl where its blocks begin; 'base': all of it lies from there on. -/
structure TextIn (base : Nat) (W : World) (tb : Nat) (L : List BA) (bl : List Nat) (lv bv : Value) (vals : List Value) : Prop where
  box : BoxIn W tb 66 [lv, bv, .bool false]
  rows : OwnS W base 62 1 lv L.length vals
  vlen : vals.length = L.length
  words : ∀ (j : Nat) (s : BA) (v : Value), L[j]? = some s → vals[j]? = some v → WordsIn W v (hd (cuts 32 s)) (cuts 32 s)
  blocks : OwnS W base 3 1 bv bl.length (nums bl)
  lo : base ≤ tb
theorem own_below {base : Nat} {W W' : World} {t : TypeId} {size : Nat} {v : Value} {n : Nat} {xs : List Value} (h : OwnS W base t size v n xs) (hb : Below W.heap.size W W') : OwnS W' base t size v n xs := h.of_block fun k hk => hb.block k (h.lt k hk).2
theorem TextIn.below {base : Nat} {W W' : World} {tb : Nat} {L : List BA} {bl : List Nat} {lv bv : Value} {vals : List Value} (h : TextIn base W tb L bl lv bv vals) (hb : Below W.heap.size W W') : TextIn base W' tb L bl lv bv vals :=
  ⟨h.box.below hb, own_below h.rows hb, h.vlen, fun j s v hs hv => (h.words j s v hs hv).below hb, own_below h.blocks hb, h.lo⟩

end Go.Proofs.YtbddcodljmglfaaGreatDoor
