/- The document's read: the world of a text that is being read. And what follows on it. -/
import Derived.Test.YtbddcodljmglfaaGreatDoorTextA
import Derived.Test.YtbddcodljmglfaaGreatDoorBridgeA
import Derived.Test.YtbddcodljmglfaaGreatDoorBox
import Derived.Test.YtbddcodljmglfaaGreatDoorMemA
set_option linter.unusedSimpArgs false
set_option linter.unusedVariables false
namespace Go.Proofs.YtbddcodljmglfaaGreatDoor
open Go.RowKit

theorem aggText : AggT 66 3 [.slice none 0 0, .slice none 0 0, .bool false] := ⟨⟨_, Tryz.underlying66, rfl⟩, by kernel_rfl, by kernel_rfl, rfl⟩

set_option maxRecDepth 100000 in
set_option maxHeartbeats 4000000 in
/-- A text of too many lines. -/
theorem rread_long (w : World) (s : BA) (hs : s.size ≤ 4294967280) (hl : 120 < (cuts 10 s).length) :
    Calls Tryz.prog 37 #[.string s, .bool false] w fun e w' => e = .returned (.tuple #[.pointer none, .int .i64 6, .int .i64 0]) ∧ Below w.heap.size w w' := by
  have HSP : Hid (Calls Tryz.prog 69 #[.string s, .int .u8 10] w fun e w' => (∃ v, e = .returned v ∧ OwnS w' w.heap.size 9 1 v (cuts 10 s).length (strs (cuts 10 s))) ∧ Below w.heap.size w w') := rSplit_any w s 10 hs
  generalize cuts 10 s = T at *
  obtain ⟨N, hN⟩ : ∃ N, N = T.length := ⟨_, rfl⟩
  have HN : Hid (N = T.length) := hN
  rw [← hN] at HSP hl
  have hl' : (120 : Int) < (N : Int) := by omega
  clear hN
  go_enter Tryz.func37, Tryz.ntmps37
  by_cases h1 : 1000 < N
  · have h1' : (1000 : Int) < (N : Int) := by omega
    go_wp2_with (first | (go_at_call 69; refine HSP.out.mono ?_; rintro e w1 ⟨⟨v, rfl, hv⟩, hb⟩; obtain ⟨ao, cp, rfl⟩ := hv.len; have HB1 : Hid (Below w.heap.size w w1) := hb; clear hb hv))
    go_ret3
    exact ⟨rfl, HB1.out⟩
  · have h1' : ¬ (1000 : Int) < (N : Int) := by omega
    go_wp2_with (first | (go_at_call 69; refine HSP.out.mono ?_; rintro e w1 ⟨⟨v, rfl, hv⟩, hb⟩; obtain ⟨ao, cp, rfl⟩ := hv.len; have HB1 : Hid (Below w.heap.size w w1) := hb; clear hb hv))
    go_ret3
    exact ⟨rfl, HB1.out⟩

/-- A text as far as it is read: L its lines so far, bl where its blocks begin; 'base': all of it lies from there on. -/
structure TextIn (base : Nat) (W : World) (tb : Nat) (L : List BA) (bl : List Nat) (lv bv : Value) (vals : List Value) : Prop where
  box : BoxIn W tb 66 [lv, bv, .bool false]
  rows : OwnS W base 62 1 lv L.length vals
  vlen : vals.length = L.length
  words : ∀ (j : Nat) (s : BA) (v : Value), L[j]? = some s → vals[j]? = some v → WordsIn W v (hd (cuts 32 s)) (cuts 32 s)
  blocks : OwnS W base 3 1 bv bl.length (nums bl)
  lo : base ≤ tb
theorem own_below {base : Nat} {W W' : World} {t : TypeId} {size : Nat} {v : Value} {n : Nat} {xs : List Value} (h : OwnS W base t size v n xs) (hb : Below W.heap.size W W') : OwnS W' base t size v n xs := h.of_block fun k hk => hb.block k (h.lt k hk).2
theorem TextIn.below {base : Nat} {W W' : World} {tb : Nat} {L : List BA} {bl : List Nat} {lv bv : Value} {vals : List Value} (h : TextIn base W tb L bl lv bv vals) (hb : Below W.heap.size W W') : TextIn base W' tb L bl lv bv vals :=
  ⟨h.box.below hb, own_below h.rows hb, h.vlen, fun j s v hs hv => (h.words j s v hs hv).below hb, own_below h.blocks hb, h.lo⟩

end Go.Proofs.YtbddcodljmglfaaGreatDoor

namespace Go.Proofs.YtbddcodljmglfaaGreatDoor
open Go.RowKit

/-- A line that may stand: its first word is none of the words, or it is made as that word asks. -/
def PlainIn (s : BA) : Prop := kindOf (hd (cuts 32 s)) = none ∨ plainR 0 (hd (cuts 32 s)) (cuts 32 s)
theorem hd_cuts (s : BA) : ∃ bs, cuts 32 s = hd (cuts 32 s) :: bs := by
  obtain ⟨x, bs, h⟩ := cuts_cons s
  exact ⟨bs, by rw [h]; rfl⟩
theorem stands_iff (i nb : Nat) (last s : BA) : standsB i nb last (cuts 32 s) = true ↔ standsR i nb (hd (cuts 32 s)) last (cuts 32 s) := by
  obtain ⟨bs, h⟩ := hd_cuts s
  generalize hd (cuts 32 s) = x at *
  rw [h]
  exact standsB_iff i nb x last bs
theorem stands_plain {i nb : Nat} {last s : BA} (h : standsB i nb last (cuts 32 s) = true) : PlainIn s := by
  rw [stands_iff] at h
  unfold standsR at h
  unfold PlainIn
  split at h
  · left
    unfold kindOf
    rw [h.1]
    decide
  · split at h
    · rename_i hb
      left
      unfold kindOf
      rw [hb]
      decide
    · exact .inr h.2
theorem docL_cons (i nb : Nat) (last s : BA) (r : List BA) : docL i nb last (s :: r) = if standsB i nb last (cuts 32 s) = true then docL (i + 1) (if isBlock (hd (cuts 32 s)) = true then nb + 1 else nb) (hd (cuts 32 s)) r else .error i := rfl
theorem drop_some {α : Type} {T : List α} {i : Nat} {x : α} (h : T[i]? = some x) : T.drop i = x :: T.drop (i + 1) := by
  obtain ⟨h1, h2⟩ := List.getElem?_eq_some_iff.1 h
  rw [List.drop_eq_getElem_cons h1, h2]
theorem cuts_le (c : UInt8) (s : BA) : (cuts c s).length ≤ s.size + 1 := by
  rw [cuts_length]
  have := List.count_le_length (a := c) (l := s.data.toList)
  have h2 : s.data.toList.length = s.size := by rw [Array.length_toList]; rfl
  omega
theorem WordsIn.keep {w w' : World} {v : Value} {x0 : BA} {ws : List BA} (h : WordsIn w v x0 ws) (hk : Keeps 9 w w') : WordsIn w' v x0 ws := ⟨h.row.keep hk, h.pos, h.fst, h.len, h.small⟩
theorem words_in {w : World} {c : Nat} {v : Value} {s : BA} (hs : s.size ≤ 4294967280) (h : OwnS w c 9 1 v (cuts 32 s).length (strs (cuts 32 s))) : WordsIn w v (hd (cuts 32 s)) (cuts 32 s) := by
  obtain ⟨bs, hc⟩ := hd_cuts s
  refine ⟨h.rdT, ?_, ?_, ?_, fun x hx => ?_⟩
  · rw [hc]; simp
  · rw [hc]; rfl
  · have := cuts_le 32 s; omega
  · have := cuts_size 32 s x hx; omega

section
variable {base : Nat} {W w3 : World} {tb : Nat} {L : List BA} {bl : List Nat} {lv bv : Value} {vals : List Value}
/-- A line is put in. -/
theorem TextIn.addLine (h : TextIn base W tb L bl lv bv vals) {o : Obj} {g off cap : Nat} {wv : Value} {s : BA}
    (hown : OwnS w3 base 62 1 (.slice (some ⟨g, off, none⟩) (L.length + 1) cap) (L.length + 1) (vals ++ [wv])) (hg : (W.alloc o).grownBy w3 lv.ownBlock) (hw : WordsIn W wv (hd (cuts 32 s)) (cuts 32 s)) :
    TextIn base (w3.setCell ⟨tb, 0, none⟩ (.slice (some ⟨g, off, none⟩) (L.length + 1) cap)) tb (L ++ [s]) bl (.slice (some ⟨g, off, none⟩) (L.length + 1) cap) bv (vals ++ [wv]) := by
  have box' : w3.heap[tb]? = some (.cells [lv, bv, .bool false].toArray 66 (0, 0)) := grown_box h.rows hg h.box (by decide)
  have kp : Keeps 9 W (w3.setCell ⟨tb, 0, none⟩ (.slice (some ⟨g, off, none⟩) (L.length + 1) cap)) := (grown_keeps h.rows hg (by decide)).setCell box' (by decide) _
  refine ⟨?_, ?_, ?_, ?_, ?_, h.lo⟩
  · show (w3.setCell _ _).heap[tb]? = _
    rw [set_block box']
    simp
  · rw [List.length_append]
    exact hown.set_other box' (by decide) _
  · simp [h.vlen]
  · intro j x v hx hv
    by_cases hj : j < L.length
    · rw [List.getElem?_append_left hj] at hx
      rw [List.getElem?_append_left (by rw [h.vlen]; exact hj)] at hv
      exact (h.words j x v hx hv).keep kp
    · rw [List.getElem?_append_right (by omega)] at hx
      rw [List.getElem?_append_right (by rw [h.vlen]; omega)] at hv
      rw [h.vlen] at hv
      cases hd : j - L.length with
      | zero =>
        rw [hd] at hx hv
        simp at hx hv
        subst hx hv
        exact hw.keep kp
      | succ m => rw [hd] at hx; simp at hx
  · exact (grown_own h.rows hg h.blocks (by decide)).set_other box' (by decide) _

/-- A block begins. -/
theorem TextIn.addBlock (h : TextIn base W tb L bl lv bv vals) {o : Obj} {g off cap i : Nat}
    (hown : OwnS w3 base 3 1 (.slice (some ⟨g, off, none⟩) (bl.length + 1) cap) (bl.length + 1) (nums bl ++ [.int .i64 (i : Int)])) (hg : (W.alloc o).grownBy w3 bv.ownBlock) :
    TextIn base (w3.setCell ⟨tb, 1, none⟩ (.slice (some ⟨g, off, none⟩) (bl.length + 1) cap)) tb L (bl ++ [i]) lv (.slice (some ⟨g, off, none⟩) (bl.length + 1) cap) vals := by
  have box' : w3.heap[tb]? = some (.cells [lv, bv, .bool false].toArray 66 (0, 0)) := grown_box h.blocks hg h.box (by decide)
  have kp : Keeps 9 W (w3.setCell ⟨tb, 1, none⟩ (.slice (some ⟨g, off, none⟩) (bl.length + 1) cap)) := (grown_keeps h.blocks hg (by decide)).setCell box' (by decide) _
  refine ⟨?_, ?_, h.vlen, fun j x v hx hv => (h.words j x v hx hv).keep kp, ?_, h.lo⟩
  · show (w3.setCell _ _).heap[tb]? = _
    rw [set_block box']
    simp
  · exact (grown_own h.blocks hg h.rows (by decide)).set_other box' (by decide) _
  · rw [List.length_append, nums_snoc]
    exact hown.set_other box' (by decide) _

/-- Line j's words, where the text has them. -/
theorem TextIn.at (h : TextIn base W tb L bl lv bv vals) {j : Nat} (hj : j < L.length) : ∃ g off cap v, lv = .slice (some ⟨g, off, none⟩) L.length cap ∧ L.length ≤ cap ∧ g < W.heap.size ∧ W.cell? ⟨g, off + j, none⟩ = some v ∧ WordsIn W v (hd (cuts 32 L[j])) (cuts 32 L[j]) := by
  obtain ⟨v, hv⟩ : ∃ v, vals[j]? = some v := ⟨_, List.getElem?_eq_getElem (by rw [h.vlen]; exact hj)⟩
  obtain ⟨ao, cp, rfl, hcp, hc⟩ := h.rows.rdT.cell
  obtain ⟨g, off, rfl, hg, hx⟩ := hc (by omega)
  exact ⟨g, off, cp, v, rfl, hcp, hg, hx j v hv, h.words j _ v (List.getElem?_eq_getElem hj) hv⟩
theorem TextIn.line {g off n cap : Nat} (h : TextIn base W tb L bl (.slice (some ⟨g, off, none⟩) n cap) bv vals) {j : Nat} {x : BA} (hx : L[j]? = some x) : ∃ v, W.cell? ⟨g, off + j, none⟩ = some v ∧ WordsIn W v (hd (cuts 32 x)) (cuts 32 x) ∧ n ≤ cap := by
  obtain ⟨hj, hxe⟩ := List.getElem?_eq_some_iff.1 hx
  obtain ⟨g', off', cap', v, h1, h2, h3, h4, h5⟩ := h.at hj
  injection h1 with h1 h6 h7
  injection h1 with h1
  injection h1 with h1 h8 _
  subst h1 h8 h6 h7
  rw [hxe] at h5
  exact ⟨v, h4, h5, h2⟩
end
theorem leadsG_len : ∀ (ps : List Nat) (bs : List BA), (leadsG ps bs).length ≤ ps.length
  | [], bs => by simp [leadsG]
  | p :: ps, [] => by simp [leadsG]
  | p :: ps, b :: bs => by
    have := leadsG_len ps bs
    simp only [leadsG]
    split <;> simp <;> omega
theorem leadsS_len (s : BA) : (leadsS s).length ≤ 3 := by
  unfold leadsS leadsR
  split
  · rename_i kd hk
    exact Nat.le_trans (leadsG_len _ _) (partsF_len ⟨kd, kindOf_lt hk⟩)
  · simp

/-- The numbers of the lines whose first word is 'block'. -/
def blkIdx : Nat → List BA → List Nat
  | _, [] => []
  | i, s :: r => if isBlock (hd (cuts 32 s)) = true then i :: blkIdx (i + 1) r else blkIdx (i + 1) r
theorem blkIdx_snoc : ∀ (L : List BA) (i : Nat) (x : BA), blkIdx i (L ++ [x]) = blkIdx i L ++ (if isBlock (hd (cuts 32 x)) = true then [i + L.length] else [])
  | [], i, x => by simp [blkIdx]
  | s :: r, i, x => by
    simp only [List.cons_append, blkIdx, blkIdx_snoc r (i + 1) x, List.length_cons]
    have e : i + 1 + r.length = i + (r.length + 1) := by omega
    rw [e]
    split <;> simp

/-- What read hands back. -/
def RdOut (base : Nat) (T : List BA) (e : Ending) (w' : World) : Prop :=
  (∀ i, docL 0 0 ByteArray.empty T = .error i → e = .returned (.tuple #[.pointer none, .int .i64 7, .int .i64 (i : Int)])) ∧
  (∀ nb, docL 0 0 ByteArray.empty T = .ok nb → (∀ i, docLost nb 0 T = some i → e = .returned (.tuple #[.pointer none, .int .i64 8, .int .i64 (i : Int)])) ∧
    (docLost nb 0 T = none → ∃ tb bl lv bv vals, e = .returned (.tuple #[.pointer (some ⟨tb, 0, none⟩), .int .i64 0, .int .i64 0]) ∧ TextIn base w' tb T bl lv bv vals ∧ bl = blkIdx 0 T ∧ ∀ x ∈ T, PlainIn x))
theorem RdOut.err {base : Nat} {T : List BA} {e : Ending} {w' : World} {i : Nat} (h : docL 0 0 ByteArray.empty T = .error i) (he : e = .returned (.tuple #[.pointer none, .int .i64 7, .int .i64 (i : Int)])) : RdOut base T e w' :=
  ⟨fun j hj => (by rw [h] at hj; injection hj with hj; subst hj; exact he), fun nb hn => (by rw [h] at hn; cases hn)⟩
theorem RdOut.lost {base : Nat} {T : List BA} {e : Ending} {w' : World} {i nb : Nat} (h : docL 0 0 ByteArray.empty T = .ok nb) (hl : docLost nb 0 T = some i) (he : e = .returned (.tuple #[.pointer none, .int .i64 8, .int .i64 (i : Int)])) : RdOut base T e w' :=
  ⟨fun j hj => (by rw [h] at hj; cases hj), fun nb' hn => by
    rw [h] at hn; injection hn with hn; subst hn
    exact ⟨fun j hj => (by rw [hl] at hj; injection hj with hj; subst hj; exact he), fun hn => (by rw [hl] at hn; cases hn)⟩⟩
theorem RdOut.ok {base : Nat} {T : List BA} {e : Ending} {w' : World} {nb : Nat} (h : docL 0 0 ByteArray.empty T = .ok nb) (hl : docLost nb 0 T = none) {tb : Nat} {bl : List Nat} {lv bv : Value} {vals : List Value} (he : e = .returned (.tuple #[.pointer (some ⟨tb, 0, none⟩), .int .i64 0, .int .i64 0])) (hT : TextIn base w' tb T bl lv bv vals) (hbl : bl = blkIdx 0 T) (hp : ∀ x ∈ T, PlainIn x) : RdOut base T e w' :=
  ⟨fun j hj => (by rw [h] at hj; cases hj), fun nb' hn => by
    rw [h] at hn; injection hn with hn; subst hn
    exact ⟨fun j hj => (by rw [hl] at hj; cases hj), fun _ => ⟨tb, bl, lv, bv, vals, he, hT, hbl, hp⟩⟩⟩

end Go.Proofs.YtbddcodljmglfaaGreatDoor
