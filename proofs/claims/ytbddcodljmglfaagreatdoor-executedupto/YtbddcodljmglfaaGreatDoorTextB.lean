/- The document's read: the world of a text that is being read. And what follows on it. -/
import Derived.Test.YtbddcodljmglfaaGreatDoorTextA
import Derived.Test.YtbddcodljmglfaaGreatDoorLeafA
import Derived.Test.YtbddcodljmglfaaGreatDoorMemA
import Derived.Deep.RegionWith
import Derived.Deep.RegionHeld3
import Derived.Test.YtbddcodljmglfaaGreatDoorLostFn
set_option linter.unusedSimpArgs false
set_option linter.unusedVariables false
namespace Go.Proofs.YtbddcodljmglfaaGreatDoor
open Go.RowKit

/-- A text as far as it is read: L its lines so far, bl where its blocks begin; 'base': all of it lies from there on. -/
structure TextIn (base : Nat) (W : World) (tb : Nat) (L : List BA) (bl : List Nat) (lv bv : Value) (vals : List Value) : Prop where
  box : BoxIn W tb 66 [lv, bv, .bool false]
  rows : OwnS W base 62 1 lv L.length vals
  vlen : vals.length = L.length
  words : ∀ (j : Nat) (s : BA) (v : Value), L[j]? = some s → vals[j]? = some v → WordsIn W v (hd (cuts 32 s)) (cuts 32 s)
  blocks : OwnS W base 3 1 bv bl.length (nums bl)
  lo : base ≤ tb
theorem own_below {base : Nat} {W W' : World} {t : TypeId} {size : Nat} {v : Value} {n : Nat} {xs : List Value} (h : OwnS W base t size v n xs) (hb : Below W.heap.size W W') : OwnS W' base t size v n xs := h.of_block fun k hk => hb.block k (h.lt k hk).2
theorem TextIn.below {base : Nat} {W W' : World} {tb : Nat} {L : List BA} {bl : List Nat} {lv bv : Value} {vals : List Value} (h : TextIn base W tb L bl lv bv vals) (hb : Below W.heap.size W W') : TextIn base W' tb L bl lv bv vals :=
  ⟨h.box.below hb, own_below h.rows hb, h.vlen, fun j s v hs hv => (h.words j s v hs hv).below hb, own_below h.blocks hb, h.lo⟩

end Go.Proofs.YtbddcodljmglfaaGreatDoor

namespace Go.Proofs.YtbddcodljmglfaaGreatDoor
open Go.RowKit

/-- A line that may stand: its first word is none of the words, or it is made as that word asks. -/
def PlainIn (s : BA) : Prop := kindOf (hd (cuts 32 s)) = none ∨ plainR 0 (hd (cuts 32 s)) (cuts 32 s)
theorem hd_cuts (s : BA) : ∃ bs, cuts 32 s = hd (cuts 32 s) :: bs := by
  obtain ⟨x, bs, h⟩ := cuts_cons s
  exact ⟨bs, by rw [h]; rfl⟩
theorem drop_some {α : Type} {T : List α} {i : Nat} {x : α} (h : T[i]? = some x) : T.drop i = x :: T.drop (i + 1) := by
  obtain ⟨h1, h2⟩ := List.getElem?_eq_some_iff.1 h
  rw [List.drop_eq_getElem_cons h1, h2]
theorem cuts_le (c : UInt8) (s : BA) : (cuts c s).length ≤ s.size + 1 := by
  rw [cuts_length]
  have := List.count_le_length (a := c) (l := s.data.toList)
  have h2 : s.data.toList.length = s.size := by rw [Array.length_toList]; rfl
  omega
theorem WordsIn.keep {w w' : World} {v : Value} {x0 : BA} {ws : List BA} (h : WordsIn w v x0 ws) (hk : Keeps 9 w w') : WordsIn w' v x0 ws := ⟨h.row.keep hk, h.pos, h.fst, h.len, h.small⟩
theorem words_in {w : World} {c : Nat} {v : Value} {s : BA} (hs : s.size ≤ 4294967280) (h : OwnS w c 9 1 v (cuts 32 s).length (strs (cuts 32 s))) : WordsIn w v (hd (cuts 32 s)) (cuts 32 s) := by
  obtain ⟨bs, hc⟩ := hd_cuts s
  refine ⟨h.rdT, ?_, ?_, ?_, fun x hx => ?_⟩
  · rw [hc]; simp
  · rw [hc]; rfl
  · have := cuts_le 32 s; omega
  · have := cuts_size 32 s x hx; omega

section
variable {base : Nat} {W w3 : World} {tb : Nat} {L : List BA} {bl : List Nat} {lv bv : Value} {vals : List Value}
/-- A line is put in. -/
theorem TextIn.addLine (h : TextIn base W tb L bl lv bv vals) {o : Obj} {g off cap : Nat} {wv : Value} {s : BA}
    (hown : OwnS w3 base 62 1 (.slice (some ⟨g, off, none⟩) (L.length + 1) cap) (L.length + 1) (vals ++ [wv])) (hg : (W.alloc o).grownBy w3 lv.ownBlock) (hw : WordsIn W wv (hd (cuts 32 s)) (cuts 32 s)) :
    TextIn base (w3.setCell ⟨tb, 0, none⟩ (.slice (some ⟨g, off, none⟩) (L.length + 1) cap)) tb (L ++ [s]) bl (.slice (some ⟨g, off, none⟩) (L.length + 1) cap) bv (vals ++ [wv]) := by
  have box' : w3.heap[tb]? = some (.cells [lv, bv, .bool false].toArray 66 (0, 0)) := grown_box h.rows hg h.box (by decide)
  have kp : Keeps 9 W (w3.setCell ⟨tb, 0, none⟩ (.slice (some ⟨g, off, none⟩) (L.length + 1) cap)) := (grown_keeps h.rows hg (by decide)).setCell box' (by decide) _
  refine ⟨?_, ?_, ?_, ?_, ?_, h.lo⟩
  · show (w3.setCell _ _).heap[tb]? = _
    rw [set_block box']
    simp
  · rw [List.length_append]
    exact hown.set_other box' (by decide) _
  · simp [h.vlen]
  · intro j x v hx hv
    by_cases hj : j < L.length
    · rw [List.getElem?_append_left hj] at hx
      rw [List.getElem?_append_left (by rw [h.vlen]; exact hj)] at hv
      exact (h.words j x v hx hv).keep kp
    · rw [List.getElem?_append_right (by omega)] at hx
      rw [List.getElem?_append_right (by rw [h.vlen]; omega)] at hv
      rw [h.vlen] at hv
      cases hd : j - L.length with
      | zero =>
        rw [hd] at hx hv
        simp at hx hv
        subst hx hv
        exact hw.keep kp
      | succ m => rw [hd] at hx; simp at hx
  · exact (grown_own h.rows hg h.blocks (by decide)).set_other box' (by decide) _

/-- A block begins. -/
theorem TextIn.addBlock (h : TextIn base W tb L bl lv bv vals) {o : Obj} {g off cap i : Nat}
    (hown : OwnS w3 base 3 1 (.slice (some ⟨g, off, none⟩) (bl.length + 1) cap) (bl.length + 1) (nums bl ++ [.int .i64 (i : Int)])) (hg : (W.alloc o).grownBy w3 bv.ownBlock) :
    TextIn base (w3.setCell ⟨tb, 1, none⟩ (.slice (some ⟨g, off, none⟩) (bl.length + 1) cap)) tb L (bl ++ [i]) lv (.slice (some ⟨g, off, none⟩) (bl.length + 1) cap) vals := by
  have box' : w3.heap[tb]? = some (.cells [lv, bv, .bool false].toArray 66 (0, 0)) := grown_box h.blocks hg h.box (by decide)
  have kp : Keeps 9 W (w3.setCell ⟨tb, 1, none⟩ (.slice (some ⟨g, off, none⟩) (bl.length + 1) cap)) := (grown_keeps h.blocks hg (by decide)).setCell box' (by decide) _
  refine ⟨?_, ?_, h.vlen, fun j x v hx hv => (h.words j x v hx hv).keep kp, ?_, h.lo⟩
  · show (w3.setCell _ _).heap[tb]? = _
    rw [set_block box']
    simp
  · exact (grown_own h.blocks hg h.rows (by decide)).set_other box' (by decide) _
  · rw [List.length_append, nums_snoc]
    exact hown.set_other box' (by decide) _

/-- Line j's words, where the text has them. -/
theorem TextIn.at (h : TextIn base W tb L bl lv bv vals) {j : Nat} (hj : j < L.length) : ∃ g off cap v, lv = .slice (some ⟨g, off, none⟩) L.length cap ∧ L.length ≤ cap ∧ g < W.heap.size ∧ W.cell? ⟨g, off + j, none⟩ = some v ∧ WordsIn W v (hd (cuts 32 L[j])) (cuts 32 L[j]) := by
  obtain ⟨v, hv⟩ : ∃ v, vals[j]? = some v := ⟨_, List.getElem?_eq_getElem (by rw [h.vlen]; exact hj)⟩
  obtain ⟨ao, cp, rfl, hcp, hc⟩ := h.rows.rdT.cell
  obtain ⟨g, off, rfl, hg, hx⟩ := hc (by omega)
  exact ⟨g, off, cp, v, rfl, hcp, hg, hx j v hv, h.words j _ v (List.getElem?_eq_getElem hj) hv⟩
theorem TextIn.line {g off n cap : Nat} (h : TextIn base W tb L bl (.slice (some ⟨g, off, none⟩) n cap) bv vals) {j : Nat} {x : BA} (hx : L[j]? = some x) : ∃ v, W.cell? ⟨g, off + j, none⟩ = some v ∧ WordsIn W v (hd (cuts 32 x)) (cuts 32 x) ∧ n ≤ cap := by
  obtain ⟨hj, hxe⟩ := List.getElem?_eq_some_iff.1 hx
  obtain ⟨g', off', cap', v, h1, h2, h3, h4, h5⟩ := h.at hj
  injection h1 with h1 h6 h7
  injection h1 with h1
  injection h1 with h1 h8 _
  subst h1 h8 h6 h7
  rw [hxe] at h5
  exact ⟨v, h4, h5, h2⟩
end
theorem leadsG_len : ∀ (ps : List Nat) (bs : List BA), (leadsG ps bs).length ≤ ps.length
  | [], bs => by simp [leadsG]
  | p :: ps, [] => by simp [leadsG]
  | p :: ps, b :: bs => by
    have := leadsG_len ps bs
    simp only [leadsG]
    split <;> simp <;> omega
theorem leadsS_len (s : BA) : (leadsS s).length ≤ 3 := by
  unfold leadsS leadsR
  split
  · rename_i kd hk
    exact Nat.le_trans (leadsG_len _ _) (partsF_len ⟨kd, kindOf_lt hk⟩)
  · simp

/-- The numbers of the lines whose first word is 'block'. -/
def blkIdx : Nat → List BA → List Nat
  | _, [] => []
  | i, s :: r => if isBlock (hd (cuts 32 s)) = true then i :: blkIdx (i + 1) r else blkIdx (i + 1) r
theorem blkIdx_snoc : ∀ (L : List BA) (i : Nat) (x : BA), blkIdx i (L ++ [x]) = blkIdx i L ++ (if isBlock (hd (cuts 32 x)) = true then [i + L.length] else [])
  | [], i, x => by simp [blkIdx]
  | s :: r, i, x => by
    simp only [List.cons_append, blkIdx, blkIdx_snoc r (i + 1) x, List.length_cons]
    have e : i + 1 + r.length = i + (r.length + 1) := by omega
    rw [e]
    split <;> simp

/-- What read hands back. -/
def RdOut (base : Nat) (T : List BA) (e : Ending) (w' : World) : Prop :=
  (∀ i, docL 0 0 ByteArray.empty T = .error i → e = .returned (.tuple #[.pointer none, .int .i64 7, .int .i64 (i : Int)])) ∧
  (∀ nb, docL 0 0 ByteArray.empty T = .ok nb → (∀ i, docLost nb 0 T = some i → e = .returned (.tuple #[.pointer none, .int .i64 8, .int .i64 (i : Int)])) ∧
    (docLost nb 0 T = none → ∃ tb bl lv bv vals, e = .returned (.tuple #[.pointer (some ⟨tb, 0, none⟩), .int .i64 0, .int .i64 0]) ∧ TextIn base w' tb T bl lv bv vals ∧ bl = blkIdx 0 T ∧ ∀ x ∈ T, PlainIn x))
theorem RdOut.err {base : Nat} {T : List BA} {e : Ending} {w' : World} {i : Nat} (h : docL 0 0 ByteArray.empty T = .error i) (he : e = .returned (.tuple #[.pointer none, .int .i64 7, .int .i64 (i : Int)])) : RdOut base T e w' :=
  ⟨fun j hj => (by rw [h] at hj; injection hj with hj; subst hj; exact he), fun nb hn => (by rw [h] at hn; cases hn)⟩
theorem RdOut.lost {base : Nat} {T : List BA} {e : Ending} {w' : World} {i nb : Nat} (h : docL 0 0 ByteArray.empty T = .ok nb) (hl : docLost nb 0 T = some i) (he : e = .returned (.tuple #[.pointer none, .int .i64 8, .int .i64 (i : Int)])) : RdOut base T e w' :=
  ⟨fun j hj => (by rw [h] at hj; cases hj), fun nb' hn => by
    rw [h] at hn; injection hn with hn; subst hn
    exact ⟨fun j hj => (by rw [hl] at hj; injection hj with hj; subst hj; exact he), fun hn => (by rw [hl] at hn; cases hn)⟩⟩
theorem RdOut.ok {base : Nat} {T : List BA} {e : Ending} {w' : World} {nb : Nat} (h : docL 0 0 ByteArray.empty T = .ok nb) (hl : docLost nb 0 T = none) {tb : Nat} {bl : List Nat} {lv bv : Value} {vals : List Value} (he : e = .returned (.tuple #[.pointer (some ⟨tb, 0, none⟩), .int .i64 0, .int .i64 0])) (hT : TextIn base w' tb T bl lv bv vals) (hbl : bl = blkIdx 0 T) (hp : ∀ x ∈ T, PlainIn x) : RdOut base T e w' :=
  ⟨fun j hj => (by rw [h] at hj; cases hj), fun nb' hn => by
    rw [h] at hn; injection hn with hn; subst hn
    exact ⟨fun j hj => (by rw [hl] at hj; cases hj), fun _ => ⟨tb, bl, lv, bv, vals, he, hT, hbl, hp⟩⟩⟩

end Go.Proofs.YtbddcodljmglfaaGreatDoor

namespace Go.Proofs.YtbddcodljmglfaaGreatDoor
open Go.RowKit

/-- append, not laid open, wherever it comes up: so that an equation on its run can be met by the walk. -/
def appLock (ats : Array TypeId) (ty : TypeId) (args : Array Value) : Sem Value := Builtin.append_ ats ty args
theorem append_lock (ats : Array TypeId) (ty : TypeId) (args : Array Value) : Builtin.append_ ats ty args = appLock ats ty args := rfl
attribute [local go_sem ↓ high] append_lock

/-- As app_later, behind no draw. -/
theorem app_now (W : World) (base : Nat) (t e : TypeId) (z : Value) (size bytes : Nat) (ht : Tryz.prog.underlying t = some (.slice e)) (hinf : (Tryz.prog.info? e).map (fun i => (i.zero, i.size, i.bytes)) = some (some z, size, bytes)) (hzs : z.cells.size = size) (hsz : 0 < size)
    (v : Value) (n : Nat) (xs : List Value) (hown : OwnS W base e size v n xs) (news : List Value) (hl : news.length = size) (h1 : ∀ u ∈ news, u.oneCell' = true) (h63 : n + 1 ≤ maxLen) (hbytes : (n + 1) * bytes ≤ 140737488355328) (hbase : base ≤ W.heap.size) :
    ∃ g off cap w3, (∀ ty, (appLock #[t, t] ty #[v, .slice (some ⟨W.heap.size, 0, none⟩) 1 1]).run Tryz.prog (W.alloc (.cells news.toArray e)) = .ok (.slice (some ⟨g, off, none⟩) (n + 1) cap) w3) ∧
      OwnS w3 base e size (.slice (some ⟨g, off, none⟩) (n + 1) cap) (n + 1) (xs ++ news) ∧ (W.alloc (.cells news.toArray e)).grownBy w3 v.ownBlock := by
  cases hq : Tryz.prog.info? e with
  | none => simp [hq] at hinf
  | some i =>
    simp [hq] at hinf
    obtain ⟨hz0, hz1, hz2⟩ := hinf
    obtain ⟨g, off, cap, w3, hr, h2, h3, h4, h5⟩ := run_append_ownS (P := Tryz.prog) (W.alloc (.cells news.toArray e)) base t 0 e i z size bytes ht hq hz0 hz1 hz2 hzs hsz v n xs (hown.alloc _) ⟨W.heap.size, 0, none⟩ 1 1 news (by simpa using hl) (cell_newL W news e _ rfl) h1 (by decide) h63 hbytes (by simp; omega)
    exact ⟨g, off, cap, w3, fun ty => hr, h2, h3⟩

theorem infoStrs : (Tryz.prog.info? 62).map (fun i => (i.zero, i.size, i.bytes)) = some (some (.slice none 0 0), 1, 24) := by kernel_rfl

end Go.Proofs.YtbddcodljmglfaaGreatDoor

namespace Go.Proofs.YtbddcodljmglfaaGreatDoor
open Go.RowKit

theorem RdT.of_own {w w' : World} {t : TypeId} {size : Nat} {v : Value} {n : Nat} {xs : List Value} (h : RdT w t size v n xs) (hb : ∀ k, v.ownBlock = some k → k < w.heap.size → w'.heap[k]? = w.heap[k]?) : RdT w' t size v n xs := by
  obtain ⟨hl, ao, cap, rfl, hc, h⟩ := h
  refine ⟨hl, ao, cap, rfl, hc, ?_⟩
  rcases h with h | ⟨g, off, cur, fr, rfl, hg, hx⟩
  · exact .inl h
  · exact .inr ⟨g, off, cur, fr, rfl, (hb g rfl (blk_lt hg)).trans hg, hx⟩

end Go.Proofs.YtbddcodljmglfaaGreatDoor
