/- What the words of a program's line are; the document's reckons. -/
import Derived.Test.YtbddcodljmglfaaGreatDoorRV2
set_option linter.unusedSimpArgs false
set_option linter.unusedVariables false
namespace Go.Proofs.YtbddcodljmglfaaGreatDoor
open Go.RowKit

theorem ver0_eq {b : BA} {v : Ver} (h : readVer 0 b = some v) : v = (b, 0) := by
  unfold readVer at h
  rw [if_pos rfl] at h
  split at h
  · injection h with h; exact h.symm
  · cases h
theorem fill0 {bs : List BA} {l l' : LineG} (h : fillG 0 [] bs l = some l') : bs = [] ∧ l' = l := by
  cases bs with
  | nil => simp [fillG] at h; exact ⟨rfl, h.symm⟩
  | cons b r => simp [fillG] at h
theorem fill1 {ps : List Nat} {bs : List BA} {l l' : LineG} (h : fillG 0 (1 :: ps) bs l = some l') : ∃ b r, bs = b :: r ∧ fillG 0 ps r { l with sets := (b, 0) } = some l' := by
  cases bs with
  | nil => simp [fillG] at h
  | cons b r =>
    simp only [fillG] at h
    cases hv : readVer 0 b with
    | none => simp [addPart, hv] at h
    | some v => simp only [addPart, hv, if_true] at h; rw [ver0_eq hv] at h; exact ⟨b, r, rfl, h⟩
theorem fill2 {ps : List Nat} {bs : List BA} {l l' : LineG} (h : fillG 0 (2 :: ps) bs l = some l') : ∃ b r, bs = b :: r ∧ fillG 0 ps r { l with takes := l.takes ++ [(b, 0)] } = some l' := by
  cases bs with
  | nil => simp [fillG] at h
  | cons b r =>
    simp only [fillG] at h
    cases hv : readVer 0 b with
    | none => simp [addPart, hv] at h
    | some v =>
      have e : addPart 0 2 b l = some { l with takes := l.takes ++ [v] } := by simp [addPart, hv]
      rw [e] at h
      rw [ver0_eq hv] at h
      exact ⟨b, r, rfl, h⟩
theorem fill3 {ps : List Nat} {bs : List BA} {l l' : LineG} (h : fillG 0 (3 :: ps) bs l = some l') : ∃ b r v, bs = b :: r ∧ numB b = some v ∧ fillG 0 ps r { l with number := v } = some l' := by
  cases bs with
  | nil => simp [fillG] at h
  | cons b r =>
    simp only [fillG] at h
    cases hv : numB b with
    | none => simp [addPart, hv] at h
    | some v =>
      have e : addPart 0 3 b l = some { l with number := v } := by simp [addPart, hv]
      rw [e] at h
      exact ⟨b, r, v, rfl, hv, h⟩
theorem fill4 {ps : List Nat} {bs : List BA} {l l' : LineG} (h : fillG 0 (4 :: ps) bs l = some l') : ∃ b r n, bs = b :: r ∧ blkB b = some n ∧ fillG 0 ps r { l with leads := l.leads ++ [n] } = some l' := by
  cases bs with
  | nil => simp [fillG] at h
  | cons b r =>
    simp only [fillG] at h
    cases hv : blkB b with
    | none => simp [addPart, hv] at h
    | some v =>
      have e : addPart 0 4 b l = some { l with leads := l.leads ++ [v] } := by simp [addPart, hv]
      rw [e] at h
      exact ⟨b, r, v, rfl, hv, h⟩

/-- A program's line, by its words. -/
inductive LineW : List BA → LineG → Prop
  | set (x0 a b : BA) (v : Int) (h0 : kindOf x0 = some 0) (hb : numB b = some v) : LineW [x0, a, b] ⟨0, (a, 0), [], v, []⟩
  | copy (x0 a b : BA) (h0 : kindOf x0 = some 1) : LineW [x0, a, b] ⟨1, (a, 0), [(b, 0)], 0, []⟩
  | two (k : Nat) (x0 a b c : BA) (h0 : kindOf x0 = some k) (hk : k = 2 ∨ k = 3 ∨ k = 4 ∨ k = 5) : LineW [x0, a, b, c] ⟨k, (a, 0), [(b, 0), (c, 0)], 0, []⟩
  | one (k : Nat) (x0 a : BA) (h0 : kindOf x0 = some k) (hk : k = 6 ∨ k = 9) : LineW [x0, a] ⟨k, noVer, [(a, 0)], 0, []⟩
  | go (x0 a : BA) (n : Nat) (h0 : kindOf x0 = some 7) (ha : blkB a = some n) : LineW [x0, a] ⟨7, noVer, [], 0, [n]⟩
  | cond (x0 a b c : BA) (n m : Nat) (h0 : kindOf x0 = some 8) (hb : blkB b = some n) (hc : blkB c = some m) : LineW [x0, a, b, c] ⟨8, noVer, [(a, 0)], 0, [n, m]⟩

theorem lineW_of {ws : List BA} {l : LineG} (h : lineOf 0 ws = some l) : LineW ws l := by
  cases ws with
  | nil => simp [lineOf] at h
  | cons x0 bs =>
    simp only [lineOf] at h
    split at h
    · rename_i k hk
      have hlt := kind_lt hk
      rcases (by omega : k = 0 ∨ k = 1 ∨ k = 2 ∨ k = 3 ∨ k = 4 ∨ k = 5 ∨ k = 6 ∨ k = 7 ∨ k = 8 ∨ k = 9) with rfl | rfl | rfl | rfl | rfl | rfl | rfl | rfl | rfl | rfl
      · obtain ⟨a, r, rfl, h1⟩ := fill1 h
        obtain ⟨b, r, v, rfl, hb, h2⟩ := fill3 h1
        obtain ⟨rfl, rfl⟩ := fill0 h2
        exact .set x0 a b v hk hb
      · obtain ⟨a, r, rfl, h1⟩ := fill1 h
        obtain ⟨b, r, rfl, h2⟩ := fill2 h1
        obtain ⟨rfl, rfl⟩ := fill0 h2
        exact .copy x0 a b hk
      · obtain ⟨a, r, rfl, h1⟩ := fill1 h
        obtain ⟨b, r, rfl, h2⟩ := fill2 h1
        obtain ⟨c, r, rfl, h3⟩ := fill2 h2
        obtain ⟨rfl, rfl⟩ := fill0 h3
        exact .two 2 x0 a b c hk (by simp)
      · obtain ⟨a, r, rfl, h1⟩ := fill1 h
        obtain ⟨b, r, rfl, h2⟩ := fill2 h1
        obtain ⟨c, r, rfl, h3⟩ := fill2 h2
        obtain ⟨rfl, rfl⟩ := fill0 h3
        exact .two 3 x0 a b c hk (by simp)
      · obtain ⟨a, r, rfl, h1⟩ := fill1 h
        obtain ⟨b, r, rfl, h2⟩ := fill2 h1
        obtain ⟨c, r, rfl, h3⟩ := fill2 h2
        obtain ⟨rfl, rfl⟩ := fill0 h3
        exact .two 4 x0 a b c hk (by simp)
      · obtain ⟨a, r, rfl, h1⟩ := fill1 h
        obtain ⟨b, r, rfl, h2⟩ := fill2 h1
        obtain ⟨c, r, rfl, h3⟩ := fill2 h2
        obtain ⟨rfl, rfl⟩ := fill0 h3
        exact .two 5 x0 a b c hk (by simp)
      · obtain ⟨a, r, rfl, h1⟩ := fill2 h
        obtain ⟨rfl, rfl⟩ := fill0 h1
        exact .one 6 x0 a hk (by simp)
      · obtain ⟨a, r, n, rfl, ha, h1⟩ := fill4 h
        obtain ⟨rfl, rfl⟩ := fill0 h1
        exact .go x0 a n hk ha
      · obtain ⟨a, r, rfl, h1⟩ := fill2 h
        obtain ⟨b, r, n, rfl, hb, h2⟩ := fill4 h1
        obtain ⟨c, r, m, rfl, hc, h3⟩ := fill4 h2
        obtain ⟨rfl, rfl⟩ := fill0 h3
        exact .cond x0 a b c n m hk hb hc
      · obtain ⟨a, r, rfl, h1⟩ := fill2 h
        obtain ⟨rfl, rfl⟩ := fill0 h1
        exact .one 9 x0 a hk (by simp)
    · cases h

/-- What a word's number tells of its letters. -/
theorem kind_word {x : BA} {k : Nat} (h : kindOf x = some k) : ByteArray.toList x = [[115, 101, 116], [99, 111, 112, 121], [97, 100, 100], [115, 117, 98], [109, 117, 108], [108, 101, 115, 115], [111, 117, 116], [103, 111, 116, 111], [105, 102], [101, 110, 100]].getD k [] := by
  unfold kindOf at h
  repeat' split at h
  all_goals first | (injection h with h; subst h; rename_i hx; simpa using hx) | cases h

set_option maxRecDepth 100000 in
set_option maxHeartbeats 4000000 in
theorem reckons_any (w : World) (base vb : Nat) (V : List (Ver × Int)) (nv vv wv : Value) (ws : List BA) (l : LineG) (hV : VarsIn base w vb V nv vv) (hl : LineW ws l) (hw : l.word < 6) (hws : WordsIn w wv (hd ws) ws) :
    Calls Tryz.prog 78 #[.pointer (some ⟨vb, 0, none⟩), wv] w fun e w' => e = .returned (.int .i64 (reckonG l.word (takenG V l).1 (takenG V l).2)) ∧ w' = w := by
  have HG : Hid (∀ x, Calls Tryz.prog 76 #[.pointer (some ⟨vb, 0, none⟩), .string x] w fun e w' => e = .returned (.int .i64 (getV V (x, 0))) ∧ w' = w) := fun x => get_any w base vb V nv vv x hV
  have hsm := hws.small
  obtain ⟨ao, cp, rfl, hcp, hcl⟩ := hws.row.cell
  obtain ⟨g, off, rfl, hg, hx⟩ := hcl hws.pos
  clear hV hws hcl
  cases hl with
  | set x0 a b v h0 hb =>
    have hk := kind_word h0
    have c0 : w.cell? ⟨g, off, none⟩ = some (.string x0) := hx 0 _ rfl
    have c2 : w.cell? ⟨g, off + 2, none⟩ = some (.string b) := hx 2 _ rfl
    have hbs : b.size ≤ 4294967280 := hsm b (by simp)
    have q0 : (ByteArray.toList x0 == [115, 101, 116]) = true := by rw [hk]; rfl
    have HNB : Hid (∀ W, Calls Tryz.prog 94 #[.string b, .int .i64 (-1000000000), .int .i64 1000000000] W fun e w' => e = .returned (.tuple #[.int .i64 v, .bool true]) ∧ w' = W) := fun W => (rNumber_any W b _ _ hbs (by omega) (by omega) (by omega) (by omega)).mono (by
      rintro e w' ⟨n, h1, h3, h2⟩
      rw [← numB_eq, hb] at h1 h3
      have := h3 _ rfl
      subst this
      exact ⟨h1, h2⟩)
    clear hx hk
    go_enter Tryz.func78, Tryz.ntmps78
    go_wp2_with (first | (go_at_call 94; refine (HNB.out _).mono ?_; rintro e w1 ⟨rfl, hw1⟩; rw [hw1]; clear hw1))
    go_ret
    exact ⟨by simp [reckonG, takenG], rfl⟩
  | copy x0 a b h0 =>
    have hk := kind_word h0
    have c0 : w.cell? ⟨g, off, none⟩ = some (.string x0) := hx 0 _ rfl
    have c2 : w.cell? ⟨g, off + 2, none⟩ = some (.string b) := hx 2 _ rfl
    have q0 : (ByteArray.toList x0 == [115, 101, 116]) = false := by rw [hk]; rfl
    have q1 : (ByteArray.toList x0 == [99, 111, 112, 121]) = true := by rw [hk]; rfl
    have HGB : Hid (Calls Tryz.prog 76 #[.pointer (some ⟨vb, 0, none⟩), .string b] w fun e w' => e = .returned (.int .i64 (getV V (b, 0))) ∧ w' = w) := HG.out b
    clear hx hk HG
    go_enter Tryz.func78, Tryz.ntmps78
    go_wp2_with (first | (go_at_call 76; refine HGB.out.mono ?_; rintro e w1 ⟨rfl, hw1⟩; rw [hw1]; clear hw1))
    go_ret
    exact ⟨by simp [reckonG, takenG], rfl⟩
  | two k x0 a b c h0 hk =>
    have hkw := kind_word h0
    have c0 : w.cell? ⟨g, off, none⟩ = some (.string x0) := hx 0 _ rfl
    have c2 : w.cell? ⟨g, off + 2, none⟩ = some (.string b) := hx 2 _ rfl
    have c3 : w.cell? ⟨g, off + 3, none⟩ = some (.string c) := hx 3 _ rfl
    have HGB : Hid (Calls Tryz.prog 76 #[.pointer (some ⟨vb, 0, none⟩), .string b] w fun e w' => e = .returned (.int .i64 (getV V (b, 0))) ∧ w' = w) := HG.out b
    have HGC : Hid (Calls Tryz.prog 76 #[.pointer (some ⟨vb, 0, none⟩), .string c] w fun e w' => e = .returned (.int .i64 (getV V (c, 0))) ∧ w' = w) := HG.out c
    have hT : Hid (takenG V ⟨k, (a, 0), [(b, 0), (c, 0)], 0, []⟩ = (getV V (b, 0), getV V (c, 0))) := rfl
    obtain ⟨y, hy⟩ : ∃ y, y = getV V (b, 0) := ⟨_, rfl⟩
    obtain ⟨z, hz⟩ : ∃ z, z = getV V (c, 0) := ⟨_, rfl⟩
    rw [← hy] at HGB hT
    rw [← hz] at HGC hT
    clear hx HG hy hz
    have q0 : (ByteArray.toList x0 == [115, 101, 116]) = false := by rw [hkw]; rcases hk with rfl | rfl | rfl | rfl <;> rfl
    have q1 : (ByteArray.toList x0 == [99, 111, 112, 121]) = false := by rw [hkw]; rcases hk with rfl | rfl | rfl | rfl <;> rfl
    have q2 : (ByteArray.toList x0 == [97, 100, 100]) = decide (k = 2) := by rw [hkw]; rcases hk with rfl | rfl | rfl | rfl <;> rfl
    have q3 : (ByteArray.toList x0 == [115, 117, 98]) = decide (k = 3) := by rw [hkw]; rcases hk with rfl | rfl | rfl | rfl <;> rfl
    have q4 : (ByteArray.toList x0 == [109, 117, 108]) = decide (k = 4) := by rw [hkw]; rcases hk with rfl | rfl | rfl | rfl <;> rfl
    clear hkw h0
    rcases hk with rfl | rfl | rfl | rfl
    all_goals simp only [Nat.reduceEqDiff, decide_true, decide_false] at q2 q3 q4
    all_goals go_enter Tryz.func78, Tryz.ntmps78
    all_goals go_wp2_with (first
      | (go_at_call_of 76 (Value.string b); refine HGB.out.mono ?_; rintro e w1 ⟨rfl, hw1⟩; rw [hw1]; clear hw1)
      | (go_at_call_of 76 (Value.string c); refine HGC.out.mono ?_; rintro e w1 ⟨rfl, hw1⟩; rw [hw1]; clear hw1))
    all_goals go_ret
    all_goals rw [hT.out]
    all_goals exact ⟨by simp [reckonG, wr64, *], rfl⟩
  | one k x0 a h0 hk => rcases hk with rfl | rfl <;> simp at hw
  | go x0 a n h0 ha => simp at hw
  | cond x0 a b c n m h0 hb hc => simp at hw

end Go.Proofs.YtbddcodljmglfaaGreatDoor
