/- Programs in memory. -/
import Derived.Test.YtbddcodljmglfaaGreatDoorReadA
import Derived.Test.YtbddcodljmglfaaGreatDoorMathA
set_option linter.unusedSimpArgs false
set_option linter.unusedVariables false
namespace Go.Proofs.YtbddcodljmglfaaGreatDoor
open Go.RowKit

/-- A line in memory. -/
structure LV where
  l : LineG
  tv : Value
  lv : Value
def LV.cells (x : LV) : List Value := (lineCells x.l x.tv x.lv).toList
def cellsL (xs : List LV) : List Value := xs.flatMap LV.cells
/-- What lies in a row below c. -/
def RdB (w : World) (c : Nat) (t : TypeId) (size : Nat) (v : Value) (n : Nat) (xs : List Value) : Prop := RdT w t size v n xs ∧ ∀ g, v.ownBlock = some g → g < c
def LV.ok (w : World) (x : LV) : Prop := RdT w 111 2 x.tv x.l.takes.length (vers x.l.takes) ∧ RdT w 3 1 x.lv x.l.leads.length (nums x.l.leads) ∧ x.l.takes.length ≤ 3 ∧ x.l.leads.length ≤ 3

def choiceCells (cs : List (Nat × Ver)) : List Value := cs.flatMap fun c => [.int .i64 (c.1 : Int), .string c.2.1, .int .i64 (c.2.2 : Int)]
structure PV where
  p : PhiG
  cv : Value
def PV.cells (x : PV) : List Value := [.string x.p.sets.1, .int .i64 (x.p.sets.2 : Int), x.cv]
def cellsP (xs : List PV) : List Value := xs.flatMap PV.cells
def PV.ok (w : World) (x : PV) : Prop := RdT w 163 3 x.cv x.p.choices.length (choiceCells x.p.choices) ∧ x.p.choices.length ≤ 41

/-- A block in memory. -/
structure BV where
  first : Nat
  phis : List PV
  lines : List LV
  pv : Value
  lv : Value
def BV.cells (b : BV) : List Value := [.int .i64 (b.first : Int), b.pv, b.lv]
def cellsB (bs : List BV) : List Value := bs.flatMap BV.cells
def BV.g (b : BV) : BlockG := ⟨b.first, b.phis.map (·.p), b.lines.map (·.l)⟩
/-- A block whose rows lie below c. -/
structure BV.ok (w : World) (c : Nat) (b : BV) : Prop where
  phis : RdB w c 114 3 b.pv b.phis.length (cellsP b.phis)
  lines : RdB w c 117 6 b.lv b.lines.length (cellsL b.lines)
  phi : ∀ x ∈ b.phis, x.ok w
  line : ∀ x ∈ b.lines, x.ok w

theorem flat_len {α : Type} (f : α → List Value) (k : Nat) (hf : ∀ x, (f x).length = k) (l : List α) : (l.flatMap f).length = l.length * k := by
  induction l with
  | nil => simp
  | cons x r ih => simp [ih, hf, Nat.add_mul]; omega
theorem cellsL_length (l : List LV) : (cellsL l).length = l.length * 6 := flat_len _ 6 (fun _ => rfl) l
theorem cellsP_length (l : List PV) : (cellsP l).length = l.length * 3 := flat_len _ 3 (fun _ => rfl) l
theorem cellsB_length (l : List BV) : (cellsB l).length = l.length * 3 := flat_len _ 3 (fun _ => rfl) l
theorem choice_length (l : List (Nat × Ver)) : (choiceCells l).length = l.length * 3 := flat_len _ 3 (fun _ => rfl) l
theorem flat_get {α : Type} (f : α → List Value) (k : Nat) (hf : ∀ x, (f x).length = k) : ∀ (l : List α) (i j : Nat) (h : i < l.length), j < k → (l.flatMap f)[i * k + j]? = (f l[i])[j]?
  | [], i, j, h, _ => by simp at h
  | x :: r, 0, j, h, hj => by
    simp only [List.flatMap_cons, Nat.zero_mul, Nat.zero_add, List.getElem_cons_zero]
    rw [List.getElem?_append_left (by rw [hf]; exact hj)]
  | x :: r, i + 1, j, h, hj => by
    simp only [List.flatMap_cons, List.getElem_cons_succ]
    rw [List.getElem?_append_right (by rw [hf, Nat.add_mul]; omega), hf, ← flat_get f k hf r i j (by simpa using h) hj]
    congr 1
    rw [Nat.add_mul]
    omega
theorem cellsB_get {l : List BV} {i j : Nat} (h : i < l.length) (hj : j < 3) : (cellsB l)[i * 3 + j]? = (l[i].cells)[j]? := flat_get _ 3 (fun _ => rfl) l i j h hj
theorem cellsL_get {l : List LV} {i j : Nat} (h : i < l.length) (hj : j < 6) : (cellsL l)[i * 6 + j]? = (l[i].cells)[j]? := flat_get _ 6 (fun _ => rfl) l i j h hj
theorem cellsP_get {l : List PV} {i j : Nat} (h : i < l.length) (hj : j < 3) : (cellsP l)[i * 3 + j]? = (l[i].cells)[j]? := flat_get _ 3 (fun _ => rfl) l i j h hj
theorem choice_get {l : List (Nat × Ver)} {i j : Nat} (h : i < l.length) (hj : j < 3) : (choiceCells l)[i * 3 + j]? = [Value.int .i64 ((l[i].1 : Nat) : Int), .string l[i].2.1, .int .i64 ((l[i].2.2 : Nat) : Int)][j]? := flat_get _ 3 (fun _ => rfl) l i j h hj
theorem cellsL_append (a b : List LV) : cellsL (a ++ b) = cellsL a ++ cellsL b := by simp [cellsL]
theorem cellsB_append (a b : List BV) : cellsB (a ++ b) = cellsB a ++ cellsB b := by simp [cellsB]
theorem cellsP_append (a b : List PV) : cellsP (a ++ b) = cellsP a ++ cellsP b := by simp [cellsP]

section
variable {w w' : World} {c c' : Nat}
theorem RdB.keep {t : TypeId} {size : Nat} {v : Value} {n : Nat} {xs : List Value} (h : RdB w c t size v n xs) (hb : Below c w w') : RdB w' c t size v n xs := by
  refine ⟨?_, h.2⟩
  obtain ⟨hl, ao, cap, rfl, hc, hr⟩ := h.1
  refine ⟨hl, ao, cap, rfl, hc, ?_⟩
  rcases hr with hr | ⟨g, off, cur, fr, rfl, hg, hx⟩
  · exact .inl hr
  · exact .inr ⟨g, off, cur, fr, rfl, (hb.block g (h.2 g rfl)).trans hg, hx⟩
theorem RdB.mono {t : TypeId} {size : Nat} {v : Value} {n : Nat} {xs : List Value} (h : RdB w c t size v n xs) (hc : c ≤ c') : RdB w c' t size v n xs := ⟨h.1, fun g hg => Nat.lt_of_lt_of_le (h.2 g hg) hc⟩
theorem OwnS.rdB {base : Nat} {t : TypeId} {size : Nat} {v : Value} {n : Nat} {xs : List Value} (h : OwnS w base t size v n xs) : RdB w w.heap.size t size v n xs := ⟨h.rdT, fun g hg => (h.lt g hg).2⟩
theorem LV.ok.keep {x : LV} (h : x.ok w) (h1 : Keeps 111 w w') (h2 : Keeps 3 w w') : x.ok w' := ⟨h.1.keep h1, h.2.1.keep h2, h.2.2⟩
theorem PV.ok.keep {x : PV} (h : x.ok w) (h1 : Keeps 163 w w') : x.ok w' := ⟨h.1.keep h1, h.2⟩
theorem BV.ok.keep {b : BV} (h : b.ok w c) (hb : Below c w w') (h1 : Keeps 111 w w') (h2 : Keeps 3 w w') (h3 : Keeps 163 w w') : b.ok w' c :=
  ⟨h.phis.keep hb, h.lines.keep hb, fun x hx => (h.phi x hx).keep h3, fun x hx => (h.line x hx).keep h1 h2⟩
theorem BV.ok.mono {b : BV} (h : b.ok w c) (hc : c ≤ c') : b.ok w c' := ⟨h.phis.mono hc, h.lines.mono hc, h.phi, h.line⟩
end

/-- All of it, for reading. -/
structure ProgIn (w : World) (av bv : Value) (A : List Ver) (B : List BV) : Prop where
  args : RdT w 111 2 av A.length (vers A)
  anil : A = [] → av = .slice none 0 0
  rows : RdT w 109 3 bv B.length (cellsB B)
  blocks : ∀ b ∈ B, b.ok w w.heap.size
theorem ProgIn.below {w w' : World} {av bv : Value} {A : List Ver} {B : List BV} (h : ProgIn w av bv A B) (hb : Below w.heap.size w w') : ProgIn w' av bv A B :=
  ⟨h.args.below hb, h.anil, h.rows.below hb, fun b hx => ((h.blocks b hx).keep hb (Keeps.of_below hb) (Keeps.of_below hb) (Keeps.of_below hb)).mono hb.size⟩

end Go.Proofs.YtbddcodljmglfaaGreatDoor
