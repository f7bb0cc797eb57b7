/- Programs in memory. And what follows on it. -/
import Derived.Test.YtbddcodljmglfaaGreatDoorReadA
import Derived.Test.YtbddcodljmglfaaGreatDoorMathA
set_option linter.unusedSimpArgs false
set_option linter.unusedVariables false
namespace Go.Proofs.YtbddcodljmglfaaGreatDoor
open Go.RowKit

/-- A line in memory. -/
structure LV where
  l : LineG
  tv : Value
  lv : Value
def LV.cells (x : LV) : List Value := (lineCells x.l x.tv x.lv).toList
def cellsL (xs : List LV) : List Value := xs.flatMap LV.cells
/-- What lies in a row below c. -/
def RdB (w : World) (c : Nat) (t : TypeId) (size : Nat) (v : Value) (n : Nat) (xs : List Value) : Prop := RdT w t size v n xs ∧ ∀ g, v.ownBlock = some g → g < c
def LV.ok (w : World) (x : LV) : Prop := RdT w 111 2 x.tv x.l.takes.length (vers x.l.takes) ∧ RdT w 3 1 x.lv x.l.leads.length (nums x.l.leads) ∧ x.l.takes.length ≤ 3 ∧ x.l.leads.length ≤ 3

def choiceCells (cs : List (Nat × Ver)) : List Value := cs.flatMap fun c => [.int .i64 (c.1 : Int), .string c.2.1, .int .i64 (c.2.2 : Int)]
structure PV where
  p : PhiG
  cv : Value
def PV.cells (x : PV) : List Value := [.string x.p.sets.1, .int .i64 (x.p.sets.2 : Int), x.cv]
def cellsP (xs : List PV) : List Value := xs.flatMap PV.cells
def PV.ok (w : World) (x : PV) : Prop := RdT w 163 3 x.cv x.p.choices.length (choiceCells x.p.choices) ∧ x.p.choices.length ≤ 41

/-- A block in memory. -/
structure BV where
  first : Nat
  phis : List PV
  lines : List LV
  pv : Value
  lv : Value
def BV.cells (b : BV) : List Value := [.int .i64 (b.first : Int), b.pv, b.lv]
def cellsB (bs : List BV) : List Value := bs.flatMap BV.cells
def BV.g (b : BV) : BlockG := ⟨b.first, b.phis.map (·.p), b.lines.map (·.l)⟩
/-- A block whose rows lie below c. -/
structure BV.ok (w : World) (c : Nat) (b : BV) : Prop where
  phis : RdB w c 114 3 b.pv b.phis.length (cellsP b.phis)
  lines : RdB w c 117 6 b.lv b.lines.length (cellsL b.lines)
  phi : ∀ x ∈ b.phis, x.ok w
  line : ∀ x ∈ b.lines, x.ok w

theorem flat_len {α : Type} (f : α → List Value) (k : Nat) (hf : ∀ x, (f x).length = k) (l : List α) : (l.flatMap f).length = l.length * k := by
  induction l with
  | nil => simp
  | cons x r ih => simp [ih, hf, Nat.add_mul]; omega
theorem cellsB_length (l : List BV) : (cellsB l).length = l.length * 3 := flat_len _ 3 (fun _ => rfl) l
theorem flat_get {α : Type} (f : α → List Value) (k : Nat) (hf : ∀ x, (f x).length = k) : ∀ (l : List α) (i j : Nat) (h : i < l.length), j < k → (l.flatMap f)[i * k + j]? = (f l[i])[j]?
  | [], i, j, h, _ => by simp at h
  | x :: r, 0, j, h, hj => by
    simp only [List.flatMap_cons, Nat.zero_mul, Nat.zero_add, List.getElem_cons_zero]
    rw [List.getElem?_append_left (by rw [hf]; exact hj)]
  | x :: r, i + 1, j, h, hj => by
    simp only [List.flatMap_cons, List.getElem_cons_succ]
    rw [List.getElem?_append_right (by rw [hf, Nat.add_mul]; omega), hf, ← flat_get f k hf r i j (by simpa using h) hj]
    congr 1
    rw [Nat.add_mul]
    omega
theorem cellsB_get {l : List BV} {i j : Nat} (h : i < l.length) (hj : j < 3) : (cellsB l)[i * 3 + j]? = (l[i].cells)[j]? := flat_get _ 3 (fun _ => rfl) l i j h hj
theorem cellsL_get {l : List LV} {i j : Nat} (h : i < l.length) (hj : j < 6) : (cellsL l)[i * 6 + j]? = (l[i].cells)[j]? := flat_get _ 6 (fun _ => rfl) l i j h hj
theorem cellsP_get {l : List PV} {i j : Nat} (h : i < l.length) (hj : j < 3) : (cellsP l)[i * 3 + j]? = (l[i].cells)[j]? := flat_get _ 3 (fun _ => rfl) l i j h hj
theorem choice_get {l : List (Nat × Ver)} {i j : Nat} (h : i < l.length) (hj : j < 3) : (choiceCells l)[i * 3 + j]? = [Value.int .i64 ((l[i].1 : Nat) : Int), .string l[i].2.1, .int .i64 ((l[i].2.2 : Nat) : Int)][j]? := flat_get _ 3 (fun _ => rfl) l i j h hj
theorem cellsL_append (a b : List LV) : cellsL (a ++ b) = cellsL a ++ cellsL b := by simp [cellsL]
theorem cellsB_append (a b : List BV) : cellsB (a ++ b) = cellsB a ++ cellsB b := by simp [cellsB]
theorem cellsP_append (a b : List PV) : cellsP (a ++ b) = cellsP a ++ cellsP b := by simp [cellsP]

section
variable {w w' : World} {c c' : Nat}
theorem RdB.keep {t : TypeId} {size : Nat} {v : Value} {n : Nat} {xs : List Value} (h : RdB w c t size v n xs) (hb : Below c w w') : RdB w' c t size v n xs := by
  refine ⟨?_, h.2⟩
  obtain ⟨hl, ao, cap, rfl, hc, hr⟩ := h.1
  refine ⟨hl, ao, cap, rfl, hc, ?_⟩
  rcases hr with hr | ⟨g, off, cur, fr, rfl, hg, hx⟩
  · exact .inl hr
  · exact .inr ⟨g, off, cur, fr, rfl, (hb.block g (h.2 g rfl)).trans hg, hx⟩
theorem RdB.mono {t : TypeId} {size : Nat} {v : Value} {n : Nat} {xs : List Value} (h : RdB w c t size v n xs) (hc : c ≤ c') : RdB w c' t size v n xs := ⟨h.1, fun g hg => Nat.lt_of_lt_of_le (h.2 g hg) hc⟩
theorem OwnS.rdB {base : Nat} {t : TypeId} {size : Nat} {v : Value} {n : Nat} {xs : List Value} (h : OwnS w base t size v n xs) : RdB w w.heap.size t size v n xs := ⟨h.rdT, fun g hg => (h.lt g hg).2⟩
theorem LV.ok.keep {x : LV} (h : x.ok w) (h1 : Keeps 111 w w') (h2 : Keeps 3 w w') : x.ok w' := ⟨h.1.keep h1, h.2.1.keep h2, h.2.2⟩
theorem PV.ok.keep {x : PV} (h : x.ok w) (h1 : Keeps 163 w w') : x.ok w' := ⟨h.1.keep h1, h.2⟩
theorem BV.ok.keep {b : BV} (h : b.ok w c) (hb : Below c w w') (h1 : Keeps 111 w w') (h2 : Keeps 3 w w') (h3 : Keeps 163 w w') : b.ok w' c :=
  ⟨h.phis.keep hb, h.lines.keep hb, fun x hx => (h.phi x hx).keep h3, fun x hx => (h.line x hx).keep h1 h2⟩
theorem BV.ok.mono {b : BV} (h : b.ok w c) (hc : c ≤ c') : b.ok w c' := ⟨h.phis.mono hc, h.lines.mono hc, h.phi, h.line⟩
end

/-- All of it, for reading. -/
structure ProgIn (w : World) (av bv : Value) (A : List Ver) (B : List BV) : Prop where
  args : RdT w 111 2 av A.length (vers A)
  anil : A = [] → av = .slice none 0 0
  rows : RdT w 109 3 bv B.length (cellsB B)
  blocks : ∀ b ∈ B, b.ok w w.heap.size
theorem ProgIn.below {w w' : World} {av bv : Value} {A : List Ver} {B : List BV} (h : ProgIn w av bv A B) (hb : Below w.heap.size w w') : ProgIn w' av bv A B :=
  ⟨h.args.below hb, h.anil, h.rows.below hb, fun b hx => ((h.blocks b hx).keep hb (Keeps.of_below hb) (Keeps.of_below hb) (Keeps.of_below hb)).mono hb.size⟩

end Go.Proofs.YtbddcodljmglfaaGreatDoor

namespace Go.Proofs.YtbddcodljmglfaaGreatDoor
open Go.RowKit

attribute [local go_sem ↓] run_execOp_append

theorem infoLine : (Tryz.prog.info? 117).map (fun i => (i.zero, i.size, i.bytes)) = some (some (.agg #[.int .i64 0, .string ByteArray.empty, .int .i64 0, .slice none 0 0, .int .i64 0, .slice none 0 0]), 6, 88) := by kernel_rfl

/-- The open block, in the row of blocks. -/
structure OpenB (w : World) (c gB offB : Nat) (b : BV) : Prop where
  blk : ∃ cur, w.heap[gB]? = some (.cells cur 109 (0, 0)) ∧ ∀ j u, b.cells[j]? = some u → cur[offB + j]? = some u
  phis : OwnS w c 114 3 b.pv b.phis.length (cellsP b.phis)
  lines : OwnS w c 117 6 b.lv b.lines.length (cellsL b.lines)
  phi : ∀ x ∈ b.phis, x.ok w
  line : ∀ x ∈ b.lines, x.ok w
theorem OpenB.below {w w' : World} {c gB offB : Nat} {b : BV} (h : OpenB w c gB offB b) (hb : Below w.heap.size w w') : OpenB w' c gB offB b := by
  obtain ⟨⟨cur, h1, h2⟩, h3, h4, h5, h6⟩ := h
  exact ⟨⟨cur, (hb.block _ (blk_lt h1)).trans h1, h2⟩, h3.of_block fun k hk => hb.block _ (h3.lt k hk).2, h4.of_block fun k hk => hb.block _ (h4.lt k hk).2, fun x hx => (h5 x hx).keep (Keeps.of_below hb), fun x hx => (h6 x hx).keep (Keeps.of_below hb) (Keeps.of_below hb)⟩

theorem lineOf_word {tg : Nat} {ws : List BA} {l : LineG} (h : lineOf tg ws = some l) : l.word < 10 := by
  cases ws with
  | nil => simp [lineOf] at h
  | cons x r =>
    simp only [lineOf] at h
    split at h
    · rename_i k hk
      have aux : ∀ (ps : List Nat) (bs : List BA) (a b : LineG), fillG tg ps bs a = some b → b.word = a.word := by
        intro ps
        induction ps with
        | nil =>
          intro bs a b h
          cases bs with
          | nil => simp [fillG] at h; rw [h]
          | cons y ys => simp [fillG] at h
        | cons p ps ih =>
          intro bs a b h
          cases bs with
          | nil => simp [fillG] at h
          | cons y ys =>
            simp only [fillG] at h
            split at h
            · rename_i l2 h2
              rw [ih ys l2 b h]
              unfold addPart at h2
              repeat' split at h2
              all_goals first | (injection h2 with h2; subst h2; rfl) | cases h2
            · cases h
      rw [aux _ _ _ _ h]
      exact kindOf_lt hk
    · cases h
theorem one6 {a b c d e f : Value} (h1 : a.oneCell' = true) (h2 : b.oneCell' = true) (h3 : c.oneCell' = true) (h4 : d.oneCell' = true) (h5 : e.oneCell' = true) (h6 : f.oneCell' = true) : ∀ u ∈ [a, b, c, d, e, f], u.oneCell' = true := by
  intro u hu
  simp at hu
  rcases hu with rfl | rfl | rfl | rfl | rfl | rfl <;> assumption

/-- What goOn leaves of the row of blocks, and of the rest. -/
structure Went (w w' : World) (c gB offB : Nat) (b : BV) (b' : BV) : Prop where
  opn : OpenB w' c gB offB b'
  row : ∃ cur i u, w.heap[gB]? = some (.cells cur 109 (0, 0)) ∧ w'.heap[gB]? = some (.cells (cur.setIfInBounds (offB + i) u) 109 (0, 0)) ∧ i < 3 ∧ b'.cells = b.cells.set i u
  grew : Grew w w' (fun k => k = gB ∨ b.lv.ownBlock = some k ∨ b.pv.ownBlock = some k)
  first : b'.first = b.first

end Go.Proofs.YtbddcodljmglfaaGreatDoor

namespace Go.Proofs.YtbddcodljmglfaaGreatDoor
open Go.RowKit

def IsSl (v : Value) : Prop := ∃ ao n cp, v = .slice ao n cp
theorem argsOf_cutsN (tg : Nat) (s : BA) : argsOf tg (cutsN 32 6 s) = argsOf tg (cuts 32 s) := by
  by_cases h : (cuts 32 s).length ≤ 6
  · rw [cutsN_eq 32 6 s (by omega) h]
  · have h1 := cutsN_few 32 6 s (by omega) (by omega)
    have no : ∀ ws : List BA, 6 ≤ ws.length → argsOf tg ws = none := by
      intro ws hw
      cases ws with
      | nil => simp at hw
      | cons x r =>
        simp only [argsOf]
        rw [if_neg]
        simp at hw
        omega
    rw [no _ (by omega), no _ (by omega)]

set_option maxRecDepth 100000 in
set_option maxHeartbeats 8000000 in
theorem args_some (w : World) (base0 : Nat) (tg : Nat) (htg : tg = 0 ∨ tg = 1) (s : BA) (hs : s.size ≤ 4294967280) (hE : Env base0 w) (x0 : BA) (L' : List BA) (hL : cutsN 32 6 s = x0 :: L') (hx0 : ByteArray.toList x0 = [97, 114, 103, 115]) (h4 : L'.length ≤ 4) :
    Calls Tryz.prog 126 #[.string s, .int .i64 (tg : Int)] w fun e w' => (∃ v, e = .returned (.tuple #[v, .bool (argsGo tg [] L').isSome]) ∧ IsSl v ∧ ∀ A, argsGo tg [] L' = some A → OwnS w' w.heap.size 111 2 v A.length (vers A) ∧ (A = [] → v = .slice none 0 0)) ∧ Below w.heap.size w w' := by
  have HE : Hid (Env base0 w) := hE
  have hsz0 := cutsN_size 6 s
  rw [hL] at hsz0
  have HSZ : Hid (∀ x ∈ L', x.size ≤ 4294967280) := fun x hx => Nat.le_trans (hsz0 x (by simp [hx])) hs
  obtain ⟨N, hN⟩ : ∃ N, N = L'.length := ⟨_, rfl⟩
  have HN : Hid (N = L'.length) := hN
  have HC : Hid (∀ w1, Env base0 w1 → Calls Tryz.prog 158 #[.string s, .int .i64 4] w1 fun e w' => ∃ cap, e = .returned (.slice (some ⟨w1.heap.size, 0, none⟩) (N + 1) cap) ∧ RdT w' 9 1 (.slice (some ⟨w1.heap.size, 0, none⟩) (N + 1) cap) (N + 1) (strs (x0 :: L')) ∧ Below w1.heap.size w1 w' ∧ w1.heap.size < w'.heap.size) := by
    intro w1 h
    have := split_words w1 base0 s 4 (by omega) hs h
    rw [show 4 + 2 = 6 from rfl, hL, List.length_cons, ← hN] at this
    exact this
  have hN4 : N ≤ 4 := by omega
  clear hL hE hN hsz0 h4
  go_enter Tryz.func126, Tryz.ntmps126
  go_wp2_with (first
    | (go_at_call 158; refine (HC.out _ HE.out).mono ?_; rintro e w1 ⟨cap, rfl, hrd0, hb0, hlt0⟩; have hrd : Hid (RdT w1 9 1 (.slice (some ⟨w.heap.size, 0, none⟩) (N + 1) cap) (N + 1) (strs (x0 :: L'))) := hrd0; have hbel1 : Hid (Below w.heap.size w w1) := hb0; have hsz1 := hb0.size; obtain ⟨ao9, cap9, e9, hcap, hcl⟩ := hrd0.cell; injection e9 with e91 e92 e93; subst e93; obtain ⟨g9, off9, e94, hg9, hcl⟩ := hcl (by omega); injection (e91.trans e94) with e95; injection e95 with e96 e97; subst e96; subst e97; have c0 : w1.cell? ⟨w.heap.size, 0, none⟩ = some (.string x0) := hcl 0 _ rfl; clear hrd0 hb0 hcl hg9 e91 e94))
  · go_loopg [7, 26] N (fun g v7 v26 wr => ∃ (i : Nat) (A : List Ver), i + g = N ∧ v26 = .int .i64 i ∧ Hid (OwnS wr w.heap.size 111 2 v7 A.length (vers A)) ∧ Hid (A = [] → v7 = .slice none 0 0) ∧ A.length ≤ i ∧ Hid (argsGo tg [] L' = argsGo tg A (L'.drop i)) ∧ Hid (Below w.heap.size w wr) ∧ Hid (Keeps 9 w1 wr))
    case atStart => exact ⟨0, [], by omega, rfl, OwnS.nil _ _ _ _, fun _ => rfl, by simp, rfl, hbel1, Keeps.refl _ _⟩
    case round =>
      obtain ⟨i, A, hig, rfl, hown, hnil, hA, hgo, hbel, hkeep⟩ := hrel
      have hszr := hbel.out.size
      by_cases hiN : i < N
      · exfalso
        omega
      · have hend : Hid (argsGo tg [] L' = some A) := by
          show _ = _
          rw [hgo.out, List.drop_eq_nil_of_le (by have := HN.out; omega)]
          rfl
        go_wp2_with fail
        go_ret2
        exact ⟨⟨_, by rw [hend.out]; rfl, (by obtain ⟨ao, cp, h⟩ := hown.out.len; exact ⟨ao, _, cp, h⟩), fun A' h => by rw [hend.out] at h; injection h with h; subst h; exact ⟨hown.out, hnil.out⟩⟩, hbel.out⟩
  · go_loopg [7, 26] N (fun g v7 v26 wr => ∃ (i : Nat) (A : List Ver), i + g = N ∧ v26 = .int .i64 i ∧ Hid (OwnS wr w.heap.size 111 2 v7 A.length (vers A)) ∧ Hid (A = [] → v7 = .slice none 0 0) ∧ A.length ≤ i ∧ Hid (argsGo tg [] L' = argsGo tg A (L'.drop i)) ∧ Hid (Below w.heap.size w wr) ∧ Hid (Keeps 9 w1 wr))
    case atStart => exact ⟨0, [], by omega, rfl, OwnS.nil _ _ _ _, fun _ => rfl, by simp, rfl, hbel1, Keeps.refl _ _⟩
    case round =>
      obtain ⟨i, A, hig, rfl, hown, hnil, hA, hgo, hbel, hkeep⟩ := hrel
      have hszr := hbel.out.size
      by_cases hiN : i < N
      · have hlt' : i < L'.length := HN.out ▸ hiN
        obtain ⟨x, hx⟩ : ∃ x, L'[i] = x := ⟨_, rfl⟩
        have cx : wr.cell? ⟨w.heap.size, 1 + i, none⟩ = some (.string x) := by
          obtain ⟨ao9, cap9, e9, hcap9, hcl⟩ := (hrd.out.keep hkeep.out).cell
          obtain ⟨g9, off9, e94, hg9, hcl⟩ := hcl (by omega)
          injection e9 with e91 e92 e93
          rw [← e91] at e94
          injection e94 with e95
          injection e95 with e96 e97
          subst e96
          subst e97
          have := hcl (1 + i) (.string x) (by rw [Nat.add_comm]; simp [strs, hlt', hx])
          rw [Nat.zero_add] at this
          exact this
        have hxs : x.size ≤ 4294967280 := HSZ.out x (by rw [← hx]; exact List.getElem_mem hlt')
        have hdrop : L'.drop i = x :: L'.drop (i + 1) := by rw [List.drop_eq_getElem_cons hlt', hx]
        have hstep : Hid (argsGo tg [] L' = match readVer tg x with | some v => if v.2 = 0 ∧ verHas A v = false then argsGo tg (A ++ [v]) (L'.drop (i + 1)) else none | none => none) := by
          show _ = _
          rw [hgo.out, hdrop]
          rfl
        have HT : Hid (∀ w2, Env base0 w2 → Calls Tryz.prog 159 #[.int .i64 (tg : Int), .string x] w2 fun e w' => (∃ (a : BA) (n : Int), e = .returned (.tuple #[.agg #[.string a, .int .i64 n], .bool (readVer tg x).isSome]) ∧ ∀ v, readVer tg x = some v → a = v.1 ∧ n = (v.2 : Int)) ∧ Below w2.heap.size w2 w') := fun w2 h => tongue_any w2 base0 tg htg x hxs h
        have HER : Hid (Env base0 wr) := HE.out.keep (hbel.out.mono HE.out.size)
        have hi1 : (0 : Int) ≤ (i : Int) := by omega
        have hi2 : (i : Int) < (N : Int) := by omega
        clear hx hdrop hgo
        cases hv : readVer tg x with
        | none =>
          have hno : Hid (argsGo tg [] L' = none) := by
            show _ = _
            rw [hstep.out, hv]
          rw [hv] at HT
          go_wp2_with (first | (go_at_call 159; refine (HT.out _ HER.out).mono ?_; rintro e w5 ⟨⟨a, n, rfl, -⟩, hb5⟩; have hb : Hid _ := hb5; clear hb5))
          go_ret2
          exact ⟨⟨_, by rw [hno.out]; rfl, ⟨_, _, _, rfl⟩, fun A' h => by rw [hno.out] at h; cases h⟩, (hbel.out.trans (hb.out.mono hszr)).alloc (by have := hb.out.size; omega) _⟩
        | some v =>
          obtain ⟨va, vn⟩ := v
          rw [hv] at HT
          by_cases hvn : vn = 0
          · subst hvn
            have HCC : Hid (∀ w2 v7, RdT w2 111 2 v7 A.length (vers A) → Calls Tryz.prog 84 #[v7, .agg #[.string va, .int .i64 ((0 : Nat) : Int)]] w2 fun e w' => e = .returned (.bool (verHas A (va, 0))) ∧ Below w2.heap.size w2 w') := fun w2 v7 h => contains_any w2 v7 A (va, 0) h (by omega)
            obtain ⟨ao7, cp7, rfl⟩ := hown.out.len
            cases hcon : verHas A (va, 0) with
            | true =>
              rw [hcon] at HCC
              have hno : Hid (argsGo tg [] L' = none) := by
                show _ = _
                rw [hstep.out, hv]
                simp [hcon]
              go_wp2_with (first
                | (go_at_call 159; refine (HT.out _ HER.out).mono ?_; rintro e w5 ⟨⟨a, n, rfl, ha⟩, hb5⟩; obtain ⟨rfl, rfl⟩ := ha _ rfl; have hb : Hid (Below wr.heap.size wr w5) := hb5; clear hb5 ha)
                | (go_at_call 84; refine (HCC.out _ _ ((hown.out.of_block (fun k hk => hb.out.block _ (hown.out.lt k hk).2)).alloc _).rdT).mono ?_; rintro e w6 ⟨rfl, hb6⟩; have hbb : Hid _ := hb6; clear hb6))
              go_ret2
              exact ⟨⟨_, by rw [hno.out]; rfl, ⟨_, _, _, rfl⟩, fun A' h => by rw [hno.out] at h; cases h⟩, (((hbel.out.trans (hb.out.mono hszr)).alloc (by have := hb.out.size; omega) _).trans (hbb.out.mono (by have := hb.out.size; simp; omega)))⟩
            | false =>
              rw [hcon] at HCC
              have hnext : Hid (argsGo tg [] L' = argsGo tg (A ++ [(va, 0)]) (L'.drop (i + 1))) := by
                show _ = _
                rw [hstep.out, hv]
                simp [hcon]
              obtain ⟨i0, hi, hz0, hz1, hz2⟩ := info_parts infoVersion
              go_wp2_with (first
                | (go_at_call 159; refine (HT.out _ HER.out).mono ?_; rintro e w5 ⟨⟨a, n, rfl, ha⟩, hb5⟩; obtain ⟨rfl, rfl⟩ := ha _ rfl; have hb : Hid (Below wr.heap.size wr w5) := hb5; clear hb5 ha)
                | (go_at_call 84; refine (HCC.out _ _ ((hown.out.of_block (fun k hk => hb.out.block _ (hown.out.lt k hk).2)).alloc _).rdT).mono ?_; rintro e w6 ⟨rfl, hb6⟩; obtain ⟨p0, p1, -, -, -, -, -, hs6⟩ := var2_after hb6; have hbb : Hid (Below w5.heap.size w5 w6) := ((Below.refl _ _).alloc (Nat.le_refl _) _).trans (hb6.mono (by simp)); have HO6 : Hid (OwnS w6 w.heap.size 111 2 (.slice ao7 A.length cp7) A.length (vers A)) := hown.out.of_block (fun k hk => (hbb.out.block _ (by have := (hown.out.lt k hk).2; have := hb.out.size; omega)).trans (hb.out.block _ (hown.out.lt k hk).2)); have hs5 := hb.out.size; clear hb6)
                | (at_builtin; refine wpList_append_ownS _ rfl _ _ 49 rfl w.heap.size 111 i0 _ 2 24 Tryz.underlying49 hi hz0 hz1 hz2 rfl (by decide) _ _ _ rfl (HO6.out.alloc _) ⟨w6.heap.size, 0, none⟩ 1 1 [.string a, .int .i64 0] rfl rfl (cell_newL _ [_, _] _ _ rfl) (one2 rfl rfl) (by decide) (by unfold maxLen; omega) (by omega) (by simp; omega) ?_; intro g' off' cap' w7 hown7 hgrow7 hloc7 hlt7))
              go_roundg (N - (i + 1))
              case measure => omega
              case rel =>
                refine ⟨i + 1, A ++ [(a, 0)], by omega, by go_num, ?_, (by intro h; simp at h), by simp; omega, hnext, ?_, ?_⟩
                · show OwnS _ _ _ _ _ _ _
                  rw [vers_append, List.length_append]
                  exact hown7
                · exact (hbel.out.trans (hb.out.mono hszr)).trans ((hbb.out.mono (by omega)).trans (grown_below HO6.out hgrow7 (by omega)))
                · exact (hkeep.out.trans (Keeps.of_below hb.out)).trans ((Keeps.of_below hbb.out).trans (grown_keeps HO6.out hgrow7 (by decide)))
          · have hno : Hid (argsGo tg [] L' = none) := by
              show _ = _
              rw [hstep.out, hv]
              simp [hvn]
            have hvn' : ¬ (vn : Int) = 0 := by omega
            go_wp2_with (first | (go_at_call 159; refine (HT.out _ HER.out).mono ?_; rintro e w5 ⟨⟨a, n, rfl, ha⟩, hb5⟩; obtain ⟨rfl, rfl⟩ := ha _ rfl; have hb : Hid (Below wr.heap.size wr w5) := hb5; clear hb5 ha))
            go_ret2
            exact ⟨⟨_, by rw [hno.out]; rfl, ⟨_, _, _, rfl⟩, fun A' h => by rw [hno.out] at h; cases h⟩, (hbel.out.trans (hb.out.mono hszr)).alloc (by have := hb.out.size; omega) _⟩
      · have hend : Hid (argsGo tg [] L' = some A) := by
          show _ = _
          rw [hgo.out, List.drop_eq_nil_of_le (by have := HN.out; omega)]
          rfl
        go_wp2_with fail
        go_ret2
        exact ⟨⟨_, by rw [hend.out]; rfl, (by obtain ⟨ao, cp, h⟩ := hown.out.len; exact ⟨ao, _, cp, h⟩), fun A' h => by rw [hend.out] at h; injection h with h; subst h; exact ⟨hown.out, hnil.out⟩⟩, hbel.out⟩

set_option maxRecDepth 100000 in
set_option maxHeartbeats 8000000 in
theorem args_none (w : World) (base0 : Nat) (tg : Nat) (s : BA) (hs : s.size ≤ 4294967280) (hE : Env base0 w) (x0 : BA) (L' : List BA) (hL : cutsN 32 6 s = x0 :: L') (hno : ¬ (ByteArray.toList x0 = [97, 114, 103, 115] ∧ L'.length ≤ 4)) :
    Calls Tryz.prog 126 #[.string s, .int .i64 (tg : Int)] w fun e w' => (∃ v, e = .returned (.tuple #[v, .bool false]) ∧ IsSl v) ∧ Below w.heap.size w w' := by
  have HE : Hid (Env base0 w) := hE
  have hlen := cutsN_len 6 s (by omega)
  rw [hL] at hlen
  obtain ⟨N, hN⟩ : ∃ N, N = L'.length := ⟨_, rfl⟩
  have HC : Hid (∀ w1, Env base0 w1 → Calls Tryz.prog 158 #[.string s, .int .i64 4] w1 fun e w' => ∃ cap, e = .returned (.slice (some ⟨w1.heap.size, 0, none⟩) (N + 1) cap) ∧ RdT w' 9 1 (.slice (some ⟨w1.heap.size, 0, none⟩) (N + 1) cap) (N + 1) (strs (x0 :: L')) ∧ Below w1.heap.size w1 w' ∧ w1.heap.size < w'.heap.size) := by
    intro w1 h
    have := split_words w1 base0 s 4 (by omega) hs h
    rw [show 4 + 2 = 6 from rfl, hL, List.length_cons, ← hN] at this
    exact this
  have hN5 : N ≤ 5 := by simp at hlen; omega
  rw [← hN] at hno
  clear hL hE hN hlen
  by_cases hx0 : ByteArray.toList x0 = [97, 114, 103, 115]
  · have hN' : N = 5 := by
      rcases Nat.lt_or_ge 4 N with h | h
      · omega
      · exact absurd ⟨hx0, h⟩ hno
    subst hN'
    clear hno
    go_enter Tryz.func126, Tryz.ntmps126
    go_wp2_with (first
      | (go_at_call 158; refine (HC.out _ HE.out).mono ?_; rintro e w1 ⟨cap, rfl, hrd0, hb0, hlt0⟩; have hbel1 : Hid (Below w.heap.size w w1) := hb0; obtain ⟨ao9, cap9, e9, hcap, hcl⟩ := hrd0.cell; injection e9 with e91 e92 e93; subst e93; obtain ⟨g9, off9, e94, hg9, hcl⟩ := hcl (by omega); injection (e91.trans e94) with e95; injection e95 with e96 e97; subst e96; subst e97; have c0 : w1.cell? ⟨w.heap.size, 0, none⟩ = some (.string x0) := hcl 0 _ rfl; clear hrd0 hb0 hcl hg9 e91 e94))
    go_ret2
    exact ⟨⟨_, rfl, ⟨_, _, _, rfl⟩⟩, hbel1.out⟩
  · have hx9 : (ByteArray.toList x0 == [97, 114, 103, 115]) = false := by simpa using hx0
    clear hno
    go_enter Tryz.func126, Tryz.ntmps126
    go_wp2_with (first
      | (go_at_call 158; refine (HC.out _ HE.out).mono ?_; rintro e w1 ⟨cap, rfl, hrd0, hb0, hlt0⟩; have hbel1 : Hid (Below w.heap.size w w1) := hb0; obtain ⟨ao9, cap9, e9, hcap, hcl⟩ := hrd0.cell; injection e9 with e91 e92 e93; subst e93; obtain ⟨g9, off9, e94, hg9, hcl⟩ := hcl (by omega); injection (e91.trans e94) with e95; injection e95 with e96 e97; subst e96; subst e97; have c0 : w1.cell? ⟨w.heap.size, 0, none⟩ = some (.string x0) := hcl 0 _ rfl; clear hrd0 hb0 hcl hg9 e91 e94))
    go_ret2
    exact ⟨⟨_, rfl, ⟨_, _, _, rfl⟩⟩, hbel1.out⟩

/-- An args line. -/
theorem args_any (w : World) (base0 : Nat) (tg : Nat) (htg : tg = 0 ∨ tg = 1) (s : BA) (hs : s.size ≤ 4294967280) (hE : Env base0 w) :
    Calls Tryz.prog 126 #[.string s, .int .i64 (tg : Int)] w fun e w' => (∃ v, e = .returned (.tuple #[v, .bool (argsOf tg (cuts 32 s)).isSome]) ∧ IsSl v ∧ ∀ A, argsOf tg (cuts 32 s) = some A → OwnS w' w.heap.size 111 2 v A.length (vers A) ∧ (A = [] → v = .slice none 0 0)) ∧ Below w.heap.size w w' := by
  rw [← argsOf_cutsN]
  have hlen := cutsN_len 6 s (by omega)
  cases hL : cutsN 32 6 s with
  | nil => rw [hL] at hlen; simp at hlen
  | cons x0 L' =>
    by_cases hc : ByteArray.toList x0 = [97, 114, 103, 115] ∧ L'.length ≤ 4
    · have e : argsOf tg (x0 :: L') = argsGo tg [] L' := by simp only [argsOf]; rw [if_pos hc]
      rw [e]
      exact args_some w base0 tg htg s hs hE x0 L' hL hc.1 hc.2
    · have e : argsOf tg (x0 :: L') = none := by simp only [argsOf]; rw [if_neg hc]
      rw [e]
      refine (args_none w base0 tg s hs hE x0 L' hL hc).mono ?_
      rintro e' w' ⟨⟨v, rfl, hv⟩, hb⟩
      exact ⟨⟨v, rfl, hv, fun l h => by cases h⟩, hb⟩

end Go.Proofs.YtbddcodljmglfaaGreatDoor

namespace Go.Proofs.YtbddcodljmglfaaGreatDoor
open Go.RowKit

theorem aggProg : AggT 52 2 [.slice none 0 0, .slice none 0 0] := ⟨⟨_, Tryz.underlying52, rfl⟩, by kernel_rfl, by kernel_rfl, rfl⟩

theorem infoBlock : (Tryz.prog.info? 109).map (fun i => (i.zero, i.size, i.bytes)) = some (some (.agg #[.int .i64 0, .slice none 0 0, .slice none 0 0]), 3, 56) := by kernel_rfl

/-- The program while it is read: H, H + 1, H + 2 are the boxes of the kind, of the result, and of the program. -/
structure RA (w wr : World) (H ln bl tg : Nat) (A : List Ver) (B0 : List BV) (cur : Option BV) (av bv : Value) (c : Nat) : Prop where
  kb : BoxIn wr H 73 [.int .i64 (ln : Int), .int .i64 (bl : Int), .int .i64 (tg : Int)]
  rb : BoxIn wr (H + 1) 52 [.slice none 0 0, .slice none 0 0]
  pb : BoxIn wr (H + 1 + 1) 52 [av, bv]
  args : RdB wr c 111 2 av A.length (vers A)
  anil : A = [] → av = .slice none 0 0
  rows : OwnS wr (H + 3) 109 3 bv (B0 ++ cur.toList).length (cellsB (B0 ++ cur.toList))
  closed : ∀ b ∈ B0, b.ok wr c
  opn : ∀ b, cur = some b → ∃ gB off cap, bv = .slice (some ⟨gB, off, none⟩) (B0.length + 1) cap ∧ OpenB wr c gB (off + B0.length * 3) b
  lo : H + 3 ≤ c
  hi : c ≤ wr.heap.size
  bel : Below H w wr
  keep : Keeps 9 w wr

section
variable {w wr w' : World} {H ln bl tg : Nat} {A : List Ver} {B0 : List BV} {cur : Option BV} {av bv : Value} {c : Nat}

theorem RA.below (h : RA w wr H ln bl tg A B0 cur av bv c) (hb : Below wr.heap.size wr w') : RA w w' H ln bl tg A B0 cur av bv c := by
  have hH : H ≤ wr.heap.size := by have := h.lo; have := h.hi; omega
  refine ⟨h.kb.below hb, h.rb.below hb, h.pb.below hb, h.args.keep (hb.mono h.hi), h.anil, h.rows.of_block fun k hk => hb.block _ (h.rows.lt k hk).2, fun b hx => (h.closed b hx).keep (hb.mono h.hi) (Keeps.of_below hb) (Keeps.of_below hb) (Keeps.of_below hb), fun b hx => ?_, h.lo, Nat.le_trans h.hi hb.size, h.bel.trans (hb.mono hH), h.keep.trans (Keeps.of_below hb)⟩
  obtain ⟨gB, off, cap, h1, h2⟩ := h.opn b hx
  exact ⟨gB, off, cap, h1, h2.below hb⟩
theorem RdT.setCell {t t' : TypeId} {size : Nat} {v : Value} {n : Nat} {xs : List Value} (h : RdT w t size v n xs) {b i : Nat} {cs : Array Value} {fr : Nat × Nat} (hb : w.heap[b]? = some (.cells cs t' fr)) (hne : t ≠ t') (u : Value) : RdT (w.setCell ⟨b, i, none⟩ u) t size v n xs := h.keep ((Keeps.refl t w).setCell hb hne u)
theorem RdB.setCell {t t' : TypeId} {size : Nat} {v : Value} {n : Nat} {xs : List Value} (h : RdB w c t size v n xs) {b i : Nat} {cs : Array Value} {fr : Nat × Nat} (hb : w.heap[b]? = some (.cells cs t' fr)) (hne : t ≠ t') (u : Value) : RdB (w.setCell ⟨b, i, none⟩ u) c t size v n xs := ⟨h.1.setCell hb hne u, h.2⟩

/-- A store into the box of the program. -/
theorem RA.store (h : RA w wr H ln bl tg A B0 cur av bv c) (i : Nat) (u : Value) :
    BoxIn (wr.setCell ⟨H + 1 + 1, i, none⟩ u) H 73 [.int .i64 (ln : Int), .int .i64 (bl : Int), .int .i64 (tg : Int)] ∧ BoxIn (wr.setCell ⟨H + 1 + 1, i, none⟩ u) (H + 1) 52 [.slice none 0 0, .slice none 0 0] ∧
    BoxIn (wr.setCell ⟨H + 1 + 1, i, none⟩ u) (H + 1 + 1) 52 ([av, bv].set i u) ∧ Below H w (wr.setCell ⟨H + 1 + 1, i, none⟩ u) ∧ Keeps 9 w (wr.setCell ⟨H + 1 + 1, i, none⟩ u) := by
  refine ⟨h.kb.of_block (Below.heap_setCell _ _ _ _ (by show H ≠ H + 1 + 1; omega)), h.rb.of_block (Below.heap_setCell _ _ _ _ (by show H + 1 ≠ H + 1 + 1; omega)), ?_, h.bel.setCell (by show H ≤ H + 1 + 1; omega) _, h.keep.setCell h.pb (by decide) _⟩
  show (wr.setCell ⟨H + 1 + 1, i, none⟩ u).heap[H + 1 + 1]? = _
  rw [set_block h.pb]
  simp

/-- The args line is read. -/
theorem RA.setArgs (h : RA w wr H ln bl tg [] [] none av bv c) (hb : Below wr.heap.size wr w') {A : List Ver} {av' : Value} (ho : OwnS w' wr.heap.size 111 2 av' A.length (vers A)) (hnil : A = [] → av' = .slice none 0 0) :
    RA w (w'.setCell ⟨H + 1 + 1, 0, none⟩ av') H ln bl tg A [] none av' bv w'.heap.size := by
  have h1 := h.below hb
  obtain ⟨s1, s2, s3, s4, s5⟩ := h1.store 0 av'
  refine ⟨s1, s2, s3, (ho.rdB).setCell h1.pb (by decide) _, hnil, h1.rows.set_other h1.pb (by decide) _, by simp, by simp, ?_, by simp [World.setCell], s4, s5⟩
  have := h1.lo
  have := h1.hi
  omega

/-- The open block has ended. -/
theorem RA.close {b : BV} (h : RA w wr H ln bl tg A B0 (some b) av bv c) : RA w wr H ln bl tg A (B0 ++ [b]) none av bv wr.heap.size := by
  obtain ⟨gB, off, cap, h1, h2⟩ := h.opn b rfl
  refine ⟨h.kb, h.rb, h.pb, h.args.mono h.hi, h.anil, by simpa using h.rows, fun x hx => ?_, by simp, Nat.le_trans h.lo h.hi, Nat.le_refl _, h.bel, h.keep⟩
  rcases List.mem_append.1 hx with hx | hx
  · exact (h.closed x hx).mono h.hi
  · rw [List.mem_singleton] at hx
    subst hx
    exact ⟨h2.phis.rdB, h2.lines.rdB, h2.phi, h2.line⟩

/-- A new block. -/
theorem RA.fresh (h : RA w wr H ln bl tg A B0 none av bv c) {o : Obj} {gN offN capN k : Nat} (hown : OwnS w' (H + 3) 109 3 (.slice (some ⟨gN, offN, none⟩) (B0.length + 1) capN) (B0.length + 1) (cellsB B0 ++ [.int .i64 (k : Int), .slice none 0 0, .slice none 0 0]))
    (hg : (wr.alloc o).grownBy w' bv.ownBlock) :
    RA w (w'.setCell ⟨H + 1 + 1, 1, none⟩ (.slice (some ⟨gN, offN, none⟩) (B0.length + 1) capN)) H ln bl tg A B0 (some ⟨k, [], [], .slice none 0 0, .slice none 0 0⟩) av (.slice (some ⟨gN, offN, none⟩) (B0.length + 1) capN) w'.heap.size := by
  have hr : OwnS wr (H + 3) 109 3 bv B0.length (cellsB B0) := by simpa using h.rows
  have hlo := h.lo
  have hhi := h.hi
  have hsz := hg.size
  simp at hsz
  have kp : ∀ t, 109 ≠ t → Keeps t wr w' := fun t ht => grown_keeps hr hg ht
  have hbel3 : Below (H + 3) wr w' := grown_below hr hg (by omega)
  have pb' : BoxIn w' (H + 1 + 1) 52 [av, bv] := h.pb.of_block (hbel3.block _ (by omega))
  have h1 : RA w w' H ln bl tg A [] none av (.slice none 0 0) c ∨ True := .inr trivial
  clear h1
  have kb' : BoxIn w' H 73 [.int .i64 (ln : Int), .int .i64 (bl : Int), .int .i64 (tg : Int)] := h.kb.of_block (hbel3.block _ (by omega))
  have rb' : BoxIn w' (H + 1) 52 [.slice none 0 0, .slice none 0 0] := h.rb.of_block (hbel3.block _ (by omega))
  have keepB : ∀ t, 52 ≠ t → 109 ≠ t → Keeps t wr (w'.setCell ⟨H + 1 + 1, 1, none⟩ (.slice (some ⟨gN, offN, none⟩) (B0.length + 1) capN)) := fun t h1 h2 => (kp t h2).setCell pb' (Ne.symm h1) _
  refine ⟨kb'.of_block (Below.heap_setCell _ _ _ _ (by show H ≠ H + 1 + 1; omega)), rb'.of_block (Below.heap_setCell _ _ _ _ (by show H + 1 ≠ H + 1 + 1; omega)), ?_, ?_, h.anil, ?_, fun b hx => ?_, fun b hx => ?_, by omega, by simp [World.setCell], (h.bel.trans (hbel3.mono (by omega))).setCell (by show H ≤ H + 1 + 1; omega) _, h.keep.trans (keepB _ (by decide) (by decide))⟩
  · show (w'.setCell ⟨H + 1 + 1, 1, none⟩ _).heap[H + 1 + 1]? = _
    rw [set_block pb']
    simp
  · exact ⟨h.args.1.keep (keepB _ (by decide) (by decide)), fun g hg' => by have := h.args.2 g hg'; omega⟩
  · have := hown.set_other (i := 1) pb' (by decide) (.slice (some ⟨gN, offN, none⟩) (B0.length + 1) capN)
    simp only [Option.toList_some, List.length_append, cellsB_append]
    exact this
  · have hb := h.closed b hx
    exact ⟨⟨hb.phis.1.keep (keepB _ (by decide) (by decide)), fun g hg' => by have := hb.phis.2 g hg'; omega⟩, ⟨hb.lines.1.keep (keepB _ (by decide) (by decide)), fun g hg' => by have := hb.lines.2 g hg'; omega⟩, fun x hx => (hb.phi x hx).keep (keepB _ (by decide) (by decide)), fun x hx => (hb.line x hx).keep (keepB _ (by decide) (by decide)) (keepB _ (by decide) (by decide))⟩
  · injection hx with hx
    subst hx
    refine ⟨gN, offN, capN, rfl, ?_, OwnS.nil _ _ _ _, OwnS.nil _ _ _ _, by simp, by simp⟩
    have ho := hown.set_other (i := 1) pb' (by decide) (.slice (some ⟨gN, offN, none⟩) (B0.length + 1) capN)
    rcases ho.2 with ⟨h1, -⟩ | ⟨g, off, cp, cr, h1, -, h2, -, -, -, h3⟩
    · cases h1
    · injection h1 with h1
      injection h1 with h1
      injection h1 with h1 h1'
      subst h1
      subst h1'
      refine ⟨cr, h2, fun j u hj => ?_⟩
      rw [Nat.add_assoc]
      apply h3
      rw [List.getElem?_append_right (by rw [cellsB_length]; omega), cellsB_length]
      rw [show B0.length * 3 + j - B0.length * 3 = j by omega]
      exact hj

/-- A line was taken into the open block. -/
theorem RA.went {b b' : BV} {gB off cap : Nat} (h : RA w wr H ln bl tg A B0 (some b) (av) (.slice (some ⟨gB, off, none⟩) (B0.length + 1) cap) c) (hO : OpenB wr c gB (off + B0.length * 3) b) (hW : Went wr w' c gB (off + B0.length * 3) b b') :
    RA w w' H ln bl tg A B0 (some b') av (.slice (some ⟨gB, off, none⟩) (B0.length + 1) cap) c := by
  obtain ⟨hop, ⟨cur, i, u, hc1, hc2, hi3, hcells⟩, hgr, hfirst⟩ := hW
  have hlo := h.lo
  have hhi := h.hi
  have hgB : H + 3 ≤ gB := (h.rows.lt gB rfl).1
  have hown : ∀ k, b.lv.ownBlock = some k ∨ b.pv.ownBlock = some k → c ≤ k := by
    rintro k (hk | hk)
    · exact (hO.lines.lt k hk).1
    · exact (hO.phis.lt k hk).1
  have may_ge : ∀ k, (k = gB ∨ b.lv.ownBlock = some k ∨ b.pv.ownBlock = some k) → H + 3 ≤ k := by
    rintro k (rfl | hk)
    · exact hgB
    · have := hown k hk; omega
  -- rows of other marks stay
  have kp : ∀ t, 109 ≠ t → 117 ≠ t → 114 ≠ t → Keeps t wr w' := by
    intro t h1 h2 h3 g cr fr hg
    rw [hgr.block g ?_ (blk_lt hg)]
    · exact hg
    · rintro (rfl | hk | hk)
      · rw [hc1] at hg; injection hg with hg; injection hg with _ hg _; exact h1 hg
      · exact own_other hO.lines hg h2 g hk rfl
      · exact own_other hO.phis hg h3 g hk rfl
  have box : ∀ k, k < H + 3 → w'.heap[k]? = wr.heap[k]? := fun k hk => hgr.block k (fun hm => by have := may_ge k hm; omega) (by omega)
  -- what lies below c, in rows of lines or phis, stays
  have low : ∀ {t size v n xs}, 109 ≠ t → RdB wr c t size v n xs → RdB w' c t size v n xs := by
    intro t size v n xs ht hR
    refine ⟨?_, hR.2⟩
    obtain ⟨hl, ao, cp, rfl, hcp, hr⟩ := hR.1
    refine ⟨hl, ao, cp, rfl, hcp, ?_⟩
    rcases hr with hr | ⟨g, of, cr, fr, rfl, hg, hx⟩
    · exact .inl hr
    · refine .inr ⟨g, of, cr, fr, rfl, ?_, hx⟩
      rw [hgr.block g ?_ (blk_lt hg)]
      · exact hg
      · have hgc := hR.2 g rfl
        rintro (rfl | hk)
        · rw [hc1] at hg; injection hg with hg; injection hg with _ hg _; exact ht hg
        · have := hown g hk; omega
  refine ⟨h.kb.of_block (box _ (by omega)), h.rb.of_block (box _ (by omega)), h.pb.of_block (box _ (by omega)), low (by decide) h.args, h.anil, ?_, fun x hx => ?_, fun x hx => ?_, hlo, Nat.le_trans hhi hgr.size, h.bel.trans (hgr.below (by omega) (fun k hk => by have := may_ge k hk; omega)), h.keep.trans (kp _ (by decide) (by decide) (by decide))⟩
  · refine ⟨by rw [cellsB_length], ?_⟩
    rcases h.rows.2 with ⟨h1, -⟩ | ⟨g, of, cp, cr, h1, h2, h3, h4, h5, h6, h7⟩
    · cases h1
    · injection h1 with h1 h1a h1b
      injection h1 with h1
      injection h1 with h1 h1'
      subst h1 h1'
      subst h1b
      have hcr : cr = cur := by rw [hc1] at h3; injection h3 with h3; injection h3 with h3 _ _; exact h3.symm
      subst hcr
      refine .inr ⟨gB, off, cap, _, by simp, hgB, hc2, by simpa using h4, h5, by simpa using h6, fun j y hj => ?_⟩
      simp only [Option.toList_some, cellsB_append] at hj h7
      by_cases hj0 : j < B0.length * 3
      · rw [List.getElem?_append_left (by rw [cellsB_length]; exact hj0)] at hj
        rw [Array.getElem?_setIfInBounds_ne (by omega)]
        exact h7 j y (by rw [List.getElem?_append_left (by rw [cellsB_length]; exact hj0)]; exact hj)
      · obtain ⟨m, rfl⟩ : ∃ m, j = B0.length * 3 + m := ⟨j - B0.length * 3, by omega⟩
        have e1 : ∀ x : BV, (cellsB B0 ++ cellsB [x])[B0.length * 3 + m]? = x.cells[m]? := by
          intro x
          rw [List.getElem?_append_right (by rw [cellsB_length]; omega), cellsB_length, show B0.length * 3 + m - B0.length * 3 = m by omega]
          simp [cellsB]
        rw [e1, hcells] at hj
        by_cases him : i = m
        · subst him
          have hlen : i < b.cells.length := by show i < 3; omega
          rw [List.getElem?_set_self hlen] at hj
          injection hj with hj
          subst hj
          have hlt : off + (B0.length * 3 + i) < cr.size := by
            have := h7 (B0.length * 3 + i) (b.cells[i]) (by rw [e1]; exact List.getElem?_eq_getElem hlen)
            rcases Nat.lt_or_ge (off + (B0.length * 3 + i)) cr.size with hh | hh
            · exact hh
            · rw [Array.getElem?_eq_none hh] at this; cases this
          rw [show off + B0.length * 3 + i = off + (B0.length * 3 + i) by omega, Array.getElem?_setIfInBounds_self_of_lt hlt]
        · rw [List.getElem?_set_ne him] at hj
          rw [Array.getElem?_setIfInBounds_ne (by omega)]
          exact h7 _ y (by rw [e1]; exact hj)
  · have hb := h.closed x hx
    exact ⟨low (by decide) hb.phis, low (by decide) hb.lines, fun y hy => (hb.phi y hy).keep (kp _ (by decide) (by decide) (by decide)), fun y hy => (hb.line y hy).keep (kp _ (by decide) (by decide) (by decide)) (kp _ (by decide) (by decide) (by decide))⟩
  · injection hx with hx
    subst hx
    exact ⟨gB, off, cap, rfl, hop⟩
end

end Go.Proofs.YtbddcodljmglfaaGreatDoor
