/- How a run of a form goes; its versions renamed to their words: of no run. -/
import Derived.Test.YtbddcodljmglfaaGreatDoorDocA
import Derived.Test.YtbddcodljmglfaaGreatDoorVarsB
set_option linter.unusedSimpArgs false
set_option linter.unusedVariables false
namespace Go.Proofs.YtbddcodljmglfaaGreatDoor

def takenP (p : PhiG) (fr : Nat) : Ver := match p.choices.find? (fun c => decide (c.1 = fr)) with | some c => c.2 | none => noVer
def putAll (V : List (Ver × Int)) (l : List (Ver × Int)) : List (Ver × Int) := l.foldl (fun V x => putV V x.1 x.2) V
/-- What the variables are behind the phis of a block. -/
def meetG (V : List (Ver × Int)) (ps : List PhiG) (fr : Nat) : List (Ver × Int) := putAll V (ps.map fun p => (p.sets, getV V (takenP p fr)))
def phisAt (bs : List BlockG) (b : Nat) : List PhiG := ((bs[b]?).map (·.phis)).getD []
def runF (bs : List BlockG) : Nat → List (Ver × Int) → Nat → List LineG → List Int → RunR
  | 0, _, _, _, tr => ⟨false, 0, tr⟩
  | _ + 1, _, _, [], tr => ⟨false, 0, tr⟩
  | f + 1, V, b, l :: r, tr =>
    if l.word = 6 then runF bs f V b r (tr ++ [(takenG V l).1])
    else if l.word = 7 ∨ l.word = 8 then runF bs f (meetG V (phisAt bs (nextG l (takenG V l).1)) b) (nextG l (takenG V l).1) (linesAt bs (nextG l (takenG V l).1)) tr
    else if l.word = 9 then ⟨true, (takenG V l).1, tr⟩
    else runF bs f (putV V l.sets (reckonG l.word (takenG V l).1 (takenG V l).2)) b r tr
/-- A run's result, its error and place, of a text that may be a form. -/
noncomputable def resF (s : BA) (xs : List Int) (fuel : Int) : RunR × Nat × Nat := match formG s with
  | .error e => (⟨false, 0, []⟩, e.1, e.2)
  | .ok (A, bs) => if fuel < 0 ∨ 2000 < fuel then (⟨false, 0, []⟩, 12, 0) else (runF bs fuel.toNat (startG A xs) 0 (linesAt bs 0) [], 0, 0)

/-! A version by its word. -/
def OKV (v : Ver) : Prop := ∃ s, readVer 1 s = some v
open Classical in
noncomputable def rho (v : Ver) : Ver := if h : OKV v then (Classical.choose h, 0) else v
theorem rho_of {s : BA} {v : Ver} (h : readVer 1 s = some v) : rho v = (s, 0) := by
  have hk : OKV v := ⟨s, h⟩
  unfold rho
  rw [dif_pos hk]
  have := Classical.choose_spec hk
  rw [ver_inj this h]
theorem rho_inj {u v : Ver} (hu : OKV u) (hv : OKV v) (h : rho u = rho v) : u = v := by
  obtain ⟨s, hs⟩ := hu
  obtain ⟨t, ht⟩ := hv
  rw [rho_of hs, rho_of ht] at h
  injection h with h _
  subst h
  rw [hs] at ht
  injection ht
theorem rho_none : rho noVer = noVer := by
  unfold rho
  rw [dif_neg]
  rintro ⟨s, hs⟩
  exact ver_size hs rfl
noncomputable def renV (V : List (Ver × Int)) : List (Ver × Int) := V.map fun x => (rho x.1, x.2)
noncomputable def renL (l : LineG) : LineG := { l with sets := rho l.sets, takes := l.takes.map rho }
noncomputable def renP (p : PhiG) : PhiG := ⟨rho p.sets, p.choices.map fun c => (c.1, rho c.2)⟩
noncomputable def renB (b : BlockG) : BlockG := ⟨b.first, b.phis.map renP, b.lines.map renL⟩
def OKVs (V : List (Ver × Int)) : Prop := ∀ x ∈ V, OKV x.1

theorem get_ren {V : List (Ver × Int)} (hV : OKVs V) {v : Ver} (hv : OKV v) : getV (renV V) (rho v) = getV V v := by
  unfold getV renV
  rw [List.find?_map]
  have : V.find? ((fun x => decide (rho v = x.1)) ∘ fun x => (rho x.1, x.2)) = V.find? (fun x => decide (v = x.1)) := by
    induction V with
    | nil => rfl
    | cons a V ih =>
      have ha := hV a (by simp)
      simp only [List.find?_cons, Function.comp]
      by_cases h : v = a.1
      · rw [decide_eq_true (by rw [h]), decide_eq_true h]
      · rw [decide_eq_false (fun e => h (rho_inj hv ha e)), decide_eq_false h]
        exact ih (fun x hx => hV x (by simp [hx]))
  rw [this]
  cases V.find? (fun x => decide (v = x.1)) <;> rfl
theorem has_ren {V : List (Ver × Int)} (hV : OKVs V) {v : Ver} (hv : OKV v) : hasV (renV V) (rho v) = hasV V v := by
  rw [Bool.eq_iff_iff, hasV_iff, hasV_iff]
  unfold renV
  rw [List.map_map, List.mem_map, List.mem_map]
  constructor
  · rintro ⟨x, hx, h⟩
    exact ⟨x, hx, rho_inj (hV x hx) hv h⟩
  · rintro ⟨x, hx, h⟩
    exact ⟨x, hx, by simp [h]⟩
theorem put_ren {V : List (Ver × Int)} (hV : OKVs V) {v : Ver} (hv : OKV v) (n : Int) : putV (renV V) (rho v) n = renV (putV V v n) := by
  unfold putV
  rw [has_ren hV hv]
  split
  · unfold renV
    rw [List.map_map, List.map_map]
    apply List.map_congr_left
    intro x hx
    simp only [Function.comp]
    by_cases h : x.1 = v
    · rw [if_pos (by rw [h]), if_pos h]
    · rw [if_neg (fun e => h (rho_inj (hV x hx) hv e)), if_neg h]
  · unfold renV
    simp
theorem put_ok {V : List (Ver × Int)} (hV : OKVs V) {v : Ver} (hv : OKV v) (n : Int) : OKVs (putV V v n) := by
  unfold putV
  split
  · intro x hx
    obtain ⟨y, hy, rfl⟩ := List.mem_map.1 hx
    split
    · exact hv
    · exact hV y hy
  · intro x hx
    rcases List.mem_append.1 hx with hx | hx
    · exact hV x hx
    · rw [List.mem_singleton] at hx; subst hx; exact hv
theorem putAll_ren : ∀ (l V : List (Ver × Int)), OKVs V → OKVs l → putAll (renV V) (renV l) = renV (putAll V l) ∧ OKVs (putAll V l)
  | [], V, hV, _ => ⟨rfl, hV⟩
  | x :: l, V, hV, hl => by
    have hx := hl x (by simp)
    have := putAll_ren l (putV V x.1 x.2) (put_ok hV hx x.2) (fun y hy => hl y (by simp [hy]))
    rw [← put_ren hV hx] at this
    exact this
theorem taken_ren {V : List (Ver × Int)} (hV : OKVs V) {l : LineG} (hl : ∀ v ∈ l.takes, OKV v) : takenG (renV V) (renL l) = takenG V l := by
  unfold takenG renL
  match h : l.takes with
  | [] => rfl
  | [a] => simp only [List.map_cons, List.map_nil]; rw [get_ren hV (hl a (by rw [h]; simp))]
  | a :: b :: r =>
    simp only [List.map_cons]
    rw [get_ren hV (hl a (by rw [h]; simp)), get_ren hV (hl b (by rw [h]; simp))]
theorem takenP_ren (p : PhiG) (fr : Nat) : takenP (renP p) fr = rho (takenP p fr) := by
  unfold takenP renP
  simp only
  rw [List.find?_map]
  have : ((fun c : Nat × Ver => decide (c.1 = fr)) ∘ fun c : Nat × Ver => (c.1, rho c.2)) = fun c => decide (c.1 = fr) := rfl
  rw [this]
  cases p.choices.find? (fun c => decide (c.1 = fr)) with
  | none => exact rho_none.symm
  | some c => rfl
theorem meet_ren {V : List (Ver × Int)} (hV : OKVs V) {ps : List PhiG} {fr : Nat} (hp : ∀ p ∈ ps, OKV p.sets ∧ OKV (takenP p fr)) : meetG (renV V) (ps.map renP) fr = renV (meetG V ps fr) ∧ OKVs (meetG V ps fr) := by
  unfold meetG
  have e : (ps.map renP).map (fun p => (p.sets, getV (renV V) (takenP p fr))) = renV (ps.map fun p => (p.sets, getV V (takenP p fr))) := by
    unfold renV
    rw [List.map_map, List.map_map]
    apply List.map_congr_left
    intro p hp'
    simp only [Function.comp]
    rw [takenP_ren]
    have := get_ren hV (hp p hp').2
    unfold renV at this
    rw [this]
    rfl
  rw [e]
  refine putAll_ren _ V hV ?_
  intro x hx
  obtain ⟨p, hp', rfl⟩ := List.mem_map.1 hx
  exact (hp p hp').1

/-- What is needed of a form for its run. -/
structure RunOK (bs : List BlockG) : Prop where
  lines : ∀ b ∈ bs, ∀ l ∈ b.lines, (∀ v ∈ l.takes, OKV v) ∧ (l.word < 6 → OKV l.sets) ∧ LineOK l
  leads : ∀ (b : Nat) B, bs[b]? = some B → ∀ l ∈ B.lines, ∀ n ∈ l.leads, n < bs.length ∧ ∀ p ∈ phisAt bs n, OKV p.sets ∧ OKV (takenP p b)
theorem linesAt_ren (bs : List BlockG) (b : Nat) : linesAt (bs.map renB) b = (linesAt bs b).map renL := by
  unfold linesAt
  rw [List.getElem?_map]
  cases bs[b]? <;> rfl
theorem phisAt_ren (bs : List BlockG) (b : Nat) : phisAt (bs.map renB) b = (phisAt bs b).map renP := by
  unfold phisAt
  rw [List.getElem?_map]
  cases bs[b]? <;> rfl
theorem nextG_mem {l : LineG} (h : LineOK l) (hw : l.word = 7 ∨ l.word = 8) (y : Int) : nextG l y ∈ l.leads := by
  unfold nextG
  rcases hw with hw | hw
  · have := h.one hw
    match hl : l.leads, this with
    | [a], _ => simp [hw]
  · have := h.two hw
    match hl : l.leads, this with
    | [a, b], _ => by_cases hy : y = 0 <;> simp [hw, hy]
theorem run_ren {bs : List BlockG} (h : RunOK bs) : ∀ (f : Nat) (V : List (Ver × Int)) (b : Nat) (ls : List LineG) (tr : List Int), OKVs V → (∀ l ∈ ls, l ∈ linesAt bs b) → runF (bs.map renB) f (renV V) b (ls.map renL) tr = runF bs f V b ls tr
  | 0, V, b, ls, tr, _, _ => by simp [runF]
  | f + 1, V, b, [], tr, _, _ => by simp [runF]
  | f + 1, V, b, l :: r, tr, hV, hl => by
    have hr : ∀ x ∈ r, x ∈ linesAt bs b := fun x hx => hl x (by simp [hx])
    obtain ⟨B, hB, hlB⟩ : ∃ B, bs[b]? = some B ∧ l ∈ B.lines := by
      have := hl l (by simp)
      unfold linesAt at this
      cases hb : bs[b]? with
      | none => rw [hb] at this; simp at this
      | some B => rw [hb] at this; exact ⟨B, rfl, by simpa using this⟩
    obtain ⟨h1, h2, h3⟩ := h.lines B (List.mem_of_getElem? hB) l hlB
    simp only [List.map_cons, runF]
    rw [taken_ren hV h1]
    have ew : (renL l).word = l.word := rfl
    have en : ∀ y, nextG (renL l) y = nextG l y := fun y => rfl
    have es : (renL l).sets = rho l.sets := rfl
    rw [ew, en, es]
    by_cases w6 : l.word = 6
    · rw [if_pos w6, if_pos w6]
      exact run_ren h f V b r _ hV hr
    · rw [if_neg w6, if_neg w6]
      by_cases w7 : l.word = 7 ∨ l.word = 8
      · rw [if_pos w7, if_pos w7, phisAt_ren, linesAt_ren]
        obtain ⟨-, g2⟩ := h.leads b B hB l hlB _ (nextG_mem h3 w7 (takenG V l).1)
        obtain ⟨e1, e2⟩ := meet_ren hV g2
        rw [e1]
        exact run_ren h f _ _ _ tr e2 (fun x hx => hx)
      · rw [if_neg w7, if_neg w7]
        by_cases w9 : l.word = 9
        · rw [if_pos w9, if_pos w9]
        · rw [if_neg w9, if_neg w9]
          have hs := h2 (by have := h3.word; omega)
          rw [put_ren hV hs]
          exact run_ren h f _ b r tr (put_ok hV hs _) hr
theorem start_ren {A : List Ver} (hA : ∀ v ∈ A, OKV v) (xs : List Int) : startG (A.map rho) xs = renV (startG A xs) ∧ OKVs (startG A xs) := by
  have e : (A.map rho).zip xs = renV (A.zip xs) := by
    unfold renV
    rw [List.zip_map_left]
    rfl
  have := putAll_ren (A.zip xs) [] (fun x hx => by cases hx) (fun x hx => hA _ (List.of_mem_zip hx).1)
  unfold startG
  rw [e]
  exact this

/-! A line of a form by its words. -/
theorem gfill1 {ps : List Nat} {bs : List BA} {l l' : LineG} (h : fillG 1 (1 :: ps) bs l = some l') : ∃ a r v, bs = a :: r ∧ readVer 1 a = some v ∧ fillG 1 ps r { l with sets := v } = some l' := by
  cases bs with
  | nil => simp [fillG] at h
  | cons a r =>
    simp only [fillG, addPart, if_true] at h
    cases hv : readVer 1 a with
    | none => rw [hv] at h; cases h
    | some v => rw [hv] at h; exact ⟨a, r, v, rfl, hv, h⟩
theorem gfill2 {ps : List Nat} {bs : List BA} {l l' : LineG} (h : fillG 1 (2 :: ps) bs l = some l') : ∃ a r v, bs = a :: r ∧ readVer 1 a = some v ∧ fillG 1 ps r { l with takes := l.takes ++ [v] } = some l' := by
  cases bs with
  | nil => simp [fillG] at h
  | cons a r =>
    simp only [fillG, addPart] at h
    cases hv : readVer 1 a with
    | none => rw [hv] at h; simp at h
    | some v => rw [hv] at h; exact ⟨a, r, v, rfl, hv, by simpa using h⟩
theorem gfill3 {ps : List Nat} {bs : List BA} {l l' : LineG} (h : fillG 1 (3 :: ps) bs l = some l') : ∃ a r v, bs = a :: r ∧ numB a = some v ∧ fillG 1 ps r { l with number := v } = some l' := by
  cases bs with
  | nil => simp [fillG] at h
  | cons a r =>
    simp only [fillG, addPart] at h
    cases hv : numB a with
    | none => rw [hv] at h; simp at h
    | some v => rw [hv] at h; exact ⟨a, r, v, rfl, hv, by simpa using h⟩
theorem gfill4 {ps : List Nat} {bs : List BA} {l l' : LineG} (h : fillG 1 (4 :: ps) bs l = some l') : ∃ a r n, bs = a :: r ∧ blkB a = some n ∧ fillG 1 ps r { l with leads := l.leads ++ [n] } = some l' := by
  cases bs with
  | nil => simp [fillG] at h
  | cons a r =>
    simp only [fillG, addPart] at h
    cases hv : blkB a with
    | none => rw [hv] at h; simp at h
    | some v => rw [hv] at h; exact ⟨a, r, v, rfl, hv, by simpa using h⟩
theorem gfill0 {bs : List BA} {l l' : LineG} (h : fillG 1 [] bs l = some l') : bs = [] ∧ l = l' := by
  cases bs with
  | nil => simp [fillG] at h; exact ⟨rfl, h⟩
  | cons a r => simp [fillG] at h
/-- A line of a form: its words, with the versions renamed. -/
theorem lineW1_of {ws : List BA} {l : LineG} (h : lineOf 1 ws = some l) : LineW ws (renL l) ∧ (∀ v ∈ l.takes, OKV v) ∧ (l.word < 6 → OKV l.sets) := by
  cases ws with
  | nil => simp [lineOf] at h
  | cons x0 bs =>
    simp only [lineOf] at h
    split at h
    · rename_i k hk
      have hlt := kind_lt hk
      have h2of : ∀ {k : Nat}, (k = 2 ∨ k = 3 ∨ k = 4 ∨ k = 5) → kindOf x0 = some k → fillG 1 [1, 2, 2] bs ⟨k, noVer, [], 0, []⟩ = some l → LineW (x0 :: bs) (renL l) ∧ (∀ v ∈ l.takes, OKV v) ∧ (l.word < 6 → OKV l.sets) := by
        intro k hk2 hk h
        obtain ⟨a, r, u, rfl, hu, h1⟩ := gfill1 h
        obtain ⟨b, r, v, rfl, hv, h2⟩ := gfill2 h1
        obtain ⟨c, r, t, rfl, ht, h3⟩ := gfill2 h2
        obtain ⟨rfl, rfl⟩ := gfill0 h3
        refine ⟨?_, by simp; exact ⟨⟨_, hv⟩, ⟨_, ht⟩⟩, fun _ => ⟨_, hu⟩⟩
        simp only [renL, List.nil_append, List.cons_append, List.map_cons, List.map_nil, rho_of hu, rho_of hv, rho_of ht]
        exact .two k x0 a b c hk hk2
      rcases (by omega : k = 0 ∨ k = 1 ∨ k = 2 ∨ k = 3 ∨ k = 4 ∨ k = 5 ∨ k = 6 ∨ k = 7 ∨ k = 8 ∨ k = 9) with rfl | rfl | rfl | rfl | rfl | rfl | rfl | rfl | rfl | rfl
      · obtain ⟨a, r, u, rfl, hu, h1⟩ := gfill1 h
        obtain ⟨b, r, v, rfl, hb, h2⟩ := gfill3 h1
        obtain ⟨rfl, rfl⟩ := gfill0 h2
        refine ⟨?_, by simp, fun _ => ⟨_, hu⟩⟩
        simp only [renL, List.map_nil, rho_of hu]
        exact .set x0 a b v hk hb
      · obtain ⟨a, r, u, rfl, hu, h1⟩ := gfill1 h
        obtain ⟨b, r, v, rfl, hv, h2⟩ := gfill2 h1
        obtain ⟨rfl, rfl⟩ := gfill0 h2
        refine ⟨?_, by simp; exact ⟨_, hv⟩, fun _ => ⟨_, hu⟩⟩
        simp only [renL, List.nil_append, List.map_cons, List.map_nil, rho_of hu, rho_of hv]
        exact .copy x0 a b hk
      · exact h2of (by simp) hk h
      · exact h2of (by simp) hk h
      · exact h2of (by simp) hk h
      · exact h2of (by simp) hk h
      · obtain ⟨a, r, v, rfl, hv, h1⟩ := gfill2 h
        obtain ⟨rfl, rfl⟩ := gfill0 h1
        refine ⟨?_, by simp; exact ⟨_, hv⟩, fun hw => absurd hw (by simp)⟩
        simp only [renL, List.nil_append, List.map_cons, List.map_nil, rho_none, rho_of hv]
        exact .one 6 x0 a hk (by simp)
      · obtain ⟨a, r, n, rfl, ha, h1⟩ := gfill4 h
        obtain ⟨rfl, rfl⟩ := gfill0 h1
        refine ⟨?_, by simp, fun hw => absurd hw (by simp)⟩
        simp only [renL, List.nil_append, List.map_nil, rho_none]
        exact .go x0 a n hk ha
      · obtain ⟨a, r, v, rfl, hv, h1⟩ := gfill2 h
        obtain ⟨b, r, n, rfl, hb, h2⟩ := gfill4 h1
        obtain ⟨c, r, m, rfl, hc, h3⟩ := gfill4 h2
        obtain ⟨rfl, rfl⟩ := gfill0 h3
        refine ⟨?_, by simp; exact ⟨_, hv⟩, fun hw => absurd hw (by simp)⟩
        simp only [renL, List.nil_append, List.cons_append, List.map_cons, List.map_nil, rho_none, rho_of hv]
        exact .cond x0 a b c n m hk hb hc
      · obtain ⟨a, r, v, rfl, hv, h1⟩ := gfill2 h
        obtain ⟨rfl, rfl⟩ := gfill0 h1
        refine ⟨?_, by simp; exact ⟨_, hv⟩, fun hw => absurd hw (by simp)⟩
        simp only [renL, List.nil_append, List.map_cons, List.map_nil, rho_none, rho_of hv]
        exact .one 9 x0 a hk (by simp)
    · cases h

end Go.Proofs.YtbddcodljmglfaaGreatDoor
