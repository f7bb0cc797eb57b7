/- The bridge: names too many. -/
import Derived.Test.YtbddcodljmglfaaGreatDoorBridge3
set_option linter.unusedSimpArgs false
set_option linter.unusedVariables false
namespace Go.Proofs.YtbddcodljmglfaaGreatDoor

theorem fillG_sets : ∀ (ps : List Nat) (bs : List BA) (l l' : LineG), (∀ p ∈ ps, p ≠ 1) → fillG 0 ps bs l = some l' → l'.sets = l.sets
  | [], [], l, l', _, h => by simp [fillG] at h; subst h; rfl
  | [], _ :: _, l, l', _, h => by simp [fillG] at h
  | _ :: _, [], l, l', _, h => by simp [fillG] at h
  | p :: ps, b :: bs, l, l', hp, h => by
    unfold fillG at h
    split at h
    · rename_i m hm
      rw [fillG_sets ps bs m l' (fun q hq => hp q (List.mem_cons_of_mem _ hq)) h, (addPart_what hm).2.1, if_neg (hp p (by simp))]
    · cases h
theorem parts_tail : ∀ k : Fin 10, ∀ p ∈ (partsOf k.val).tail, p ≠ 1 := by decide
theorem line_sets {x0 : BA} {bs : List BA} {l : LineG} (h : lineOf 0 (x0 :: bs) = some l) : l.sets = (setsR x0 (x0 :: bs), 0) := by
  rw [lineOf_cons] at h
  unfold setsR
  cases hk : kindOf x0 with
  | none => rw [hk] at h; cases h
  | some kd =>
    rw [hk] at h
    simp only at h
    have hkd := kindOf_lt hk
    have ht := parts_tail ⟨kd, hkd⟩
    have hpos := parts_pos ⟨kd, hkd⟩
    simp only at ht hpos
    show l.sets = (if (partsOf kd)[0]? = some 1 then (x0 :: bs).getD 1 ByteArray.empty else ByteArray.empty, 0)
    obtain ⟨ps, hps⟩ : ∃ ps, ps = partsOf kd := ⟨_, rfl⟩
    rw [← hps] at ht hpos h ⊢
    clear hps
    cases ps with
    | nil => simp at hpos
    | cons p ps =>
      cases bs with
      | nil => simp [fillG] at h
      | cons b bs =>
        unfold fillG at h
        split at h
        · rename_i m hm
          rw [fillG_sets ps bs m l (by simpa using ht) h, (addPart_what hm).2.1]
          by_cases hp : p = 1
          · simp [hp]
          · simp [hp, noVer]
        · cases h

theorem takesG_nm : ∀ (ps : List Nat) (bs : List BA), (∀ (j p : Nat) (x : BA), ps[j]? = some p → bs[j]? = some x → partOk 0 p x = true) → ∀ x ∈ takesG ps bs, isNm x = true
  | [], bs, _, x, hx => by simp [takesG] at hx
  | _ :: _, [], _, x, hx => by simp [takesG] at hx
  | p :: ps, b :: bs, h, x, hx => by
    have ih := takesG_nm ps bs (fun j q y hq hy => h (j + 1) q y (by simpa using hq) (by simpa using hy))
    unfold takesG at hx
    split at hx
    · rename_i hp
      rcases List.mem_cons.1 hx with rfl | hx
      · have := h 0 p x (by simp) (by simp)
        simpa [partOk, hp, readVer0_some] using this
      · exact ih x hx
    · exact ih x hx
theorem takesR_nm {x0 : BA} {bs : List BA} (h : (lineOf 0 (x0 :: bs)).isSome = true) : ∀ x ∈ takesR x0 (x0 :: bs), isNm x = true := by
  obtain ⟨kd, hk, -, h2⟩ := (plain_bridge x0 bs).2 h
  unfold takesR
  rw [hk]
  exact takesG_nm _ _ (fun j p x hp hx => h2 j p x hp (by simpa using hx))
theorem nm_pos {x : BA} (h : isNm x = true) : x.size ≠ 0 := by
  have := (isNm_iff x).1 h
  omega

abbrev v0 (L : List BA) : List Ver := L.map (fun b => (b, 0))
theorem has_map (L : List BA) (x : BA) : verHas (v0 L) (x, 0) = hasB L x := by
  rw [Bool.eq_iff_iff, verHas_iff, hasB_iff]
  simp [v0]
theorem named_map (L : List BA) (x : BA) (hx : x.size ≠ 0) : named (v0 L) (x, 0) = v0 (addR L x) := by
  unfold named addR
  rw [if_neg hx, has_map]
  split <;> simp [v0]
theorem namedAll_map : ∀ (xs L : List BA), (∀ x ∈ xs, x.size ≠ 0) → namedAll (v0 L) (v0 xs) = v0 (xs.foldl addR L)
  | [], L, _ => rfl
  | x :: xs, L, h => by
    show namedAll (named (v0 L) (x, 0)) (v0 xs) = v0 (xs.foldl addR (addR L x))
    rw [named_map L x (h x (by simp))]
    exact namedAll_map xs _ (fun y hy => h y (List.mem_cons_of_mem _ hy))

/-- The names behind line s, in the document's words. -/
def setsS (s : BA) : BA := setsR (hd (cuts 32 s)) (cuts 32 s)
def takesS (s : BA) : List BA := takesR (hd (cuts 32 s)) (cuts 32 s)
def docNames (L : List BA) (s : BA) : List BA := (takesS s).foldl addR (if (setsS s).size = 0 then L else addR L (setsS s))
def docCrowd : List BA → Nat → List BA → Option Nat
  | _, _, [] => none
  | L, i, s :: r => if 8 < (docNames L s).length then some i else docCrowd (docNames L s) (i + 1) r
theorem docCrowd_cons (L : List BA) (i : Nat) (s : BA) (r : List BA) : docCrowd L i (s :: r) = if 8 < (docNames L s).length then some i else docCrowd (docNames L s) (i + 1) r := rfl

theorem names_line {s : BA} {l : LineG} (L : List BA) (h : lineOf 0 (cuts 32 s) = some l) : namedAll (v0 L) (l.sets :: l.takes) = v0 (docNames L s) := by
  obtain ⟨x0, bs, hc⟩ := cuts_cons s
  unfold docNames setsS takesS
  rw [hc] at h ⊢
  have hhd : hd (x0 :: bs) = x0 := rfl
  rw [hhd, line_sets h, (line_what h).2.1]
  have hnm := takesR_nm (x0 := x0) (bs := bs) (by rw [h]; rfl)
  show namedAll (named (v0 L) _) (v0 _) = _
  by_cases hz : (setsR x0 (x0 :: bs)).size = 0
  · rw [if_pos hz, show named (v0 L) (setsR x0 (x0 :: bs), 0) = v0 L by unfold named; rw [if_pos hz]]
    exact namedAll_map _ _ (fun x hx => nm_pos (hnm x hx))
  · rw [if_neg hz, named_map L _ hz]
    exact namedAll_map _ _ (fun x hx => nm_pos (hnm x hx))
theorem names_none {s : BA} (L : List BA) (h : kindOf (hd (cuts 32 s)) = none) : docNames L s = L := by
  unfold docNames setsS takesS setsR takesR
  rw [h]
  rfl

def crowdAll (nm : List Ver) : List BlockG → Nat ⊕ List Ver
  | [] => .inr nm
  | b :: r => match crowdB b nm 0 b.lines with | .inl i => .inl i | .inr nm' => crowdAll nm' r
theorem crowdG_all : ∀ (B : List BlockG) (nm : List Ver), crowdG nm B = match crowdAll nm B with | .inl i => some i | .inr _ => none
  | [], nm => rfl
  | b :: r, nm => by
    simp only [crowdG, crowdAll]
    cases crowdB b nm 0 b.lines with
    | inl i => rfl
    | inr nm' => exact crowdG_all r nm'
theorem crowdAll_append : ∀ (A B : List BlockG) (nm : List Ver), crowdAll nm (A ++ B) = match crowdAll nm A with | .inl i => .inl i | .inr nm' => crowdAll nm' B
  | [], B, nm => rfl
  | a :: A, B, nm => by
    simp only [List.cons_append, crowdAll]
    cases crowdB a nm 0 a.lines with
    | inl i => rfl
    | inr nm' => exact crowdAll_append A B nm'
theorem crowdB_snoc (b b' : BlockG) (h1 : b'.first = b.first) (h2 : b'.phis = b.phis) (l : LineG) : ∀ (ls : List LineG) (nm : List Ver) (j : Nat), crowdB b' nm j (ls ++ [l]) = match crowdB b nm j ls with | .inl i => .inl i | .inr nm' => if 8 < (namedAll nm' (l.sets :: l.takes)).length then .inl (b.first + b.phis.length + (j + ls.length)) else .inr (namedAll nm' (l.sets :: l.takes))
  | [], nm, j => by simp only [List.nil_append, crowdB, h1, h2, List.length_nil, Nat.add_zero]
  | x :: ls, nm, j => by
    simp only [List.cons_append, crowdB, h1, h2]
    split
    · rfl
    · rw [crowdB_snoc b b' h1 h2 l ls _ (j + 1)]
      simp only [List.length_cons]
      rw [show j + 1 + ls.length = j + (ls.length + 1) by omega]
theorem crowdAll_one (nm : List Ver) (b : BlockG) : crowdAll nm [b] = crowdB b nm 0 b.lines := by
  simp only [crowdAll]
  cases crowdB b nm 0 b.lines <;> rfl

theorem crowd_step {i nb : Nat} {s last : BA} {p p' : PG} {nm : List Ver} (hr : Rel i p nb last) (hi : i ≠ 0) (h : stepL 0 20 i s p = some p') :
    (∀ k, crowdAll nm p.all = .inl k → crowdAll nm p'.all = .inl k) ∧ (∀ L, crowdAll nm p.all = .inr (v0 L) → L.length ≤ 8 → crowdAll nm p'.all = if 8 < (docNames L s).length then .inl i else .inr (v0 (docNames L s))) := by
  rcases step_shape h with ⟨h0, -⟩ | ⟨-, -, b, l, hb, hl, h1⟩ | ⟨-, -, hc, hb, h1⟩
  · exact absurd h0 hi
  · obtain ⟨e1, e2⟩ := hr.here b hb
    have hall : p.all = p.closed ++ [b] := by simp [PG.all, hb]
    rw [h1, hall, crowdAll_append, crowdAll_append]
    cases crowdAll nm p.closed with
    | inl i0 => exact ⟨fun k hk => hk, fun L hk => by cases hk⟩
    | inr nm' =>
      simp only []
      rw [crowdAll_one, crowdAll_one]
      show _ ∧ ∀ L, _ → _ → crowdB _ nm' 0 (b.lines ++ [l]) = _
      rw [crowdB_snoc b { b with lines := b.lines ++ [l] } rfl rfl]
      refine ⟨fun k hk => ?_, fun L hk hL => ?_⟩
      · rw [hk]
      · rw [hk]
        simp only []
        rw [names_line L hl, e1]
        rw [show b.first + ([] : List PhiG).length + (0 + b.lines.length) = i by simp; omega]
        simp [v0]
  · have hall : p.all = p.closed := by simp [PG.all, hc]
    rw [h1, hall, crowdAll_append]
    refine ⟨fun k hk => by rw [hk], fun L hk hL => ?_⟩
    rw [hk, names_none L (kind_block hb), if_neg (by omega)]
    rfl

theorem crowd_run {nm : List Ver} : ∀ (T : List BA) (i nb : Nat) (p q : PG) (last : BA), Rel i p nb last → i ≠ 0 → runL 0 20 i T p = .ok q →
    (∀ k, crowdAll nm p.all = .inl k → crowdG nm q.closed = some k) ∧ (∀ L, crowdAll nm p.all = .inr (v0 L) → L.length ≤ 8 → crowdG nm q.closed = docCrowd L i T)
  | [], i, nb, p, q, last, h, hi, hq => by
    unfold runL at hq
    split at hq
    · rename_i hc
      injection hq with hq
      subst hq
      have hcn : p.cur = none := by simpa using hc.1
      have hall : p.all = p.closed := by simp [PG.all, hcn]
      rw [hall, crowdG_all]
      exact ⟨fun k hk => by rw [hk], fun L hk _ => by rw [hk]; rfl⟩
    · cases hq
  | s :: r, i, nb, p, q, last, h, hi, hq => by
    unfold runL at hq
    cases hst : stepL 0 20 i s p with
    | none => rw [hst] at hq; cases hq
    | some p' =>
      rw [hst] at hq
      obtain ⟨c1, c2⟩ := crowd_step (nm := nm) h hi hst
      obtain ⟨d1, d2⟩ := crowd_run (nm := nm) r (i + 1) _ p' q _ ((rel_step h s).1 p' hst).2 (by omega) hq
      refine ⟨fun k hk => d1 k (c1 k hk), fun L hk hL => ?_⟩
      have := c2 L hk hL
      rw [docCrowd_cons]
      by_cases h8 : 8 < (docNames L s).length
      · rw [if_pos h8] at this ⊢
        exact d1 i this
      · rw [if_neg h8] at this ⊢
        exact d2 _ this (by omega)

end Go.Proofs.YtbddcodljmglfaaGreatDoor
