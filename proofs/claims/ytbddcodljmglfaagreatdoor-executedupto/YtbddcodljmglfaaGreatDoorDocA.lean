/- The items that are left, as the document goes over the lines: of no run. And what follows on it. -/
import Derived.Test.YtbddcodljmglfaaGreatDoorFB5
import Derived.Test.YtbddcodljmglfaaGreatDoorFT5
set_option linter.unusedSimpArgs false
set_option linter.unusedVariables false
namespace Go.Proofs.YtbddcodljmglfaaGreatDoor

/-- The item that first sets a version. -/
def whereI (l : List It) (v : Ver) : Option It := l.find? fun y => decide (setOf y.it = some v)
def whereN (l : List It) (v : Ver) : Int := match whereI l v with | some y => (y.at_ : Int) | none => -1
theorem whereI_append (A B : List It) (v : Ver) : whereI (A ++ B) v = (whereI A v).or (whereI B v) := by
  unfold whereI
  rw [List.find?_append]
theorem whereI_mem {l : List It} {v : Ver} {y : It} (h : whereI l v = some y) : y ∈ l ∧ setOf y.it = some v := by
  unfold whereI at h
  exact ⟨List.mem_of_find?_eq_some h, by simpa using List.find?_some h⟩
theorem whereI_cons_eq {y : It} {R : List It} {v : Ver} (h : setOf y.it = some v) : whereI (y :: R) v = some y := by
  unfold whereI
  rw [List.find?_cons_of_pos (by simpa using h)]
theorem whereI_cons_ne {y : It} {R : List It} {v : Ver} (h : setOf y.it ≠ some v) : whereI (y :: R) v = whereI R v := by
  unfold whereI
  rw [List.find?_cons_of_neg (by simpa using h)]

/-- Line by line: the items whose lines are behind, and those that are left. -/
structure Rest (T : List BA) (bs : List BlockG) (i : Nat) (done R : List It) : Prop where
  all : itsFrom 0 bs = done ++ R
  both : ∃ nb, Both SaysIt (bodyL nb i (T.drop i)) R
  past : ∀ z ∈ done, z.at_ < i
theorem Rest.start {T : List BA} {bs : List BlockG} (h : FormT T bs) : Rest T bs 1 [] (itsFrom 0 bs) := ⟨rfl, ⟨0, h.both⟩, by simp⟩
theorem Rest.block {T : List BA} {bs : List BlockG} {i : Nat} {done R : List It} (h : Rest T bs i done R) {x : BA} (hx : T[i]? = some x) (hb : isBlock (hd (cuts 32 x)) = true) : Rest T bs (i + 1) done R := by
  obtain ⟨nb, hB⟩ := h.both
  rw [drop_some hx] at hB
  simp only [bodyL, if_pos hb] at hB
  exact ⟨h.all, ⟨nb + 1, hB⟩, fun z hz => by have := h.past z hz; omega⟩
theorem Rest.item {T : List BA} {bs : List BlockG} {i : Nat} {done R : List It} (h : Rest T bs i done R) {x : BA} (hx : T[i]? = some x) (hb : isBlock (hd (cuts 32 x)) = false) : ∃ y R', R = y :: R' ∧ y.at_ = i ∧ SaysIt (y.blk, i, x) y ∧ y ∈ itsFrom 0 bs ∧ Rest T bs (i + 1) (done ++ [y]) R' := by
  obtain ⟨nb, hB⟩ := h.both
  rw [drop_some hx] at hB
  simp only [bodyL] at hB
  rw [if_neg (by rw [hb]; decide)] at hB
  cases hB with
  | cons hs ht =>
    rename_i y R'
    obtain ⟨h1, h2, h3⟩ := hs
    simp only at h1 h2 h3
    refine ⟨y, R', rfl, h2.symm, ⟨rfl, h2, h3⟩, by rw [h.all]; simp, ⟨by rw [h.all]; simp, ⟨nb, ht⟩, fun z hz => ?_⟩⟩
    rcases List.mem_append.1 hz with hz | hz
    · have := h.past z hz; omega
    · rw [List.mem_singleton] at hz
      subst hz
      omega
theorem Rest.done {T : List BA} {bs : List BlockG} {i : Nat} {done R : List It} (h : Rest T bs i done R) (hi : T.length ≤ i) : R = [] := by
  obtain ⟨nb, hB⟩ := h.both
  rw [List.drop_of_length_le hi] at hB
  cases hB
  rfl

/-- What a line of the text sets. -/
def setsFS (x : BA) : BA := setsFR (hd (cuts 32 x)) (cuts 32 x)
theorem sets_block {x : BA} (h : isBlock (hd (cuts 32 x)) = true) : setsFS x = ByteArray.empty := by
  have hp : isPhi (hd (cuts 32 x)) = false := by
    cases hq : isPhi (hd (cuts 32 x)) with
    | false => rfl
    | true => rw [phi_noblock hq] at h; cases h
  unfold setsFS setsFR setsR
  rw [if_neg (by rw [hp]; decide), kind_block h]
theorem ver_size {x : BA} {v : Ver} (h : readVer 1 x = some v) : v.1.size ≠ 0 := by
  have := ver_name h
  intro e
  unfold isNm at this
  simp [e] at this
theorem ver_empty {x : BA} {v : Ver} (h : readVer 1 x = some v) : x ≠ ByteArray.empty := by
  intro e
  subst e
  have := (ver_parts h).1
  exact absurd this (by decide)
theorem sets_item {b i : Nat} {x : BA} {y : It} (h : SaysIt (b, i, x) y) : (setOf y.it = none ∧ setsFS x = ByteArray.empty) ∨ ∃ v, setOf y.it = some v ∧ readVer 1 (setsFS x) = some v := by
  obtain ⟨-, -, h⟩ := h
  unfold setsFS setsFR
  cases hy : y.it with
  | phi p =>
    rw [hy] at h
    simp only at h
    right
    refine ⟨p.sets, rfl, ?_⟩
    rw [if_pos h.1]
    obtain ⟨x0, bs, hc⟩ := cuts_cons x
    rw [hc] at h ⊢
    cases bs with
    | nil => exact absurd h.2 (by simp [phiOf])
    | cons w1 r =>
      have h2 := h.2
      simp only [phiOf] at h2
      split at h2
      · cases hv : readVer 1 w1 with
        | none => rw [hv] at h2; cases h2
        | some sv =>
          rw [hv] at h2
          simp only at h2
          split at h2
          · injection h2 with h2
            subst h2
            simpa using hv
          · cases h2
      · cases h2
  | line l =>
    rw [hy] at h
    simp only at h
    rw [if_neg (by rw [h.1]; decide)]
    obtain ⟨x0, bs, hc⟩ := cuts_cons x
    rw [hc] at h ⊢
    rcases line_sets1 h.2 with ⟨h1, h2⟩ | h1
    · left
      refine ⟨?_, h1⟩
      simp only [setOf, h2, noVer]
      rfl
    · right
      refine ⟨l.sets, ?_, h1⟩
      simp only [setOf]
      rw [if_neg (ver_size h1)]
theorem sets_same {b i : Nat} {x s : BA} {y : It} {v : Ver} (h : SaysIt (b, i, x) y) (hs : readVer 1 s = some v) : setsFS x = s ↔ setOf y.it = some v := by
  rcases sets_item h with ⟨h1, h2⟩ | ⟨u, h1, h2⟩
  · rw [h1, h2]
    constructor
    · intro e
      exact absurd e.symm (ver_empty hs)
    · intro e; cases e
  · rw [h1]
    constructor
    · intro e
      rw [e, hs] at h2
      injection h2 with h2
      rw [h2]
    · intro e
      injection e with e
      subst e
      exact ver_inj h2 hs

/-- Where each version is set, as the code notes it and as the document finds it. -/
structure Known (done : List It) (S : List (Ver × (Nat × Nat))) : Prop where
  find : ∀ v, findP S v = (whereI done v).map fun y => (y.blk, y.at_)
  zero : ∀ v p, findP S v = some p → v.2 ≠ 0
theorem Known.start : Known [] [] := ⟨fun v => rfl, fun v p h => by simp [findP] at h⟩
theorem Known.none {done : List It} {S : List (Ver × (Nat × Nat))} (h : Known done S) {y : It} (hy : setOf y.it = none) : Known (done ++ [y]) S := by
  refine ⟨fun v => ?_, h.zero⟩
  rw [h.find, whereI_append, whereI_cons_ne (by rw [hy]; intro e; cases e)]
  simp [whereI]
theorem Known.some {done : List It} {S : List (Ver × (Nat × Nat))} (h : Known done S) {y : It} {v : Ver} (hy : setOf y.it = some v) (hm : mayAdd S v = true) : Known (done ++ [y]) (S ++ [(v, (y.blk, y.at_))]) := by
  unfold mayAdd at hm
  simp only [Bool.and_eq_true, Bool.not_eq_true', decide_eq_true_eq] at hm
  have hno : v ∉ S.map (·.1) := fun hc => by rw [findP_some.2 hc] at hm; exact absurd hm.1 (by decide)
  have hwn : whereI done v = Option.none := by
    have := h.find v
    rw [findP_none hno] at this
    cases hq : whereI done v with
    | none => rfl
    | some z => rw [hq] at this; cases this
  refine ⟨fun u => ?_, fun u p hp => ?_⟩
  · rw [findP_snoc hno, whereI_append]
    by_cases hu : u = v
    · subst hu
      rw [if_pos rfl, hwn, whereI_cons_eq hy]
      rfl
    · rw [if_neg hu, h.find u, whereI_cons_ne (by rw [hy]; intro e; injection e with e; exact hu e.symm)]
      simp [whereI]
  · rw [findP_snoc hno] at hp
    split at hp
    · rename_i e; rw [e]; exact hm.2
    · exact h.zero u p hp

/-- Where a version is set, as the document asks in a line that sets it. -/
theorem where_here {T : List BA} {bs : List BlockG} {i : Nat} {done R : List It} {y : It} {S : List (Ver × (Nat × Nat))} {v : Ver} (h : Rest T bs i done (y :: R)) (hi : y.at_ = i) (hk : Known done S) (hy : setOf y.it = some v) : whereN (itsFrom 0 bs) v < (i : Int) ↔ (findP S v).isSome = true := by
  unfold whereN
  rw [h.all, whereI_append, whereI_cons_eq hy, hk.find v]
  cases hq : whereI done v with
  | none => simp [hi]
  | some z =>
    have := h.past z (whereI_mem hq).1
    simp
    omega

theorem held_zero {L : List (Nat × Nat)} {c : Nat} : HeldF L 0 c ↔ Fwd L (-1) c := by
  unfold HeldF
  constructor
  · exact fun h => h.1
  · intro h
    refine ⟨h, fun h0 => ?_⟩
    unfold Fwd RAr at h0
    exact Reach.ind h0 (fun _ => False) (fun a ha => ha.2 (by rw [ha.1]; rfl)) (fun a c _ h _ => h)
theorem held_self {L : List (Nat × Nat)} {c : Nat} : HeldF L (c : Int) c ↔ Fwd L (-1) c := by
  unfold HeldF
  exact ⟨fun h => h.1, fun h => ⟨h, fun h0 => (RAr.ne h0) rfl⟩⟩

/-- May a version be taken in line i of block b, or at its end? As the document asks. -/
noncomputable def mayD (its : List It) (L : List (Nat × Nat)) (u : Ver) (b i : Nat) (whole : Bool) : Bool :=
  if u.2 = 0 then true else match whereI its u with
    | none => false
    | some y => if y.blk = b then whole || decide (y.at_ < i) else heldB L y.blk b
theorem mayD_at {its : List It} {V : List (Ver × (Nat × Nat))} (hk : Known its V) (L : List (Nat × Nat)) (u : Ver) (b i : Nat) : mayD its L u b i false = atB V (heldB L) u b i := by
  unfold mayD atB
  have hf := hk.find u
  cases hq : findP V u with
  | none =>
    rw [hq] at hf
    cases hw : whereI its u with
    | none => by_cases h0 : u.2 = 0 <;> simp [h0]
    | some y => rw [hw] at hf; cases hf
  | some p =>
    have h0 := hk.zero u p hq
    rw [hq] at hf
    cases hw : whereI its u with
    | none => rw [hw] at hf; cases hf
    | some y =>
      rw [hw] at hf
      simp at hf
      subst hf
      simp [h0]
theorem mayD_behind {its : List It} {V : List (Ver × (Nat × Nat))} (hk : Known its V) (L : List (Nat × Nat)) (u : Ver) (b i : Nat) (hb : heldB L 0 b = true) : mayD its L u b i true = behindB V (heldB L) u b := by
  unfold mayD behindB
  have hf := hk.find u
  cases hq : findP V u with
  | none =>
    rw [hq] at hf
    cases hw : whereI its u with
    | none => by_cases h0 : u.2 = 0 <;> simp [h0]
    | some y => rw [hw] at hf; cases hf
  | some p =>
    have h0 := hk.zero u p hq
    rw [hq] at hf
    cases hw : whereI its u with
    | none => rw [hw] at hf; cases hf
    | some y =>
      rw [hw] at hf
      simp at hf
      subst hf
      simp [h0]
      intro e
      rw [e]
      unfold heldB at hb ⊢
      simp at hb ⊢
      rw [held_self]
      exact held_zero.1 hb

/-- The choices of a phi, word by word, if there are no more than forty. -/
theorem phi_choices {x : BA} {p : PhiG} (h : phiOf (cuts 32 x) = some p) (hl : p.choices.length ≤ 40) : choicesOf ((cuts 32 x).drop 2) = some p.choices := by
  obtain ⟨x0, bs, hc⟩ := cuts_cons x
  rw [hc] at h ⊢
  cases bs with
  | nil => simp [phiOf] at h
  | cons w1 r =>
    simp only [phiOf] at h
    split at h
    · split at h
      · split at h
        · rename_i l hlr
          injection h with h
          subst h
          simp only [List.length_take] at hl
          simp only [List.drop_succ_cons, List.drop_zero]
          rw [hlr, List.take_of_length_le (by omega)]
        · cases h
      · cases h
    · cases h
/-- All the choices of a phi. -/
theorem phi_full {x : BA} {p : PhiG} (h : phiOf (cuts 32 x) = some p) : ∃ l, choicesOf ((cuts 32 x).drop 2) = some l ∧ p.choices = l.take 41 := by
  obtain ⟨x0, bs, hc⟩ := cuts_cons x
  rw [hc] at h ⊢
  cases bs with
  | nil => simp [phiOf] at h
  | cons w1 r =>
    simp only [phiOf] at h
    split at h
    · split at h
      · split at h
        · rename_i l hlr
          injection h with h
          subst h
          exact ⟨l, hlr, rfl⟩
        · cases h
      · cases h
    · cases h
theorem choices_at : ∀ (L : List BA) (l : List (Nat × Ver)), choicesOf L = some l → L.length = l.length ∧ ∀ (j : Nat) (b : BA), L[j]? = some b → ∃ c, l[j]? = some c ∧ choiceOf b = some c
  | [], l, h => by
    simp [choicesOf] at h
    subst h
    exact ⟨rfl, fun j b hb => by simp at hb⟩
  | a :: L, l, h => by
    simp only [choicesOf] at h
    cases ha : choiceOf a with
    | none => rw [ha] at h; cases h
    | some c =>
      rw [ha] at h
      simp only at h
      cases hr : choicesOf L with
      | none => rw [hr] at h; cases h
      | some m =>
        rw [hr] at h
        simp only at h
        injection h with h
        subst h
        obtain ⟨h1, h2⟩ := choices_at L m hr
        refine ⟨by simp [h1], fun j b hb => ?_⟩
        cases j with
        | zero => simp at hb; subst hb; exact ⟨c, rfl, ha⟩
        | succ j => exact h2 j b (by simpa using hb)
theorem choice_what {b : BA} {c : Nat × Ver} (h : choiceOf b = some c) : blkB (cutHead 58 b) = some c.1 ∧ readVer 1 (cutTail 58 b) = some c.2 := by
  unfold choiceOf at h
  split at h
  · rename_i n hn
    split at h
    · rename_i v hv
      injection h with h
      subst h
      exact ⟨hn, hv⟩
    · cases h
  · cases h

end Go.Proofs.YtbddcodljmglfaaGreatDoor

namespace Go.Proofs.YtbddcodljmglfaaGreatDoor
open Go.RowKit

/-- Where the text's own blocks lie. -/
theorem TextF.blkAt {base : Nat} {W : World} {tb : Nat} {L : List BA} {bl : List Nat} {lv bv : Value} {vals : List Value} (h : TextF base W tb L bl lv bv vals) : ∃ bo cb, bv = .slice bo bl.length cb ∧ bl.length ≤ cb ∧ (0 < bl.length → ∃ g off, bo = some ⟨g, off, none⟩ ∧ g < W.heap.size ∧ ∀ (j z : Nat), bl[j]? = some z → W.cell? ⟨g, off + j, none⟩ = some (.int .i64 (z : Int))) := by
  obtain ⟨bo, cb, h1, h2, h3⟩ := h.blocks.rdT.cell
  refine ⟨bo, cb, h1, h2, fun hp => ?_⟩
  obtain ⟨g, off, h4, h5, h6⟩ := h3 (by simpa [nums] using hp)
  exact ⟨g, off, h4, h5, fun j z hz => h6 j _ (by simp [nums, hz])⟩

set_option maxRecDepth 100000 in
set_option maxHeartbeats 4000000 in
theorem last_any (w : World) (base tb : Nat) (T : List BA) (lv bv : Value) (vals : List Value) (bs : List BlockG) (hT : TextF base w tb T (blkIdx 0 T) lv bv vals) (hF : FormT T bs) (b : Nat) (hb : b < bs.length) :
    Calls Tryz.prog 93 #[.pointer (some ⟨tb, 0, none⟩), .int .i64 (b : Int)] w fun e w' => e = .returned (.int .i64 (lastD T b : Int)) ∧ w' = w := by
  have hlen := hF.bl
  have hTl := hF.len
  have hT2 := hF.two
  have hn := hF.n40
  have hidx := hF.idx
  obtain ⟨bo, cb, rfl, hcb, hcell⟩ := hT.blkAt
  obtain ⟨g, off, rfl, hg, hc⟩ := hcell (by omega)
  obtain ⟨ao, cp, rfl⟩ := hT.rows.len
  have t0 := hT.box.cell (k := 0) rfl
  have t1 := hT.box.cell (k := 1) rfl
  clear hT hF hcell
  unfold lastD
  by_cases h1 : b + 1 < (blkIdx 0 T).length
  · obtain ⟨z, hz⟩ : ∃ z, (blkIdx 0 T)[b + 1]? = some z := ⟨_, List.getElem?_eq_getElem h1⟩
    have hzb := hidx z (List.mem_of_getElem? hz)
    have cz := hc (b + 1) z hz
    have HE : Hid ((if b + 1 < (blkIdx 0 T).length then (blkIdx 0 T).getD (b + 1) 0 - 1 else T.length - 1) = z - 1) := by
      show _ = _
      rw [if_pos h1, List.getD_eq_getElem?_getD, hz]
      rfl
    rw [HE.out]
    generalize (blkIdx 0 T).length = N at *
    generalize T.length = M at *
    clear HE hc hz hidx
    have h1' : (b : Int) + 1 < (N : Int) := by omega
    have h2' : (0 : Int) ≤ (b : Int) + 1 := by omega
    have h3' : ((b : Int) + 1).toNat = b + 1 := by omega
    go_enter Tryz.func93, Tryz.ntmps93
    go_wp2_with fail
    go_ret
    refine ⟨?_, rfl⟩
    congr 2
    go_num
  · rw [if_neg h1]
    generalize (blkIdx 0 T).length = N at *
    generalize T.length = M at *
    have h1' : ¬ (b : Int) + 1 < (N : Int) := by omega
    clear hc hidx
    go_enter Tryz.func93, Tryz.ntmps93
    go_wp2_with fail
    go_ret
    refine ⟨?_, rfl⟩
    congr 2
    go_num

set_option maxRecDepth 100000 in
set_option maxHeartbeats 4000000 in
theorem blockOfF_any (w : World) (base tb i : Nat) (T : List BA) (lv bv : Value) (vals : List Value) (bs : List BlockG) (hT : TextF base w tb T (blkIdx 0 T) lv bv vals) (hF : FormT T bs) (hi : i < T.length) :
    Calls Tryz.prog 77 #[.pointer (some ⟨tb, 0, none⟩), .int .i64 (i : Int)] w fun e w' => e = .returned (.int .i64 ((bCnt (blkIdx 0 T) i : Int) - 1)) ∧ w' = w := by
  have hlen := hF.bl
  have hTl := hF.len
  have hn := hF.n40
  have hidx : Hid (∀ z ∈ blkIdx 0 T, 1 ≤ z ∧ z < T.length) := hF.idx
  obtain ⟨bo, cb, rfl, hcb, hcell⟩ := hT.blkAt
  have t1 := hT.box.cell (k := 1) rfl
  have HC : Hid (0 < (blkIdx 0 T).length → ∃ g off, bo = some ⟨g, off, none⟩ ∧ g < w.heap.size ∧ ∀ (j z : Nat), (blkIdx 0 T)[j]? = some z → w.cell? ⟨g, off + j, none⟩ = some (.int .i64 (z : Int))) := hcell
  clear hT hF hcell
  generalize blkIdx 0 T = bl at *
  obtain ⟨N, hN⟩ : ∃ N, N = bl.length := ⟨_, rfl⟩
  have HN : Hid (N = bl.length) := hN
  rw [← hN] at hlen HC t1 hcb
  clear hN
  have HTL : Hid (T.length ≤ 1000) := hTl
  clear hTl
  obtain ⟨M, hM⟩ : ∃ M, M = T.length := ⟨_, rfl⟩
  have hM1 : M ≤ 1000 := hM ▸ HTL.out
  rw [← hM] at hi hidx
  clear hM HTL
  go_enter Tryz.func77, Tryz.ntmps77
  go_wp2_with fail
  go_loopg [5] N (fun g v5 wr => ∃ k : Nat, k + g = N ∧ v5 = .int .i64 ((k : Int) - 1) ∧ Hid (∀ z ∈ bl.take k, z ≤ i) ∧ wr = w)
  case atStart => exact ⟨0, by omega, rfl, (by show ∀ z ∈ _, _; simp), rfl⟩
  case round =>
    obtain ⟨k, hkg, rfl, hpre, hwr⟩ := hrel
    subst hwr
    have hk2 : (k : Int) - 1 + 1 = (k : Int) := by omega
    by_cases hk : k < N
    · obtain ⟨x, hx⟩ : ∃ x, bl[k]? = some x := ⟨_, List.getElem?_eq_getElem (by have := HN.out; omega)⟩
      have hxb := hidx.out x (List.mem_of_getElem? hx)
      obtain ⟨g, off, rfl, hg, hcl⟩ := HC.out (by omega)
      have cx := hcl k x hx
      have hk0 : (0 : Int) ≤ (k : Int) := by omega
      have hk1 : (k : Int) < (N : Int) := by omega
      have HT : Hid (bl.take (k + 1) = bl.take k ++ [x]) := by show _ = _; rw [List.take_add_one, hx]; rfl
      have HD : Hid (bl = bl.take k ++ x :: bl.drop (k + 1)) := by
        show _ = _
        rw [← drop_some hx]
        simp
      have hlk : (bl.take k).length = k := by rw [List.length_take, ← HN.out]; omega
      clear hcl hx
      by_cases hxi : x ≤ i
      · have hxi' : (x : Int) ≤ (i : Int) := by omega
        have HP : Hid (∀ z ∈ bl.take (k + 1), z ≤ i) := by
          intro z hz
          rw [HT.out] at hz
          rcases List.mem_append.1 hz with hz | hz
          · exact hpre.out z hz
          · rw [List.mem_singleton] at hz; subst hz; exact hxi
        clear HD HT hlk
        go_wp2_with fail
        go_roundg (N - (k + 1))
        case measure => omega
        case rel => exact ⟨k + 1, by omega, by go_num, HP, rfl⟩
      · have hxi' : ¬ (x : Int) ≤ (i : Int) := by omega
        have HR : Hid (bCnt bl i = k) := by
          show _ = _
          unfold bCnt
          rw [HD.out, List.takeWhile_append_of_pos (by intro z hz; simpa using hpre.out z hz), List.takeWhile_cons, if_neg (by simpa using hxi), List.append_nil, hlk]
        clear HD HT hlk
        go_wp2_with fail
        go_ret
        exact ⟨by rw [HR.out]; rfl, rfl⟩
    · have hk1 : ¬ (k : Int) < (N : Int) := by omega
      have HR : Hid (bCnt bl i = k) := by
        show _ = _
        unfold bCnt
        have hp := hpre.out
        have hkl : k = bl.length := by rw [← HN.out]; omega
        rw [hkl, List.take_length] at hp
        have : bl.takeWhile (fun x => decide (x ≤ i)) = bl := by
          have := List.takeWhile_append_of_pos (p := fun x => decide (x ≤ i)) (l₁ := bl) (l₂ := []) (by intro z hz; simpa using hp z hz)
          simpa using this
        rw [this, hkl]
      go_wp2_with fail
      go_ret
      exact ⟨by rw [HR.out]; rfl, rfl⟩

end Go.Proofs.YtbddcodljmglfaaGreatDoor

namespace Go.Proofs.YtbddcodljmglfaaGreatDoor
open Go.RowKit

theorem toList_same {a b : BA} : ByteArray.toList a = ByteArray.toList b ↔ a = b := by
  constructor
  · intro h
    rw [ByteArray.toList_eq, ByteArray.toList_eq] at h
    cases a with
    | mk a =>
      cases b with
      | mk b =>
        congr 1
        exact Array.toList_inj.1 h
  · intro h; rw [h]

/-- A form as it is held all along. -/
structure TextO (w : World) (tb : Nat) (T : List BA) (lv bv : Value) : Prop where
  ok : ∃ base vals, TextF base w tb T (blkIdx 0 T) lv bv vals
  plain : ∀ x ∈ T, PlainF x
theorem TextO.below {w w' : World} {tb : Nat} {T : List BA} {lv bv : Value} (h : TextO w tb T lv bv) (hb : Below w.heap.size w w') : TextO w' tb T lv bv := by
  obtain ⟨base, vals, h1⟩ := h.ok
  exact ⟨⟨base, vals, h1.below hb⟩, h.plain⟩
theorem TextO.line {w : World} {tb : Nat} {T : List BA} {lv bv : Value} (h : TextO w tb T lv bv) {i : Nat} {x : BA} (hx : T[i]? = some x) : ∃ g off cap v, lv = .slice (some ⟨g, off, none⟩) T.length cap ∧ T.length ≤ cap ∧ w.cell? ⟨tb, 0, none⟩ = some (.slice (some ⟨g, off, none⟩) T.length cap) ∧ w.cell? ⟨tb, 2, none⟩ = some (.bool true) ∧ g < w.heap.size ∧ w.cell? ⟨g, off + i, none⟩ = some v ∧ WordsIn w v (hd (cuts 32 x)) (cuts 32 x) ∧ PlainF x := by
  obtain ⟨base, vals, h1⟩ := h.ok
  obtain ⟨hj, hxe⟩ := List.getElem?_eq_some_iff.1 hx
  obtain ⟨g, off, cap, v, rfl, h3, h4, h5, h6⟩ := h1.at hj
  rw [hxe] at h6
  exact ⟨g, off, cap, v, rfl, h3, h1.box.cell rfl, h1.box.cell rfl, h4, h5, h6, h.plain x (List.mem_of_getElem? hx)⟩

section
variable (w : World) (tb : Nat) (T : List BA) (lv bv : Value) (bs : List BlockG) (hT : TextO w tb T lv bv) (hF : FormT T bs)
include hT hF
theorem setsO (i : Nat) (x : BA) (hx : T[i]? = some x) : Calls Tryz.prog 38 #[.pointer (some ⟨tb, 0, none⟩), .int .i64 (i : Int)] w fun e w' => e = .returned (.string (setsFS x)) ∧ ∃ n, w' = w.drewN n := by
  obtain ⟨g, off, cap, v, -, h2, h3, h4, h5, h6, h7, h8⟩ := hT.line hx
  exact setsF_any w tb g off T.length cap i (cuts 32 x) v (hd (cuts 32 x)) (List.getElem?_eq_some_iff.1 hx).1 (by have := hF.len; omega) h2 h3 h4 h6 h7 h8
theorem takesO (i : Nat) (x : BA) (hx : T[i]? = some x) : Calls Tryz.prog 40 #[.pointer (some ⟨tb, 0, none⟩), .int .i64 (i : Int)] w fun e w' => (∃ v, e = .returned v ∧ OwnS w' w.heap.size 9 1 v (takesR (hd (cuts 32 x)) (cuts 32 x)).length (strs (takesR (hd (cuts 32 x)) (cuts 32 x)))) ∧ Below w.heap.size w w' := by
  obtain ⟨g, off, cap, v, -, h2, h3, h4, h5, h6, h7, h8⟩ := hT.line hx
  exact takesF_any w tb g off T.length cap i (cuts 32 x) v (hd (cuts 32 x)) (List.getElem?_eq_some_iff.1 hx).1 (by have := hF.len; omega) h2 h3 h6 h7 (PlainFR.plain h8)
theorem leadsO (i : Nat) (x : BA) (hx : T[i]? = some x) : Calls Tryz.prog 72 #[.pointer (some ⟨tb, 0, none⟩), .int .i64 (i : Int)] w fun e w' => (∃ v, e = .returned v ∧ OwnS w' w.heap.size 3 1 v (leadsS x).length (nums (leadsS x))) ∧ Below w.heap.size w w' := by
  obtain ⟨g, off, cap, v, -, h2, h3, h4, h5, h6, h7, h8⟩ := hT.line hx
  exact leadsF_any w tb g off T.length cap i (cuts 32 x) v (hd (cuts 32 x)) (List.getElem?_eq_some_iff.1 hx).1 (by have := hF.len; omega) h2 h3 h6 h7 (PlainFR.plain h8)
theorem lastO (b : Nat) (hb : b < bs.length) : Calls Tryz.prog 93 #[.pointer (some ⟨tb, 0, none⟩), .int .i64 (b : Int)] w fun e w' => e = .returned (.int .i64 (lastD T b : Int)) ∧ w' = w := by
  obtain ⟨base, vals, h1⟩ := hT.ok
  exact last_any w base tb T lv bv vals bs h1 hF b hb
theorem blockO (i : Nat) (hi : i < T.length) : Calls Tryz.prog 77 #[.pointer (some ⟨tb, 0, none⟩), .int .i64 (i : Int)] w fun e w' => e = .returned (.int .i64 ((bCnt (blkIdx 0 T) i : Int) - 1)) ∧ w' = w := by
  obtain ⟨base, vals, h1⟩ := hT.ok
  exact blockOfF_any w base tb i T lv bv vals bs h1 hF hi

set_option maxRecDepth 100000 in
set_option maxHeartbeats 4000000 in
theorem whereO (s : BA) (v : Ver) (hv : readVer 1 s = some v) :
    Calls Tryz.prog 45 #[.pointer (some ⟨tb, 0, none⟩), .string s] w fun e w' => e = .returned (.int .i64 (whereN (itsFrom 0 bs) v)) ∧ ∃ n, w' = w.drewN n := by
  have HSE : Hid (∀ m (i : Nat) (x : BA), T[i]? = some x → Calls Tryz.prog 38 #[.pointer (some ⟨tb, 0, none⟩), .int .i64 (i : Int)] (w.drewN m) fun e w' => e = .returned (.string (setsFS x)) ∧ ∃ n, w' = w.drewN n) := fun m i x hx => (setsO (w.drewN m) tb T lv bv bs (hT.below (below_drewN (Below.refl _ _) m)) hF i x hx).mono (by rintro e w' ⟨h1, n, rfl⟩; exact ⟨h1, _, World.drewN_drewN _ _ _⟩)
  have HV : Hid (readVer 1 s = some v) := hv
  have HST : Hid (Rest T bs 1 [] (itsFrom 0 bs)) := Rest.start hF
  have hlen := hF.len
  have htwo := hF.two
  obtain ⟨x1, hx1⟩ : ∃ x, T[1]? = some x := ⟨_, List.getElem?_eq_getElem (by omega)⟩
  obtain ⟨g, off, cap, v1, rfl, -, t0, -, -, -, -, -⟩ := hT.line hx1
  have t0' : ∀ m, (w.drewN m).cell? ⟨tb, 0, none⟩ = some (.slice (some ⟨g, off, none⟩) T.length cap) := fun m => t0
  obtain ⟨M, hM⟩ : ∃ M, M = T.length := ⟨_, rfl⟩
  have HM : Hid (M = T.length) := hM
  rw [← hM] at t0 hlen htwo t0'
  clear hT hF hv hM hx1
  go_enter Tryz.func45, Tryz.ntmps45
  go_wp2_with fail
  go_loopg [5] (M - 1) (fun g v5 wr => ∃ (i : Nat) (done R : List It), i + g = M ∧ 1 ≤ i ∧ v5 = .int .i64 i ∧ Hid (Rest T bs i done R) ∧ Hid (whereI done v = none) ∧ Hid (∃ n, wr = w.drewN n))
  case atStart => exact ⟨1, [], _, by omega, by omega, rfl, HST.out, rfl, ⟨0, rfl⟩⟩
  case round =>
    obtain ⟨i, done, R, hig, hi1, rfl, hre, hno, hwr⟩ := hrel
    obtain ⟨n0, rfl⟩ := hwr.out
    have c0 := t0' n0
    clear hwr HST t0
    by_cases hi : i < M
    · obtain ⟨x, hx⟩ : ∃ x, T[i]? = some x := ⟨_, List.getElem?_eq_getElem (by have := HM.out; omega)⟩
      have hi' : (i : Int) < (M : Int) := by omega
      have HS := HSE.out n0 i x hx
      have HS' : Hid (Calls Tryz.prog 38 #[.pointer (some ⟨tb, 0, none⟩), .int .i64 (i : Int)] (w.drewN n0) fun e w' => e = .returned (.string (setsFS x)) ∧ ∃ n, w' = w.drewN n) := HS
      clear HS HSE
      cases hb : isBlock (hd (cuts 32 x)) with
      | true =>
        have hne : (ByteArray.toList (setsFS x) == ByteArray.toList s) = false := by
          rw [beq_eq_false_iff_ne]
          intro e
          rw [toList_same, sets_block hb] at e
          exact ver_empty HV.out e.symm
        have HR : Hid (Rest T bs (i + 1) done R) := hre.out.block hx hb
        clear hx hb
        go_wp2_with (first | (go_at_call 38; refine Calls.mono HS'.out ?_; rintro e w1 ⟨rfl, n1, rfl⟩))
        go_roundg (M - (i + 1))
        case measure => omega
        case rel => exact ⟨i + 1, done, R, by omega, by omega, by go_num, HR, hno, ⟨_, rfl⟩⟩
      | false =>
        obtain ⟨y, R', hR, hat, hsy, -, hnext⟩ := hre.out.item hx hb
        have hsame := sets_same hsy HV.out
        by_cases hq : setOf y.it = some v
        · have heq : (ByteArray.toList (setsFS x) == ByteArray.toList s) = true := by
            rw [beq_iff_eq, toList_same]
            exact hsame.2 hq
          have HE : Hid (whereN (itsFrom 0 bs) v = (i : Int)) := by
            show _ = _
            unfold whereN
            rw [hre.out.all, whereI_append, hno.out, hR, whereI_cons_eq hq]
            simp [hat]
          clear hsame hq hnext hsy hat hR hb hx
          go_wp2_with (first | (go_at_call 38; refine Calls.mono HS'.out ?_; rintro e w1 ⟨rfl, n1, rfl⟩))
          go_ret
          exact ⟨by rw [HE.out]; rfl, _, rfl⟩
        · have hne : (ByteArray.toList (setsFS x) == ByteArray.toList s) = false := by
            rw [beq_eq_false_iff_ne]
            intro e
            rw [toList_same] at e
            exact hq (hsame.1 e)
          have HR : Hid (Rest T bs (i + 1) (done ++ [y]) R') := hnext
          have HN : Hid (whereI (done ++ [y]) v = none) := by
            show _ = _
            rw [whereI_append, hno.out, whereI_cons_ne hq]
            rfl
          clear hsame hq hnext hsy hat hR hb hx
          go_wp2_with (first | (go_at_call 38; refine Calls.mono HS'.out ?_; rintro e w1 ⟨rfl, n1, rfl⟩))
          go_roundg (M - (i + 1))
          case measure => omega
          case rel => exact ⟨i + 1, _, R', by omega, by omega, by go_num, HR, HN, ⟨_, rfl⟩⟩
    · have hi' : ¬ (i : Int) < (M : Int) := by omega
      have HE : Hid (whereN (itsFrom 0 bs) v = -1) := by
        show _ = _
        unfold whereN
        rw [hre.out.all, hre.out.done (by have := HM.out; omega), List.append_nil, hno.out]
      go_wp2_with fail
      go_ret
      exact ⟨by rw [HE.out]; rfl, _, rfl⟩
end

end Go.Proofs.YtbddcodljmglfaaGreatDoor
