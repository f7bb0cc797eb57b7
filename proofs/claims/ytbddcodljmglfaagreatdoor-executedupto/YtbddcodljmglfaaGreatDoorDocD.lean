/- The document's uses, of any line; its read of a form, against the program's. And what follows on it. -/
import Derived.Test.YtbddcodljmglfaaGreatDoorDocC
set_option linter.unusedSimpArgs false
set_option linter.unusedVariables false
namespace Go.Proofs.YtbddcodljmglfaaGreatDoor
open Go.RowKit

/-- What uses hands back. -/
def UsesOut (V : List (Ver × (Nat × Nat))) (E : List (Nat × Nat)) (its : List It) (i : Nat) (x : BA) (e : Ending) : Prop :=
  (isBlock (hd (cuts 32 x)) = true → e = .returned (.bool true)) ∧ ∀ y ∈ its, SaysIt (y.blk, i, x) y → e = .returned (.bool (!useBad V (heldB E) y))

section
variable (w : World) (tb : Nat) (T : List BA) (lv bv : Value) (bs : List BlockG) (hT : TextO w tb T lv bv) (hF : FormT T bs) (gp : Nat) (D : List Bool)
include hT hF
theorem usesO (hG : RefIn w gp bs.length (edgesG 0 [] bs) D) (V : List (Ver × (Nat × Nat))) (hV : Known (itsFrom 0 bs) V) (S : List Bool) (hS : S.length = 40) (hSt : ∀ y, S.getD y false = heldB (edgesG 0 [] bs) 0 y) (hph : ∀ y ∈ itsFrom 0 bs, phiBad (edgesG 0 [] bs) bs.length y = false) (i : Nat) (x : BA) (hi1 : 1 ≤ i) (hx : T[i]? = some x) :
    Calls Tryz.prog 50 #[.pointer (some ⟨tb, 0, none⟩), .pointer (some ⟨gp, 0, none⟩), .agg (bits S).toArray, .int .i64 (i : Int)] w fun e w' => UsesOut V (edgesG 0 [] bs) (itsFrom 0 bs) i x e ∧ Below w.heap.size w w' := by
  obtain ⟨b, hb, hbi, hwhat⟩ := hF.line i x hi1 hx
  have hi := (List.getElem?_eq_some_iff.1 hx).1
  have hyb : ∀ y ∈ itsFrom 0 bs, SaysIt (y.blk, i, x) y → y.blk = b ∧ y.at_ = i := by
    intro y hy hs
    have h1 := (hF.item y hy).2.1
    have h2 : i = y.at_ := hs.2.1
    rw [← h2, hbi] at h1
    exact ⟨by omega, h2.symm⟩
  cases hr : S.getD b false with
  | false =>
    refine (usesO_away w tb T lv bv bs hT hF gp S hS i hi b hb hbi hr).mono ?_
    rintro e w' ⟨rfl, h2⟩
    refine ⟨⟨fun _ => rfl, fun y hy hs => ?_⟩, h2⟩
    obtain ⟨h3, -⟩ := hyb y hy hs
    have : useBad V (heldB (edgesG 0 [] bs)) y = false := by
      unfold useBad
      rw [h3, ← hSt, hr]
      rfl
    rw [this]
    rfl
  | true =>
    cases hbk : isBlock (hd (cuts 32 x)) with
    | true =>
      have hnp : isPhi (hd (cuts 32 x)) = false := by
        cases hq : isPhi (hd (cuts 32 x)) with
        | false => rfl
        | true => rw [phi_noblock hq] at hbk; cases hbk
      refine (usesO_line w tb T lv bv bs hT hF gp D hG V hV S hS i x hx b hb hbi hr hnp [] (by unfold takesR; rw [kind_block hbk]; rfl)).mono ?_
      rintro e w' ⟨rfl, h2⟩
      refine ⟨⟨fun _ => rfl, fun y hy hs => ?_⟩, h2⟩
      obtain ⟨-, -, hs⟩ := hs
      exfalso
      cases hy : y.it with
      | phi p =>
        rw [hy] at hs
        simp only at hs
        rw [hnp] at hs
        cases hs.1
      | line l =>
        rw [hy] at hs
        simp only at hs
        obtain ⟨x0, r, hc⟩ := cuts_cons x
        rw [hc] at hs hbk
        have := (line_what1 hs.2).1
        rw [show kindOf x0 = none from kind_block hbk] at this
        cases this
    | false =>
      rcases hwhat with hq | ⟨y, hy, hyb1, hya, hs⟩
      · rw [hbk] at hq; cases hq
      · have huniq : ∀ z ∈ itsFrom 0 bs, SaysIt (z.blk, i, x) z → useBad V (heldB (edgesG 0 [] bs)) z = useBad V (heldB (edgesG 0 [] bs)) y := by
          intro z hz hsz
          obtain ⟨h1, h2⟩ := hyb z hz hsz
          have : z = y := by
            obtain ⟨zb, za, zi⟩ := z
            obtain ⟨yb, ya, yi⟩ := y
            simp only at h1 h2 hyb1 hya
            subst h1 h2 hyb1 hya
            congr 1
            obtain ⟨-, -, h3⟩ := hs
            obtain ⟨-, -, h4⟩ := hsz
            cases zi with
            | phi p =>
              cases yi with
              | phi q =>
                simp only at h3 h4
                rw [h3.2] at h4
                injection h4.2 with h5
                rw [h5]
              | line l => simp only at h3 h4; rw [h3.1] at h4; cases h4.1
            | line l =>
              cases yi with
              | phi q => simp only at h3 h4; rw [h3.1] at h4; cases h4.1
              | line m =>
                simp only at h3 h4
                rw [h3.2] at h4
                injection h4.2 with h5
                rw [h5]
          rw [this]
        have hfin : ∀ {e : Ending} {w' : World}, (e = .returned (.bool (!useBad V (heldB (edgesG 0 [] bs)) y)) ∧ Below w.heap.size w w') → UsesOut V (edgesG 0 [] bs) (itsFrom 0 bs) i x e ∧ Below w.heap.size w w' := by
          rintro e w' ⟨rfl, h2⟩
          exact ⟨⟨fun h => absurd h (by rw [hbk]; decide), fun z hz hsz => (by rw [huniq z hz hsz])⟩, h2⟩
        have hH : heldB (edgesG 0 [] bs) 0 y.blk = true := by rw [hyb1, ← hSt, hr]
        obtain ⟨-, -, hit⟩ := hs
        cases hyi : y.it with
        | phi p =>
          rw [hyi] at hit
          simp only at hit
          have hf := hph y hy
          have hah := phi_ahead hf hyi
          have hc40 : p.choices.length ≤ 40 := by
            unfold phiBad at hf
            rw [hyi] at hf
            simp at hf
            have h1 := congrArg List.length hf.2
            have h2 := aheadTo_le (edgesG 0 [] bs) y.blk bs.length
            have h3 := hF.n40
            simp at h1
            omega
          refine (usesO_phi w tb T lv bv bs hT hF gp D hG V hV S hS hSt i x hx b hb hbi hr hit.1 p.choices (phi_choices hit.2 hc40) hah (phi_two hit.2) hc40).mono ?_
          rintro e w' ⟨rfl, h2⟩
          refine hfin ⟨?_, h2⟩
          unfold useBad
          rw [hH, hyi]
          simp
        | line l =>
          rw [hyi] at hit
          simp only at hit
          have hvs : (takesR (hd (cuts 32 x)) (cuts 32 x)).map (readVer 1) = l.takes.map some := by
            obtain ⟨x0, r, hc⟩ := cuts_cons x
            rw [hc] at hit ⊢
            exact (line_what1 hit.2).2.1
          refine (usesO_line w tb T lv bv bs hT hF gp D hG V hV S hS i x hx b hb hbi hr hit.1 l.takes hvs).mono ?_
          rintro e w' ⟨rfl, h2⟩
          refine hfin ⟨?_, h2⟩
          unfold useBad
          rw [hH, hyi, hyb1, hya, List.all_eq_not_any_not]
          rfl
end

/-- The document's read of a form, by what the program makes of it. -/
theorem readF_err {s : BA} {c i : Nat} (h : readG 1 40 1000 s = .error (c, i)) (w : World) (hs : s.size ≤ 4294967280) : Calls Tryz.prog 37 #[.string s, .bool true] w fun e w' => e = .returned (.tuple #[.pointer none, .int .i64 (c : Int), .int .i64 (i : Int)]) ∧ Below w.heap.size w w' := by
  unfold readG at h
  split at h
  · rename_i hl
    injection h with h
    injection h with h1 h2
    subst h1 h2
    exact rreadF_long w s hs hl
  · rename_i hl
    have hne := cuts_ne 10 s
    have hpos : 0 < 0 + (cuts 10 s).length := by rw [Nat.zero_add]; exact List.length_pos_iff.2 hne
    obtain ⟨d1, d2⟩ := docLF_run (cuts 10 s) 0 0 _ _ relF_start hpos
    refine (rreadF_any w s hs (by omega)).mono ?_
    rintro e w' ⟨ho, hb⟩
    refine ⟨?_, hb⟩
    split at h
    · rename_i k hk
      injection h with h
      injection h with h1 h2
      subst h1 h2
      exact ho.1 k (d1 k hk)
    · rename_i q hq
      have hlo := lostF_run (n := q.closed.length) (cuts 10 s) 0 0 _ q _ relF_start hpos hq
      rw [show lostG q.closed.length (PG.all ⟨[], [], none⟩) = none from rfl, Option.none_or] at hlo
      split at h
      · rename_i k hk
        injection h with h
        injection h with h1 h2
        subst h1 h2
        rw [hlo] at hk
        exact (ho.2 _ (d2 q hq).1).1 k hk
      · cases h
/-- What read hands back of a form. -/
def RdF (T : List BA) (e : Ending) (w' : World) : Prop := ∃ tb lv bv, e = .returned (.tuple #[.pointer (some ⟨tb, 0, none⟩), .int .i64 0, .int .i64 0]) ∧ TextO w' tb T lv bv
theorem readF_ok {s : BA} {A : List Ver} {bs : List BlockG} (h : readG 1 40 1000 s = .ok (A, bs)) (w : World) (hs : s.size ≤ 4294967280) : Calls Tryz.prog 37 #[.string s, .bool true] w fun e w' => RdF (cuts 10 s) e w' ∧ Below w.heap.size w w' := by
  unfold readG at h
  split at h
  · cases h
  · rename_i hl
    have hne := cuts_ne 10 s
    have hpos : 0 < 0 + (cuts 10 s).length := by rw [Nat.zero_add]; exact List.length_pos_iff.2 hne
    obtain ⟨d1, d2⟩ := docLF_run (cuts 10 s) 0 0 _ _ relF_start hpos
    refine (rreadF_any w s hs (by omega)).mono ?_
    rintro e w' ⟨ho, hb⟩
    refine ⟨?_, hb⟩
    split at h
    · cases h
    · rename_i q hq
      have hlo := lostF_run (n := q.closed.length) (cuts 10 s) 0 0 _ q _ relF_start hpos hq
      rw [show lostG q.closed.length (PG.all ⟨[], [], none⟩) = none from rfl, Option.none_or] at hlo
      split at h
      · cases h
      · rename_i hk
        rw [hlo] at hk
        obtain ⟨tb, bl, lv, bv, vals, rfl, hTF, rfl, hp⟩ := (ho.2 _ (d2 q hq).1).2 hk
        exact ⟨tb, lv, bv, rfl, ⟨_, _, hTF⟩, hp⟩

end Go.Proofs.YtbddcodljmglfaaGreatDoor

namespace Go.Proofs.YtbddcodljmglfaaGreatDoor
open Go.RowKit

/-- What Verified hands back. -/
def VerOut (s : BA) (e : Ending) (w' : World) : Prop :=
  (∀ c i, formG s = .error (c, i) → e = .returned (.tuple #[.pointer none, .int .i64 (c : Int), .int .i64 (i : Int)])) ∧
  (∀ A bs, formG s = .ok (A, bs) → RdF (cuts 10 s) e w')
theorem VerOut.err {s : BA} {e : Ending} {w' : World} {c i : Nat} (h : formG s = .error (c, i)) (he : e = .returned (.tuple #[.pointer none, .int .i64 (c : Int), .int .i64 (i : Int)])) : VerOut s e w' :=
  ⟨fun c' i' h' => (by rw [h] at h'; injection h' with h'; injection h' with h1 h2; subst h1 h2; exact he), fun A bs h' => (by rw [h] at h'; cases h')⟩
theorem VerOut.ok {s : BA} {e : Ending} {w' : World} {A : List Ver} {bs : List BlockG} (h : formG s = .ok (A, bs)) (he : RdF (cuts 10 s) e w') : VerOut s e w' :=
  ⟨fun c' i' h' => (by rw [h] at h'; cases h'), fun A bs h' => he⟩

theorem setsFS_size {x : BA} (h : ∀ z ∈ cuts 32 x, z.size ≤ 4294967280) : (setsFS x).size ≤ 4294967280 := by
  have hg : ((cuts 32 x).getD 1 ByteArray.empty).size ≤ 4294967280 := by
    rw [List.getD_eq_getElem?_getD]
    cases hq : (cuts 32 x)[1]? with
    | none => show (ByteArray.empty).size ≤ _; decide
    | some z => exact h z (List.mem_of_getElem? hq)
  unfold setsFS setsFR setsR
  split
  · exact hg
  · split
    · split
      · exact hg
      · decide
    · decide
theorem rest_good {T : List BA} {bs : List BlockG} {i : Nat} {done R : List It} {x : BA} {f : It → Bool} (h : Rest T bs i done R) (hx : T[i]? = some x) (hf : ∀ y ∈ itsFrom 0 bs, SaysIt (y.blk, i, x) y → isBlock (hd (cuts 32 x)) = false → f y = false) (he : firstBad f (itsFrom 0 bs) = firstBad f R) : ∃ done' R', Rest T bs (i + 1) done' R' ∧ firstBad f (itsFrom 0 bs) = firstBad f R' := by
  cases hb : isBlock (hd (cuts 32 x)) with
  | true => exact ⟨done, R, h.block hx hb, he⟩
  | false =>
    obtain ⟨y, R', rfl, hat, hs, hm, hn⟩ := h.item hx hb
    refine ⟨_, R', hn, ?_⟩
    rw [he]
    simp only [firstBad]
    rw [if_neg (by rw [hf y hm hs hb]; decide)]
theorem rest_bad {T : List BA} {bs : List BlockG} {i : Nat} {done R : List It} {x : BA} {f : It → Bool} (h : Rest T bs i done R) (hx : T[i]? = some x) (hb : isBlock (hd (cuts 32 x)) = false) (hf : ∀ y ∈ itsFrom 0 bs, SaysIt (y.blk, i, x) y → f y = true) (he : firstBad f (itsFrom 0 bs) = firstBad f R) : firstBad f (itsFrom 0 bs) = some i := by
  obtain ⟨y, R', rfl, hat, hs, hm, hn⟩ := h.item hx hb
  rw [he]
  simp only [firstBad]
  rw [if_pos (hf y hm hs), hat]
theorem rest_end {T : List BA} {bs : List BlockG} {i : Nat} {done R : List It} {f : It → Bool} (h : Rest T bs i done R) (hi : T.length ≤ i) (he : firstBad f (itsFrom 0 bs) = firstBad f R) : firstBad f (itsFrom 0 bs) = none := by
  rw [he, h.done hi]
  rfl
theorem heldB_iff {L : List (Nat × Nat)} {a c : Nat} : heldB L a c = true ↔ HeldF L (a : Int) c := by
  unfold heldB
  simp
/-- A bool that tells two ways to go on. -/
def WayOut (P Q : Prop) (e : Ending) : Prop := ∃ u : Bool, e = .returned (.bool u) ∧ (u = true → P) ∧ (u = false → Q)
theorem uses_step {T : List BA} {bs : List BlockG} {i : Nat} {done R : List It} {x : BA} {V : List (Ver × (Nat × Nat))} {E : List (Nat × Nat)} {e : Ending} (hF : FormT T bs) (hi1 : 1 ≤ i) (h : Rest T bs i done R) (hx : T[i]? = some x) (he : firstBad (useBad V (heldB E)) (itsFrom 0 bs) = firstBad (useBad V (heldB E)) R) (hu : UsesOut V E (itsFrom 0 bs) i x e) :
    WayOut (∃ done' R', Rest T bs (i + 1) done' R' ∧ firstBad (useBad V (heldB E)) (itsFrom 0 bs) = firstBad (useBad V (heldB E)) R') (firstBad (useBad V (heldB E)) (itsFrom 0 bs) = some i) e := by
  obtain ⟨h1, h2⟩ := hu
  cases hb : isBlock (hd (cuts 32 x)) with
  | true => exact ⟨true, h1 hb, fun _ => rest_good h hx (fun y _ _ hn => by rw [hb] at hn; cases hn) he, fun hq => by cases hq⟩
  | false =>
    obtain ⟨b, -, -, hq | ⟨y, hy, hyb, hya, hs⟩⟩ := hF.line i x hi1 hx
    · rw [hb] at hq; cases hq
    · have e1 := h2 y hy (by rw [hyb]; exact hs)
      refine ⟨_, e1, fun hq => rest_good h hx (fun z hz hsz _ => ?_) he, fun hq => rest_bad h hx hb (fun z hz hsz => ?_) he⟩
      · have e2 := h2 z hz hsz
        rw [e1] at e2
        injection e2 with e2
        injection e2 with e2
        rw [hq] at e2
        simpa using e2.symm
      · have e2 := h2 z hz hsz
        rw [e1] at e2
        injection e2 with e2
        injection e2 with e2
        rw [hq] at e2
        simpa using e2.symm
theorem fits_step {T : List BA} {bs : List BlockG} {i b : Nat} {done R : List It} {x : BA} {E : List (Nat × Nat)} {r : Bool} (hF : FormT T bs) (hbi : bCnt (blkIdx 0 T) i = b + 1) (hi1 : 1 ≤ i) (h : Rest T bs i done R) (hx : T[i]? = some x) (he : firstBad (phiBad E bs.length) (itsFrom 0 bs) = firstBad (phiBad E bs.length) R) (hr : ∀ p, phiOf (cuts 32 x) = some p → r = (decide (0 < b) && (p.choices.map (·.1) == aheadTo E b bs.length))) :
    ((isPhi (hd (cuts 32 x)) = false ∨ r = true) → ∃ done' R', Rest T bs (i + 1) done' R' ∧ firstBad (phiBad E bs.length) (itsFrom 0 bs) = firstBad (phiBad E bs.length) R') ∧ (isPhi (hd (cuts 32 x)) = true → r = false → firstBad (phiBad E bs.length) (itsFrom 0 bs) = some i) := by
  have hy : ∀ y ∈ itsFrom 0 bs, SaysIt (y.blk, i, x) y → phiBad E bs.length y = (isPhi (hd (cuts 32 x)) && !r) := by
    intro y hy hs
    have h1 := (hF.item y hy).2.1
    have h2 : i = y.at_ := hs.2.1
    rw [← h2, hbi] at h1
    have h3 : y.blk = b := by omega
    obtain ⟨-, -, h4⟩ := hs
    unfold phiBad
    cases hi : y.it with
    | phi p =>
      rw [hi] at h4
      simp only at h4 ⊢
      rw [h4.1, hr p h4.2, h3]
      by_cases hb : b = 0
      · simp [hb]
      · have : 0 < b := by omega
        simp [hb, this]
    | line l =>
      rw [hi] at h4
      simp only at h4 ⊢
      rw [h4.1]
      rfl
  refine ⟨fun hq => rest_good h hx (fun y hm hs _ => ?_) he, fun hp hq => rest_bad h hx (phi_noblock hp) (fun y hm hs => ?_) he⟩
  · rw [hy y hm hs]
    rcases hq with hq | hq <;> simp [hq]
  · rw [hy y hm hs, hp, hq]
    rfl

set_option maxRecDepth 100000 in
set_option maxHeartbeats 4000000 in
theorem verified_err (w : World) (s : BA) (hs : s.size ≤ 4294967280) (c i : Nat) (h : readG 1 40 1000 s = .error (c, i)) :
    Calls Tryz.prog 31 #[.string s] w fun e w' => VerOut s e w' ∧ Below w.heap.size w w' := by
  have HF : Hid (formG s = .error (c, i)) := by show _ = _; unfold formG; rw [h]
  have HR : Hid (Calls Tryz.prog 37 #[.string s, .bool true] w fun e w' => e = .returned (.tuple #[.pointer none, .int .i64 (c : Int), .int .i64 (i : Int)]) ∧ Below w.heap.size w w') := readF_err h w hs
  have hc : ((c : Int) != 0) = true := by
    have := readG_err h
    simp
    omega
  clear h hs
  go_enter Tryz.func31, Tryz.ntmps31
  go_wp2_with (first | (go_at_call 37; refine Calls.mono HR.out ?_; rintro e w1 ⟨rfl, hb1⟩; have HB1 : Hid (Below w.heap.size w w1) := hb1; clear hb1))
  go_ret3
  exact ⟨VerOut.err HF.out rfl, HB1.out⟩

set_option maxRecDepth 100000 in
set_option maxHeartbeats 8000000 in
theorem verified_ok (w : World) (s : BA) (hs : s.size ≤ 4294967280) (A : List Ver) (bs : List BlockG) (h : readG 1 40 1000 s = .ok (A, bs)) :
    Calls Tryz.prog 31 #[.string s] w fun e w' => VerOut s e w' ∧ Below w.heap.size w w' := by
  have HR : Hid (Calls Tryz.prog 37 #[.string s, .bool true] w fun e w' => RdF (cuts 10 s) e w' ∧ Below w.heap.size w w') := readF_ok h w hs
  have hF := form_T h
  have HF : Hid (FormT (cuts 10 s) bs) := hF
  have HFO : Hid (formG s = match faultG bs with | some e => .error e | none => .ok (A, bs)) := by show _ = _; unfold formG; rw [h]; rfl
  have hlen := hF.len
  have htwo := hF.two
  have hn40 := hF.n40
  have HSTART : Hid (Rest (cuts 10 s) bs 1 [] (itsFrom 0 bs)) := Rest.start hF
  have HSZ : Hid (∀ x ∈ cuts 10 s, x.size ≤ 4294967280) := fun x hx => by have := cuts_size 10 s x hx; omega
  have HE1 : Hid (∀ i, settingsG [] (itsFrom 0 bs) = .inl i → formG s = .error (3, i)) := by
    intro i hi
    rw [HFO.out]
    unfold faultG
    rw [hi]
  have HE2 : Hid (∀ V i, settingsG [] (itsFrom 0 bs) = .inr V → firstBad (phiBad (edgesG 0 [] bs) bs.length) (itsFrom 0 bs) = some i → formG s = .error (10, i)) := by
    intro V i h1 h2
    rw [HFO.out]
    unfold faultG
    rw [h1]
    simp only
    rw [h2]
  have HE3 : Hid (∀ V i, settingsG [] (itsFrom 0 bs) = .inr V → firstBad (phiBad (edgesG 0 [] bs) bs.length) (itsFrom 0 bs) = none → firstBad (useBad V (heldB (edgesG 0 [] bs))) (itsFrom 0 bs) = some i → formG s = .error (11, i)) := by
    intro V i h1 h2 h3
    rw [HFO.out]
    unfold faultG
    rw [h1]
    simp only
    rw [h2]
    simp only
    rw [h3]
  have HE4 : Hid (∀ V, settingsG [] (itsFrom 0 bs) = .inr V → firstBad (phiBad (edgesG 0 [] bs) bs.length) (itsFrom 0 bs) = none → firstBad (useBad V (heldB (edgesG 0 [] bs))) (itsFrom 0 bs) = none → formG s = .ok (A, bs)) := by
    intro V h1 h2 h3
    rw [HFO.out]
    unfold faultG
    rw [h1]
    simp only
    rw [h2]
    simp only
    rw [h3]
  have HOK : Hid (∀ e w', formG s = .ok (A, bs) → RdF (cuts 10 s) e w' → VerOut s e w') := fun e w' h1 h2 => VerOut.ok h1 h2
  generalize cuts 10 s = T at *
  obtain ⟨M, hM⟩ : ∃ M, M = T.length := ⟨_, rfl⟩
  have HM : Hid (M = T.length) := hM
  rw [← hM] at hlen htwo
  clear h hs hF HFO hM
  go_enter Tryz.func31, Tryz.ntmps31
  go_wp2_with (first | (go_at_call 37; refine Calls.mono HR.out ?_; rintro e w1 ⟨⟨tb, lv, bv, rfl, hT1⟩, hb1⟩; have HB1 : Hid (Below w.heap.size w w1) := hb1; have HT1 : Hid (TextO w1 tb T lv bv) := hT1; clear hb1 hT1))
  clear HR
  obtain ⟨gL, oL, cL, hlv, hcap, t0⟩ : ∃ gL oL cL, lv = .slice (some ⟨gL, oL, none⟩) M cL ∧ M ≤ cL ∧ ∀ W, Below w1.heap.size w1 W → W.cell? ⟨tb, 0, none⟩ = some (.slice (some ⟨gL, oL, none⟩) M cL) := by
    obtain ⟨x1, hx1⟩ : ∃ x, T[1]? = some x := ⟨_, List.getElem?_eq_getElem (by have := HM.out; omega)⟩
    obtain ⟨g, off, cap, v1, h1, h2, h3, -⟩ := HT1.out.line hx1
    refine ⟨g, off, cap, by rw [HM.out]; exact h1, by rw [HM.out]; exact h2, fun W hW => ?_⟩
    rw [hW.cell (p := ⟨tb, 0, none⟩) (World.block_lt_of_cell? w1 _ h3), HM.out]
    exact h3
  have HT0 : Hid (∀ W, Below w1.heap.size w1 W → W.cell? ⟨tb, 0, none⟩ = some (.slice (some ⟨gL, oL, none⟩) M cL)) := t0
  clear t0
  subst hlv
  go_loopg [8] (M - 1) (fun g v8 wr => ∃ (i : Nat) (done R : List It) (S : List (Ver × (Nat × Nat))), i + g = M ∧ 1 ≤ i ∧ v8 = .int .i64 i ∧ Hid (Rest T bs i done R) ∧ Hid (settingsG [] (itsFrom 0 bs) = settingsG S R) ∧ Hid (Known done S) ∧ Hid (∃ n, wr = w1.drewN n))
  case atStart => exact ⟨1, [], _, [], by omega, by omega, rfl, HSTART.out, rfl, Known.start, ⟨0, rfl⟩⟩
  case round =>
    obtain ⟨i, done, R, S, hig, hi1, rfl, hre, hse, hkn, hwr⟩ := hrel
    obtain ⟨n0, rfl⟩ := hwr.out
    clear hwr
    have t0 := HT0.out (w1.drewN n0) (below_drewN (Below.refl _ _) n0)
    by_cases hi : i < M
    · have hi' : (i : Int) < (M : Int) := by omega
      obtain ⟨x, hx⟩ : ∃ x, T[i]? = some x := ⟨_, List.getElem?_eq_getElem (by have := HM.out; omega)⟩
      have HS : Hid (Calls Tryz.prog 38 #[.pointer (some ⟨tb, 0, none⟩), .int .i64 (i : Int)] (w1.drewN n0) fun e w' => e = .returned (.string (setsFS x)) ∧ ∃ n, w' = w1.drewN n) := (setsO (w1.drewN n0) tb T _ bv bs (HT1.out.below (below_drewN (Below.refl _ _) n0)) HF.out i x hx).mono (by rintro e w' ⟨h1, n, rfl⟩; exact ⟨h1, _, World.drewN_drewN _ _ _⟩)
      have HSS : Hid ((setsFS x).size ≤ 4294967280) := setsFS_size (by
        obtain ⟨_, _, _, _, -, -, -, -, -, -, hw, -⟩ := HT1.out.line hx
        exact hw.small)
      -- nothing is set
      have hempty : setsFS x = ByteArray.empty → (ByteArray.toList (setsFS x) == []) = true := by
        intro e
        rw [e, beq_iff_eq]
        exact ba_nil2.2 rfl
      cases hbk : isBlock (hd (cuts 32 x)) with
      | true =>
        have hz := hempty (sets_block hbk)
        have HRE : Hid (Rest T bs (i + 1) done R) := hre.out.block hx hbk
        clear hbk hx hempty
        go_wp2_with (first | (go_at_call 38; refine Calls.mono HS.out ?_; rintro e w2 ⟨rfl, n2, rfl⟩))
        go_roundg (M - (i + 1))
        case measure => omega
        case rel => exact ⟨i + 1, done, R, S, by omega, by omega, by go_num, HRE, hse, hkn, ⟨_, rfl⟩⟩
      | false =>
        obtain ⟨y, R', hR, hat, hsy, hmy, hnext⟩ := hre.out.item hx hbk
        rcases sets_item hsy with ⟨h1, h2⟩ | ⟨v, h1, h2⟩
        · have hz := hempty h2
          have HRE : Hid (Rest T bs (i + 1) (done ++ [y]) R') := hnext
          have HSE : Hid (settingsG [] (itsFrom 0 bs) = settingsG S R') := by
            show _ = _
            rw [hse.out, hR]
            simp only [settingsG, h1]
          have HKN : Hid (Known (done ++ [y]) S) := hkn.out.none h1
          clear hbk hx hempty h1 h2 hnext hmy hsy hat hR
          go_wp2_with (first | (go_at_call 38; refine Calls.mono HS.out ?_; rintro e w2 ⟨rfl, n2, rfl⟩))
          go_roundg (M - (i + 1))
          case measure => omega
          case rel => exact ⟨i + 1, _, R', S, by omega, by omega, by go_num, HRE, HSE, HKN, ⟨_, rfl⟩⟩
        · have hz : (ByteArray.toList (setsFS x) == []) = false := by
            rw [beq_eq_false_iff_ne]
            intro e
            have h3 := ba_nil2.1 e
            have h4 := (ver_parts h2).1
            have h5 : setsFS x = ByteArray.empty := by
              apply ba_ext
              rw [e]
              exact (ba_nil2.2 rfl).symm
            exact ver_empty h2 h5
          have hwh := where_here (by rw [hR] at hre; exact hre.out) hat hkn.out h1
          have hze := ver_zero h2
          have HWH : Hid (∀ m, Calls Tryz.prog 45 #[.pointer (some ⟨tb, 0, none⟩), .string (setsFS x)] (w1.drewN m) fun e w' => e = .returned (.int .i64 (whereN (itsFrom 0 bs) v)) ∧ ∃ n, w' = w1.drewN n) := fun m => (whereO (w1.drewN m) tb T _ bv bs (HT1.out.below (below_drewN (Below.refl _ _) m)) HF.out _ v h2).mono (by rintro e w' ⟨h1, n, rfl⟩; exact ⟨h1, _, World.drewN_drewN _ _ _⟩)
          have HFI : Hid (∀ m, Calls Tryz.prog 46 #[.string (setsFS x)] (w1.drewN m) fun e w' => e = .returned (.bool (zeroV (setsFS x))) ∧ ∃ n, w' = w1.drewN n) := fun m => (first_any (w1.drewN m) _ HSS.out).mono (by rintro e w' ⟨h1, n, rfl⟩; exact ⟨h1, _, World.drewN_drewN _ _ _⟩)
          have HBAD : Hid (mayAdd S v = false → formG s = .error (3, i)) := by
            intro hm
            refine HE1.out i ?_
            rw [hse.out, hR]
            simp only [settingsG, h1]
            rw [if_neg (by rw [hm]; decide), hat]
          have HGOOD : Hid (mayAdd S v = true → Rest T bs (i + 1) (done ++ [y]) R' ∧ settingsG [] (itsFrom 0 bs) = settingsG (S ++ [(v, (y.blk, y.at_))]) R' ∧ Known (done ++ [y]) (S ++ [(v, (y.blk, y.at_))])) := by
            intro hm
            refine ⟨hnext, ?_, hkn.out.some h1 hm⟩
            rw [hse.out, hR]
            simp only [settingsG, h1]
            rw [if_pos hm]
          have hmay : mayAdd S v = (!(findP S v).isSome && decide (v.2 ≠ 0)) := rfl
          generalize whereN (itsFrom 0 bs) v = wn at *
          generalize mayAdd S v = ma at *
          clear hbk hx hempty h1 h2 hnext hmy hsy hat hR hre hse hkn
          cases hfs : (findP S v).isSome with
          | true =>
            have hlt : wn < (i : Int) := hwh.2 hfs
            rw [hfs] at hmay
            have HB : Hid (formG s = .error (3, i)) := HBAD.out (by rw [hmay]; rfl)
            clear hwh hze hmay HBAD HGOOD hfs
            generalize zeroV (setsFS x) = zf at *
            generalize setsFS x = sx at *
            cases zf
            all_goals
              go_wp2_with (first
                | (go_at_call 38; refine Calls.mono HS.out ?_; rintro e w2 ⟨rfl, n2, rfl⟩)
                | (go_at_call 45; refine Calls.mono (HWH.out _) ?_; rintro e w3 ⟨rfl, n3, rfl⟩)
                | (go_at_call 46; refine Calls.mono (HFI.out _) ?_; rintro e w4 ⟨rfl, n4, rfl⟩))
              go_ret3
              exact ⟨VerOut.err HB.out rfl, below_drewN HB1.out _⟩
          | false =>
            have hlt : ¬ wn < (i : Int) := fun hq => by rw [hwh.1 hq] at hfs; cases hfs
            rw [hfs] at hmay
            by_cases h0 : v.2 = 0
            · have hz1 : zeroV (setsFS x) = true := hze.2 h0
              have HB : Hid (formG s = .error (3, i)) := HBAD.out (by rw [hmay]; simp [h0])
              rw [hz1] at HFI
              clear hwh hze hmay HBAD HGOOD hfs h0 hz1
              generalize setsFS x = sx at *
              go_wp2_with (first
                | (go_at_call 38; refine Calls.mono HS.out ?_; rintro e w2 ⟨rfl, n2, rfl⟩)
                | (go_at_call 45; refine Calls.mono (HWH.out _) ?_; rintro e w3 ⟨rfl, n3, rfl⟩)
                | (go_at_call 46; refine Calls.mono (HFI.out _) ?_; rintro e w4 ⟨rfl, n4, rfl⟩))
              go_ret3
              exact ⟨VerOut.err HB.out rfl, below_drewN HB1.out _⟩
            · have hz1 : zeroV (setsFS x) = false := by
                cases hq : zeroV (setsFS x) with
                | false => rfl
                | true => exact absurd (hze.1 hq) h0
              obtain ⟨g1, g2, g3⟩ := HGOOD.out (by rw [hmay]; simp [h0])
              have HRE : Hid (Rest T bs (i + 1) (done ++ [y]) R') := g1
              have HSE : Hid (settingsG [] (itsFrom 0 bs) = settingsG (S ++ [(v, (y.blk, y.at_))]) R') := g2
              have HKN : Hid (Known (done ++ [y]) (S ++ [(v, (y.blk, y.at_))])) := g3
              rw [hz1] at HFI
              clear hwh hze hmay HBAD HGOOD hfs h0 hz1 g1 g2 g3
              generalize setsFS x = sx at *
              go_wp2_with (first
                | (go_at_call 38; refine Calls.mono HS.out ?_; rintro e w2 ⟨rfl, n2, rfl⟩)
                | (go_at_call 45; refine Calls.mono (HWH.out _) ?_; rintro e w3 ⟨rfl, n3, rfl⟩)
                | (go_at_call 46; refine Calls.mono (HFI.out _) ?_; rintro e w4 ⟨rfl, n4, rfl⟩))
              go_roundg (M - (i + 1))
              case measure => omega
              case rel => exact ⟨i + 1, _, R', _, by omega, by omega, by go_num, HRE, HSE, HKN, ⟨_, rfl⟩⟩
    · have hi' : ¬ (i : Int) < (M : Int) := by omega
      have hRn : R = [] := hre.out.done (by have := HM.out; omega)
      have HSV : Hid (settingsG [] (itsFrom 0 bs) = .inr S) := by show _ = _; rw [hse.out, hRn]; rfl
      have HKN : Hid (Known (itsFrom 0 bs) S) := by
        show Known _ _
        rw [hre.out.all, hRn, List.append_nil]
        exact hkn.out
      have HGR : Hid (Calls Tryz.prog 47 #[.pointer (some ⟨tb, 0, none⟩)] (w1.drewN n0) fun e w' => (∃ gp, e = .returned (.pointer (some ⟨gp, 0, none⟩)) ∧ ∃ D, RefIn w' gp bs.length (edgesG 0 [] bs) D) ∧ Below w1.heap.size w1 w') := (graphO (w1.drewN n0) tb T _ bv bs (HT1.out.below (below_drewN (Below.refl _ _) n0)) HF.out).mono (by rintro e w' ⟨h1, h2⟩; exact ⟨h1, (below_drewN (Below.refl _ _) n0).trans h2⟩)
      clear hRn hre hse hkn
      go_wp2_with (first | (go_at_call 47; refine Calls.mono HGR.out ?_; rintro e w2 ⟨⟨gp, rfl, D, hG⟩, hb2⟩; have HG2 : Hid (RefIn w2 gp bs.length (edgesG 0 [] bs) D) := hG; have HB2 : Hid (Below w1.heap.size w1 w2) := hb2; clear hG hb2))
      clear HGR HE1
      go_loopg [13] (M - 1) (fun g v13 wr => ∃ (i : Nat) (done R : List It), i + g = M ∧ 1 ≤ i ∧ v13 = .int .i64 i ∧ Hid (Rest T bs i done R) ∧ Hid (firstBad (phiBad (edgesG 0 [] bs) bs.length) (itsFrom 0 bs) = firstBad (phiBad (edgesG 0 [] bs) bs.length) R) ∧ Hid (∃ n, wr = w2.drewN n))
      case atStart => exact ⟨1, [], _, by omega, by omega, rfl, HSTART.out, rfl, ⟨0, rfl⟩⟩
      case round =>
        obtain ⟨i2, done, R, hig2, hi21, rfl, hre, hfb, hwr⟩ := hrel
        obtain ⟨n2, rfl⟩ := hwr.out
        clear hwr
        have hB2n : Below w1.heap.size w1 (w2.drewN n2) := below_drewN HB2.out n2
        have HB2n : Hid (Below w1.heap.size w1 (w2.drewN n2)) := hB2n
        have t02 := HT0.out (w2.drewN n2) hB2n
        clear hB2n
        by_cases hi2 : i2 < M
        · have hi2' : (i2 : Int) < (M : Int) := by omega
          obtain ⟨x, hx⟩ : ∃ x, T[i2]? = some x := ⟨_, List.getElem?_eq_getElem (by have := HM.out; omega)⟩
          obtain ⟨b, hb, hbi, -⟩ := HF.out.line i2 x hi21 hx
          have HFT : Hid (Calls Tryz.prog 48 #[.pointer (some ⟨tb, 0, none⟩), .pointer (some ⟨gp, 0, none⟩), .int .i64 (i2 : Int)] (w2.drewN n2) fun e w' => FitsOut (cuts 32 x) (edgesG 0 [] bs) b bs.length e ∧ ∃ n, w' = w2.drewN n) := (fitsO (w2.drewN n2) tb T _ bv bs (HT1.out.below HB2n.out) HF.out gp D (HG2.out.below (below_drewN (Below.refl _ _) n2)) i2 x hx b hb hbi).mono (by rintro e w' ⟨h1, n, rfl⟩; exact ⟨h1, _, World.drewN_drewN _ _ _⟩)
          have HSTEP : Hid (∀ r : Bool, (∀ p, phiOf (cuts 32 x) = some p → r = (decide (0 < b) && (p.choices.map (·.1) == aheadTo (edgesG 0 [] bs) b bs.length))) → ((isPhi (hd (cuts 32 x)) = false ∨ r = true) → ∃ done' R', Rest T bs (i2 + 1) done' R' ∧ firstBad (phiBad (edgesG 0 [] bs) bs.length) (itsFrom 0 bs) = firstBad (phiBad (edgesG 0 [] bs) bs.length) R') ∧ (isPhi (hd (cuts 32 x)) = true → r = false → firstBad (phiBad (edgesG 0 [] bs) bs.length) (itsFrom 0 bs) = some i2)) := fun r hr => fits_step HF.out hbi hi21 hre.out hx hfb.out hr
          obtain ⟨gL', oL', cL', vw, hlv', -, -, -, hgL, ci, hw, -⟩ := (HT1.out.below HB2n.out).line hx
          obtain ⟨gw, ow, cw, rfl, hgw, c00⟩ := hw.at
          have hwp := hw.pos
          injection hlv' with hlv1 hlvM hlv2
          injection hlv1 with hlv1
          injection hlv1 with hlv1 hlv3 _
          subst hlv1 hlv3 hlv2
          clear hlvM
          have ci' : ∀ m, (w2.drewN m).cell? ⟨gL, oL + i2, none⟩ = some (.slice (some ⟨gw, ow, none⟩) (cuts 32 x).length cw) := fun m => ci
          have c00' : ∀ m, (w2.drewN m).cell? ⟨gw, ow, none⟩ = some (.string (hd (cuts 32 x))) := fun m => c00
          have t02' : ∀ m, (w2.drewN m).cell? ⟨tb, 0, none⟩ = some (.slice (some ⟨gL, oL, none⟩) M cL) := fun m => t02
          generalize (cuts 32 x).length = NW at ci ci' hwp
          clear hx hbi hw hre hfb ci c00
          cases hph : isPhi (hd (cuts 32 x)) with
          | false =>
            have hph' : (ByteArray.toList (hd (cuts 32 x)) == [112, 104, 105]) = false := hph
            have HST2 : Hid (∀ e, FitsOut (cuts 32 x) (edgesG 0 [] bs) b bs.length e → ∃ r : Bool, e = .returned (.bool r) ∧ ∃ done' R', Rest T bs (i2 + 1) done' R' ∧ firstBad (phiBad (edgesG 0 [] bs) bs.length) (itsFrom 0 bs) = firstBad (phiBad (edgesG 0 [] bs) bs.length) R') := by
              rintro e ⟨r, h1, h2⟩
              exact ⟨r, h1, (HSTEP.out r h2).1 (.inl hph)⟩
            clear hph HSTEP
            go_wp2_with (first | (go_at_call 48; refine Calls.mono HFT.out ?_; rintro e w3 ⟨hfo, n3, rfl⟩; obtain ⟨r, rfl, d', R', hR1, hR2⟩ := HST2.out e hfo; have HR1 : Hid (Rest T bs (i2 + 1) d' R') := hR1; have HR2 : Hid (firstBad (phiBad (edgesG 0 [] bs) bs.length) (itsFrom 0 bs) = firstBad (phiBad (edgesG 0 [] bs) bs.length) R') := hR2; clear hfo hR1 hR2; have ci3 := ci' n3; have c03 := c00' n3; have t03 := t02' n3))
            go_roundg (M - (i2 + 1))
            case measure => omega
            case rel => exact ⟨i2 + 1, d', R', by omega, by omega, by go_num, HR1, HR2, ⟨_, rfl⟩⟩
          | true =>
            have hph' : (ByteArray.toList (hd (cuts 32 x)) == [112, 104, 105]) = true := hph
            have HST2 : Hid (∀ e, FitsOut (cuts 32 x) (edgesG 0 [] bs) b bs.length e → WayOut (∃ done' R', Rest T bs (i2 + 1) done' R' ∧ firstBad (phiBad (edgesG 0 [] bs) bs.length) (itsFrom 0 bs) = firstBad (phiBad (edgesG 0 [] bs) bs.length) R') (formG s = .error (10, i2)) e) := by
              rintro e ⟨r, h1, h2⟩
              exact ⟨r, h1, fun hr => (HSTEP.out r h2).1 (.inr hr), fun hr => HE2.out S i2 HSV.out ((HSTEP.out r h2).2 hph hr)⟩
            clear hph HSTEP
            go_wp2_with (first | (go_at_call 48; refine Calls.mono HFT.out ?_; rintro e w3 ⟨hfo, n3, rfl⟩; obtain ⟨r, rfl, hyes, hno⟩ := HST2.out e hfo; have HYES : Hid (r = true → ∃ done' R', Rest T bs (i2 + 1) done' R' ∧ firstBad (phiBad (edgesG 0 [] bs) bs.length) (itsFrom 0 bs) = firstBad (phiBad (edgesG 0 [] bs) bs.length) R') := hyes; have HNO : Hid (r = false → formG s = .error (10, i2)) := hno; clear hfo hyes hno; have ci3 := ci' n3; have c03 := c00' n3; have t03 := t02' n3; cases r))
            · have HB : Hid (formG s = .error (10, i2)) := HNO.out (by simp)
              go_wp2_with fail
              go_ret3
              exact ⟨VerOut.err HB.out rfl, HB1.out.trans ((below_drewN HB2.out _).mono HB1.out.size)⟩
            · obtain ⟨d', R', hR1, hR2⟩ := HYES.out (by simp)
              have HR1 : Hid (Rest T bs (i2 + 1) d' R') := hR1
              have HR2 : Hid (firstBad (phiBad (edgesG 0 [] bs) bs.length) (itsFrom 0 bs) = firstBad (phiBad (edgesG 0 [] bs) bs.length) R') := hR2
              clear hR1 hR2 HYES HNO
              go_wp2_with fail
              go_roundg (M - (i2 + 1))
              case measure => omega
              case rel => exact ⟨i2 + 1, d', R', by omega, by omega, by go_num, HR1, HR2, ⟨_, rfl⟩⟩
        · have hi2' : ¬ (i2 : Int) < (M : Int) := by omega
          have HP0 : Hid (firstBad (phiBad (edgesG 0 [] bs) bs.length) (itsFrom 0 bs) = none) := rest_end hre.out (by have := HM.out; omega) hfb.out
          have HG3 : Hid (RefIn (w2.drewN n2) gp bs.length (edgesG 0 [] bs) D) := HG2.out.below (below_drewN (Below.refl _ _) n2)
          have HFR : Hid (Calls Tryz.prog 49 #[.pointer (some ⟨gp, 0, none⟩), .int .i64 0, .int .i64 (-1)] (w2.drewN n2) fun e w' => ∃ S : List Bool, e = .returned (.agg (bits S).toArray) ∧ S.length = 40 ∧ (∀ y, S.getD y false = heldB (edgesG 0 [] bs) 0 y) ∧ Below w1.heap.size w1 w' ∧ RefIn w' gp bs.length (edgesG 0 [] bs) D) := (refFrom_any (w2.drewN n2) gp bs.length _ D HG3.out 0 HF.out.n1 (-1)).mono (by
            rintro e w' ⟨S, h1, h2, h3, h4⟩
            refine ⟨S, h1, h2, fun y => ?_, HB2n.out.trans (h4.mono HB2n.out.size), HG3.out.below h4⟩
            rw [Bool.eq_iff_iff, h3 y]
            rw [heldB_iff]
            exact held_zero.symm)
          clear hre hfb HE2 t0
          go_wp2_with (first
            | (go_at_call 49; refine Calls.mono HFR.out ?_; rintro e w4 ⟨SB, rfl, hSl, hSt, hb4⟩; have HSt : Hid (∀ y, SB.getD y false = heldB (edgesG 0 [] bs) 0 y) := hSt; have HB4 : Hid (Below w1.heap.size w1 w4) := hb4.1; have HG4 : Hid (RefIn w4 gp bs.length (edgesG 0 [] bs) D) := hb4.2; clear hSt hb4)
            | (refine wpList_keep_arr rfl rfl rfl _ _ rfl SB hSl rfl rfl ?_; intro w5 hA5 hB5 hS5; have HA5 : Hid (ArrIn w5 _ SB) := hA5; have HB5 : Hid (Below w1.heap.size w1 w5) := HB4.out.trans (hB5.mono HB4.out.size); have HG5 : Hid (RefIn w5 gp bs.length (edgesG 0 [] bs) D) := HG4.out.below hB5; clear hA5 hB5 hS5))
          have HG5 : Hid (RefIn w5 gp bs.length (edgesG 0 [] bs) D) := HG5.out
          clear HFR HG2 t02 HB4
          go_loopg [16] (M - 1) (fun g v16 wr => ∃ (i : Nat) (done R : List It), i + g = M ∧ 1 ≤ i ∧ v16 = .int .i64 i ∧ Hid (Rest T bs i done R) ∧ Hid (firstBad (useBad S (heldB (edgesG 0 [] bs))) (itsFrom 0 bs) = firstBad (useBad S (heldB (edgesG 0 [] bs))) R) ∧ Hid (Below w5.heap.size w5 wr))
          case atStart => exact ⟨1, [], _, by omega, by omega, rfl, HSTART.out, rfl, Below.refl _ _⟩
          case round =>
            obtain ⟨i3, done, R, hig3, hi31, rfl, hre, hfb, hbel⟩ := hrel
            have hB5n : Below w1.heap.size w1 wr := HB5.out.trans (hbel.out.mono HB5.out.size)
            have HB5n : Hid (Below w1.heap.size w1 wr) := hB5n
            have t05 := HT0.out wr hB5n
            have hA6 := HA5.out.below hbel.out
            clear hB5n
            by_cases hi3 : i3 < M
            · have hi3' : (i3 : Int) < (M : Int) := by omega
              obtain ⟨x, hx⟩ : ∃ x, T[i3]? = some x := ⟨_, List.getElem?_eq_getElem (by have := HM.out; omega)⟩
              have HUS : Hid (Calls Tryz.prog 50 #[.pointer (some ⟨tb, 0, none⟩), .pointer (some ⟨gp, 0, none⟩), .agg (bits SB).toArray, .int .i64 (i3 : Int)] wr fun e w' => WayOut (∃ done' R', Rest T bs (i3 + 1) done' R' ∧ firstBad (useBad S (heldB (edgesG 0 [] bs))) (itsFrom 0 bs) = firstBad (useBad S (heldB (edgesG 0 [] bs))) R') (formG s = .error (11, i3)) e ∧ Below wr.heap.size wr w') := (usesO wr tb T _ bv bs (HT1.out.below HB5n.out) HF.out gp D (HG5.out.below hbel.out) S HKN.out SB hSl HSt.out (firstBad_none _ HP0.out) i3 x hi31 hx).mono (by
                rintro e w' ⟨h1, h2⟩
                obtain ⟨u, h3, h4, h5⟩ := uses_step HF.out hi31 hre.out hx hfb.out h1
                exact ⟨⟨u, h3, h4, fun hu => HE3.out S i3 HSV.out HP0.out (h5 hu)⟩, h2⟩)
              clear hx hre hfb
              go_wp2_with (first
                | (go_at_call 50; refine Calls.mono HUS.out ?_; rintro e w6 ⟨⟨u, rfl, hyes, hno⟩, hb6⟩; have HYES : Hid (u = true → ∃ done' R', Rest T bs (i3 + 1) done' R' ∧ firstBad (useBad S (heldB (edgesG 0 [] bs))) (itsFrom 0 bs) = firstBad (useBad S (heldB (edgesG 0 [] bs))) R') := hyes; have HNO : Hid (u = false → formG s = .error (11, i3)) := hno; have HB6 : Hid (Below w5.heap.size w5 w6) := hbel.out.trans (hb6.mono hbel.out.size); clear hyes hno hb6; cases u)
                | (refine wpList_load_arr rfl _ rfl _ rfl _ hA6 ?_))
              · have HB : Hid (formG s = .error (11, i3)) := HNO.out (by simp)
                go_wp2_with fail
                go_ret3
                exact ⟨VerOut.err HB.out rfl, HB1.out.trans ((HB5.out.trans (HB6.out.mono HB5.out.size)).mono HB1.out.size)⟩
              · obtain ⟨d', R', hR1, hR2⟩ := HYES.out (by simp)
                have HR1 : Hid (Rest T bs (i3 + 1) d' R') := hR1
                have HR2 : Hid (firstBad (useBad S (heldB (edgesG 0 [] bs))) (itsFrom 0 bs) = firstBad (useBad S (heldB (edgesG 0 [] bs))) R') := hR2
                clear hR1 hR2 HYES HNO
                go_wp2_with fail
                go_roundg (M - (i3 + 1))
                case measure => omega
                case rel => exact ⟨i3 + 1, d', R', by omega, by omega, by go_num, HR1, HR2, HB6⟩
            · have hi3' : ¬ (i3 : Int) < (M : Int) := by omega
              have HU0 : Hid (firstBad (useBad S (heldB (edgesG 0 [] bs))) (itsFrom 0 bs) = none) := rest_end hre.out (by have := HM.out; omega) hfb.out
              have HFIN : Hid (formG s = .ok (A, bs)) := HE4.out S HSV.out HP0.out HU0.out
              clear hre hfb hA6
              go_wp2_with fail
              go_ret3
              exact ⟨HOK.out _ _ HFIN.out ⟨tb, _, bv, rfl, HT1.out.below HB5n.out⟩, HB1.out.trans (HB5n.out.mono HB1.out.size)⟩

theorem verified_any (w : World) (s : BA) (hs : s.size ≤ 4294967280) :
    Calls Tryz.prog 31 #[.string s] w fun e w' => VerOut s e w' ∧ Below w.heap.size w w' := by
  cases h : readG 1 40 1000 s with
  | error e => exact verified_err w s hs e.1 e.2 h
  | ok r => exact verified_ok w s hs r.1 r.2 h

end Go.Proofs.YtbddcodljmglfaaGreatDoor
