/- What a form's fault is: of no run. And what follows on it. -/
import Derived.Test.YtbddcodljmglfaaGreatDoorStrayA
set_option linter.unusedSimpArgs false
set_option linter.unusedVariables false
namespace Go.Proofs.YtbddcodljmglfaaGreatDoor

open Classical in
/-- Is a over c? -/
noncomputable def heldB (L : List (Nat × Nat)) (a c : Nat) : Bool := decide (HeldF L (a : Int) c)
noncomputable def faultG (bs : List BlockG) : Option (Nat × Nat) := match settingsG [] (itsFrom 0 bs) with
  | .inl i => some (3, i)
  | .inr V => match firstBad (phiBad (edgesG 0 [] bs) bs.length) (itsFrom 0 bs) with
    | some i => some (10, i)
    | none => match firstBad (useBad V (heldB (edgesG 0 [] bs))) (itsFrom 0 bs) with
      | some i => some (11, i)
      | none => none
/-- A text: the form, or the error and the line. -/
noncomputable def formG (s : BA) : Except (Nat × Nat) (List Ver × List BlockG) := match readG 1 40 1000 s with
  | .error e => .error e
  | .ok (A, bs) => match faultG bs with | some e => .error e | none => .ok (A, bs)

theorem its_blk : ∀ (bs : List BlockG) (k : Nat), ∀ y ∈ itsFrom k bs, k ≤ y.blk ∧ y.blk < k + bs.length
  | [], k, y, hy => by simp [itsFrom] at hy
  | b :: r, k, y, hy => by
    simp only [itsFrom, blkIts] at hy
    rcases List.mem_append.1 hy with hy | hy
    · have : y.blk = k := by
        rcases List.mem_append.1 hy with hy | hy
        · exact phiIts_blk k _ _ y hy
        · exact lineIts_blk k _ _ y hy
      simp
      omega
    · have := its_blk r (k + 1) y hy
      simp
      omega
theorem phiIts_mem (k : Nat) : ∀ (L : List PhiG) (n : Nat) (p : PhiG), p ∈ L → ∃ a, (⟨k, a, .phi p⟩ : It) ∈ phiIts k n L
  | [], n, p, h => by simp at h
  | x :: L, n, p, h => by
    rcases List.mem_cons.1 h with rfl | h
    · exact ⟨n, by simp [phiIts]⟩
    · obtain ⟨a, ha⟩ := phiIts_mem k L (n + 1) p h
      exact ⟨a, by simp [phiIts, ha]⟩
theorem its_phi : ∀ (bs : List BlockG) (k : Nat) (b : BlockG) (p : PhiG), b ∈ bs → p ∈ b.phis → ∃ j a, (⟨j, a, .phi p⟩ : It) ∈ itsFrom k bs
  | [], k, b, p, h, _ => by simp at h
  | x :: r, k, b, p, h, hp => by
    rcases List.mem_cons.1 h with rfl | h
    · obtain ⟨a, ha⟩ := phiIts_mem k b.phis b.first p hp
      exact ⟨k, a, by simp [itsFrom, blkIts, ha]⟩
    · obtain ⟨j, a, ha⟩ := its_phi r (k + 1) b p h hp
      exact ⟨j, a, by simp [itsFrom, ha]⟩
theorem firstBad_none {f : It → Bool} : ∀ (l : List It), firstBad f l = none → ∀ y ∈ l, f y = false
  | [], _, y, hy => by simp at hy
  | x :: l, h, y, hy => by
    simp only [firstBad] at h
    split at h
    · cases h
    · rename_i hx
      rcases List.mem_cons.1 hy with rfl | hy
      · simpa using hx
      · exact firstBad_none l h y hy
theorem firstBad_congr {f g : It → Bool} : ∀ (l : List It), (∀ y ∈ l, f y = g y) → firstBad f l = firstBad g l
  | [], _ => rfl
  | x :: l, h => by
    simp only [firstBad]
    rw [h x (by simp), firstBad_congr l (fun y hy => h y (by simp [hy]))]
theorem settings_blk {N : Nat} : ∀ (l : List It) (S V : List (Ver × (Nat × Nat))), settingsG S l = .inr V → (∀ x ∈ S, x.2.1 < N) → (∀ y ∈ l, y.blk < N) → ∀ x ∈ V, x.2.1 < N
  | [], S, V, h, hS, _ => by simp [settingsG] at h; subst h; exact hS
  | y :: l, S, V, h, hS, hl => by
    simp only [settingsG] at h
    split at h
    · exact settings_blk l S V h hS (fun z hz => hl z (by simp [hz]))
    · split at h
      · refine settings_blk l _ V h ?_ (fun z hz => hl z (by simp [hz]))
        intro x hx
        rcases List.mem_append.1 hx with hx | hx
        · exact hS x hx
        · rw [List.mem_singleton] at hx
          subst hx
          exact hl y (by simp)
      · cases h
theorem findP_mem {V : List (Ver × (Nat × Nat))} {v : Ver} {p : Nat × Nat} (h : findP V v = some p) : (v, p) ∈ V := by
  unfold findP at h
  cases hq : V.find? (fun x => decide (v = x.1)) with
  | none => rw [hq] at h; cases h
  | some x =>
    rw [hq] at h
    simp at h
    subst h
    have h1 := List.find?_some hq
    have h2 := List.mem_of_find?_eq_some hq
    simp at h1
    rw [h1]
    exact h2
theorem phi_ahead {L : List (Nat × Nat)} {N : Nat} {y : It} {p : PhiG} (h : phiBad L N y = false) (hp : y.it = .phi p) : ∀ c ∈ p.choices, c.1 < N := by
  unfold phiBad at h
  rw [hp] at h
  simp at h
  intro c hc
  have : c.1 ∈ p.choices.map (·.1) := List.mem_map.2 ⟨c, hc, rfl⟩
  rw [h.2] at this
  unfold aheadTo at this
  have := (List.mem_filter.1 this).1
  simpa using this
theorem useBad_congr {V : List (Ver × (Nat × Nat))} {H H' : Nat → Nat → Bool} {N : Nat} (hN : 0 < N) (hH : ∀ a c, a < N → c < N → H a c = H' a c) (hV : ∀ v p, findP V v = some p → p.1 < N) {y : It} (hy : y.blk < N) (hc : ∀ p, y.it = .phi p → ∀ c ∈ p.choices, c.1 < N) : useBad V H y = useBad V H' y := by
  have hb : ∀ v b, b < N → behindB V H v b = behindB V H' v b := by
    intro v b hb
    unfold behindB
    cases hf : findP V v with
    | none => rfl
    | some p => simp only; rw [hH p.1 b (hV v p hf) hb]
  have ha : ∀ v a, atB V H v y.blk a = atB V H' v y.blk a := by
    intro v a
    unfold atB
    cases hf : findP V v with
    | none => rfl
    | some p => simp only; rw [hH p.1 y.blk (hV v p hf) hy]
  unfold useBad
  rw [hH 0 y.blk hN hy]
  congr 1
  cases hi : y.it with
  | phi p =>
    simp only
    have hcp := hc p hi
    rw [Bool.eq_iff_iff, List.any_eq_true, List.any_eq_true]
    constructor
    · rintro ⟨c, h1, h2⟩
      exact ⟨c, h1, by rw [← hH 0 c.1 hN (hcp c h1), ← hb c.2 c.1 (hcp c h1)]; exact h2⟩
    · rintro ⟨c, h1, h2⟩
      exact ⟨c, h1, by rw [hH 0 c.1 hN (hcp c h1), hb c.2 c.1 (hcp c h1)]; exact h2⟩
  | line l =>
    simp only
    rw [Bool.eq_iff_iff, List.any_eq_true, List.any_eq_true]
    constructor
    · rintro ⟨v, h1, h2⟩
      exact ⟨v, h1, by rw [← ha]; exact h2⟩
    · rintro ⟨v, h1, h2⟩
      exact ⟨v, h1, by rw [ha]; exact h2⟩

end Go.Proofs.YtbddcodljmglfaaGreatDoor

namespace Go.Proofs.YtbddcodljmglfaaGreatDoor
open Go.RowKit

/-- The form's faults, each as the code asks for it. -/
theorem fault_inl {bs : List BlockG} {i : Nat} (h : settingsG [] (itsFrom 0 bs) = .inl i) : faultG bs = some (3, i) := by unfold faultG; rw [h]
theorem fault_phi {bs : List BlockG} {V : List (Ver × (Nat × Nat))} {i : Nat} (h : settingsG [] (itsFrom 0 bs) = .inr V) (h2 : firstBad (phiBad (edgesG 0 [] bs) bs.length) (itsFrom 0 bs) = some i) : faultG bs = some (10, i) := by unfold faultG; rw [h]; simp only [h2]
theorem fault_use {bs : List BlockG} {V : List (Ver × (Nat × Nat))} (h : settingsG [] (itsFrom 0 bs) = .inr V) (h2 : firstBad (phiBad (edgesG 0 [] bs) bs.length) (itsFrom 0 bs) = none) : faultG bs = match firstBad (useBad V (heldB (edgesG 0 [] bs))) (itsFrom 0 bs) with | some i => some (11, i) | none => none := by unfold faultG; rw [h]; simp only [h2]; cases firstBad (useBad V (heldB (edgesG 0 [] bs))) (itsFrom 0 bs) <;> rfl

set_option maxRecDepth 100000 in
set_option maxHeartbeats 8000000 in
theorem fault_any (w : World) (pb : Nat) (av bv : Value) (A : List Ver) (B : List BV) (hP : ProgIn w av bv A B) (hb : BoxIn w pb 52 [av, bv]) (hN1 : 1 ≤ B.length) (hN : B.length ≤ 40) (hF : ∀ b ∈ B, b.first ≤ 100000 ∧ b.phis.length ≤ 100000 ∧ b.lines.length ≤ 1000) (hled : ∀ b ∈ B, ∀ x ∈ b.lines, ∀ k ∈ x.l.leads, k < B.length) :
    Calls Tryz.prog 68 #[.pointer (some ⟨pb, 0, none⟩)] w fun e w' => e = .returned (.tuple #[.int .i64 ((((faultG (B.map BV.g)).getD (0, 0)).1 : Nat) : Int), .int .i64 ((((faultG (B.map BV.g)).getD (0, 0)).2 : Nat) : Int)]) ∧ Below w.heap.size w w' := by
  have HSE : Hid (Calls Tryz.prog 117 #[.pointer (some ⟨pb, 0, none⟩)] w fun e w' => (∀ S, settingsG [] (itsFrom 0 (B.map BV.g)) = .inr S → ∃ m, e = .returned (.tuple #[.map (some m), .int .i64 0, .bool true]) ∧ PMap w' m S) ∧ (∀ i, settingsG [] (itsFrom 0 (B.map BV.g)) = .inl i → e = .returned (.tuple #[.map none, .int .i64 (i : Int), .bool false])) ∧ Below w.heap.size w w') := settings_any w pb av bv A B hP hb (by omega) (fun b hb => by have := hF b hb; omega)
  have HGR : Hid (∀ W, Below w.heap.size w W → Calls Tryz.prog 60 #[.pointer (some ⟨pb, 0, none⟩)] W fun e w' => ∃ m q, e = .returned (.agg #[.int .i64 (B.length : Int), .map (some m), .slice (some ⟨q, 0, none⟩) B.length B.length]) ∧ EMap w' m (edgesG 0 [] (B.map BV.g)) ∧ w'.heap[q]? = some (.cells (bits (List.replicate B.length false)).toArray 4 (0, 0)) ∧ Below W.heap.size W w') := fun W hW => pgraph_any W pb av bv A B (hP.below hW) (hb.below hW) hN1 hN (fun b hb => by have := hF b hb; omega) hled
  have HSP : Hid (∀ W gp m q L D, Below w.heap.size w W → GraphIn W gp m q B.length L D → Calls Tryz.prog 118 #[.pointer (some ⟨pb, 0, none⟩), .pointer (some ⟨gp, 0, none⟩)] W fun e w' => (∃ i : Nat, e = .returned (.tuple #[.int .i64 (i : Int), .bool (firstBad (phiBad L B.length) (itsFrom 0 (B.map BV.g))).isSome]) ∧ ∀ k, firstBad (phiBad L B.length) (itsFrom 0 (B.map BV.g)) = some k → i = k) ∧ Below W.heap.size W w') := fun W gp m q L D hW hG => strayPhi_any W pb gp m q L D av bv A B (hP.below hW) (hb.below hW) hG (fun b hb => by have := hF b hb; omega)
  have HSU : Hid (∀ W gp m q sm L D V, Below w.heap.size w W → GraphIn W gp m q B.length L D → PMap W sm V → (∀ v p, findP V v = some p → p.1 < B.length) → (∀ b ∈ B, ∀ x ∈ b.phis, ∀ c ∈ x.p.choices, c.1 < B.length) → Calls Tryz.prog 119 #[.pointer (some ⟨pb, 0, none⟩), .pointer (some ⟨gp, 0, none⟩), .map (some sm)] W fun e w' => ∃ H : Nat → Nat → Bool, (∀ a c : Nat, a < B.length → c < B.length → (H a c = true ↔ HeldF L (a : Int) c)) ∧ (∃ i : Nat, e = .returned (.tuple #[.int .i64 (i : Int), .bool (firstBad (useBad V H) (itsFrom 0 (B.map BV.g))).isSome]) ∧ ∀ k, firstBad (useBad V H) (itsFrom 0 (B.map BV.g)) = some k → i = k) ∧ Below W.heap.size W w') := fun W gp m q sm L D V hW hG hM hV hch => strayUse_any W pb gp m q sm L D V av bv A B (hP.below hW) (hb.below hW) hG hM hV (fun b hb => by have := hF b hb; omega) hch
  have HLT : Hid (∀ x ∈ edgesG 0 [] (B.map BV.g), x.1 < B.length ∧ x.2 < B.length) := by
    intro x hx
    rcases (mem_edgesG _ _ _).1 hx with h | ⟨k, b, h1, h2, l, h3, h4⟩
    · simp at h
    · rw [List.getElem?_map] at h1
      cases hq : B[k]? with
      | none => rw [hq] at h1; cases h1
      | some b' =>
        rw [hq] at h1
        injection h1 with h1
        subst h1
        have hkl := (List.getElem?_eq_some_iff.1 hq).1
        have hbm := List.mem_of_getElem? hq
        have h3' : l ∈ b'.lines.map (·.l) := h3
        obtain ⟨xx, hxx, rfl⟩ := List.mem_map.1 h3'
        exact ⟨by omega, hled b' hbm xx hxx x.2 h4⟩
  have HGI : Hid (∀ W gp m q, BoxIn W gp 101 [.int .i64 (B.length : Int), .map (some m), .slice (some ⟨q, 0, none⟩) B.length B.length] → EMap W m (edgesG 0 [] (B.map BV.g)) → W.heap[q]? = some (.cells (bits (List.replicate B.length false)).toArray 4 (0, 0)) → GraphIn W gp m q B.length (edgesG 0 [] (B.map BV.g)) (List.replicate B.length false)) := fun W gp m q h1 h2 h3 => ⟨h1, h2, h3, by simp, hN1, hN, HLT.out⟩
  have hlen : (B.map BV.g).length = B.length := by simp
  clear hP hb hF hled
  cases hse : settingsG [] (itsFrom 0 (B.map BV.g)) with
  | inl i =>
    have HR : Hid (faultG (B.map BV.g) = some (3, i)) := fault_inl hse
    have HSE1 : Hid (Calls Tryz.prog 117 #[.pointer (some ⟨pb, 0, none⟩)] w fun e w' => e = .returned (.tuple #[.map none, .int .i64 (i : Int), .bool false]) ∧ Below w.heap.size w w') := HSE.out.mono (by rintro e w' ⟨-, h2, h3⟩; exact ⟨h2 i hse, h3⟩)
    clear HSE hse HGR HSP HSU HGI HLT
    rw [HR.out]
    simp only [Option.getD_some]
    go_enter Tryz.func68, Tryz.ntmps68
    go_wp2_with (first
      | (go_at_call 117; refine Calls.mono HSE1.out ?_; rintro e w1 ⟨rfl, hb1⟩; have HB1 : Hid (Below w.heap.size w w1) := hb1; clear hb1))
    go_ret2
    exact ⟨rfl, HB1.out⟩
  | inr V =>
    have HSE1 : Hid (Calls Tryz.prog 117 #[.pointer (some ⟨pb, 0, none⟩)] w fun e w' => (∃ m, e = .returned (.tuple #[.map (some m), .int .i64 0, .bool true]) ∧ PMap w' m V) ∧ Below w.heap.size w w') := HSE.out.mono (by rintro e w' ⟨h1, -, h3⟩; exact ⟨h1 V hse, h3⟩)
    have HV : Hid (∀ v p, findP V v = some p → p.1 < B.length) := fun v p h => by
      have := settings_blk (N := B.length) (itsFrom 0 (B.map BV.g)) [] V hse (by simp) (fun y hy => by have := its_blk _ _ y hy; simp at this; omega) _ (findP_mem h)
      exact this
    clear HSE
    cases hfb : firstBad (phiBad (edgesG 0 [] (B.map BV.g)) B.length) (itsFrom 0 (B.map BV.g)) with
    | some i =>
      have HR : Hid (faultG (B.map BV.g) = some (10, i)) := fault_phi hse (by rw [hlen]; exact hfb)
      have HSP1 : Hid (∀ W gp m q, Below w.heap.size w W → GraphIn W gp m q B.length (edgesG 0 [] (B.map BV.g)) (List.replicate B.length false) → Calls Tryz.prog 118 #[.pointer (some ⟨pb, 0, none⟩), .pointer (some ⟨gp, 0, none⟩)] W fun e w' => e = .returned (.tuple #[.int .i64 (i : Int), .bool true]) ∧ Below W.heap.size W w') := fun W gp m q hW hG => (HSP.out W gp m q _ _ hW hG).mono (by
        rintro e w' ⟨⟨i', rfl, h2⟩, h3⟩
        rw [hfb]
        obtain rfl := h2 i hfb
        exact ⟨rfl, h3⟩)
      rw [HR.out]
      simp only [Option.getD_some]
      clear HSP HSU hse hfb HV HLT hlen
      go_enter Tryz.func68, Tryz.ntmps68
      go_wp2_with (first
        | (go_at_call 117; refine Calls.mono HSE1.out ?_; rintro e w1 ⟨⟨sm, rfl, hpm⟩, hb1⟩; have HB1 : Hid (Below w.heap.size w w1) := hb1; clear hb1 hpm)
        | (go_at_call 60; refine (HGR.out _ HB1.out).mono ?_; rintro e w2 ⟨m, q, rfl, hem, hends, hb2⟩; have HB2 : Hid (Below w.heap.size w w2) := HB1.out.trans (hb2.mono HB1.out.size); have HG2 : Hid (GraphIn (w2.alloc (.cells #[.int .i64 (B.length : Int), .map (some m), .slice (some ⟨q, 0, none⟩) B.length B.length] 101)) w2.heap.size m q B.length (edgesG 0 [] (B.map BV.g)) (List.replicate B.length false)) := HGI.out _ _ _ _ (BoxIn.new w2 101 [.int .i64 (B.length : Int), .map (some m), .slice (some ⟨q, 0, none⟩) B.length B.length]) (hem.of_block (Below.heap_alloc _ _ _ hem.lt)) ((Below.heap_alloc _ _ _ (blk_lt hends)).trans hends); clear hem hends hb2)
        | (go_at_call 118; refine (HSP1.out _ _ _ _ (HB2.out.alloc HB2.out.size _) HG2.out).mono ?_; rintro e w3 ⟨rfl, hb3⟩; have HB3 : Hid (Below w.heap.size w w3) := (HB2.out.alloc HB2.out.size _).trans (hb3.mono (by have := HB2.out.size; simp; omega)); clear hb3))
      go_ret2
      exact ⟨rfl, HB3.out⟩
    | none =>
      have hall := firstBad_none _ hfb
      have HCH : Hid (∀ b ∈ B, ∀ x ∈ b.phis, ∀ c ∈ x.p.choices, c.1 < B.length) := fun b hb x hx => by
        obtain ⟨j, a, hm⟩ := its_phi (B.map BV.g) 0 b.g x.p (List.mem_map.2 ⟨b, hb, rfl⟩) (List.mem_map.2 ⟨x, hx, rfl⟩)
        exact phi_ahead (hall _ hm) rfl
      have HSP1 : Hid (∀ W gp m q, Below w.heap.size w W → GraphIn W gp m q B.length (edgesG 0 [] (B.map BV.g)) (List.replicate B.length false) → Calls Tryz.prog 118 #[.pointer (some ⟨pb, 0, none⟩), .pointer (some ⟨gp, 0, none⟩)] W fun e w' => (∃ i : Nat, e = .returned (.tuple #[.int .i64 (i : Int), .bool false])) ∧ Below W.heap.size W w') := fun W gp m q hW hG => (HSP.out W gp m q _ _ hW hG).mono (by
        rintro e w' ⟨⟨i', rfl, h2⟩, h3⟩
        rw [hfb]
        exact ⟨⟨i', rfl⟩, h3⟩)
      have HFU := fault_use hse (by rw [hlen]; exact hfb)
      have HSU1 : Hid (∀ W gp m q sm, Below w.heap.size w W → GraphIn W gp m q B.length (edgesG 0 [] (B.map BV.g)) (List.replicate B.length false) → PMap W sm V → Calls Tryz.prog 119 #[.pointer (some ⟨pb, 0, none⟩), .pointer (some ⟨gp, 0, none⟩), .map (some sm)] W fun e w' => (∃ i : Nat, e = .returned (.tuple #[.int .i64 (i : Int), .bool (firstBad (useBad V (heldB (edgesG 0 [] (B.map BV.g)))) (itsFrom 0 (B.map BV.g))).isSome]) ∧ ∀ k, firstBad (useBad V (heldB (edgesG 0 [] (B.map BV.g)))) (itsFrom 0 (B.map BV.g)) = some k → i = k) ∧ Below W.heap.size W w') := fun W gp m q sm hW hG hM => (HSU.out W gp m q sm _ _ V hW hG hM HV.out HCH.out).mono (by
        rintro e w' ⟨H, hH, h2, h3⟩
        have hcg : firstBad (useBad V H) (itsFrom 0 (B.map BV.g)) = firstBad (useBad V (heldB (edgesG 0 [] (B.map BV.g)))) (itsFrom 0 (B.map BV.g)) := by
          apply firstBad_congr
          intro y hy
          refine useBad_congr (N := B.length) (by omega) (fun a c ha hc => ?_) HV.out (by have := its_blk _ _ y hy; simp at this; omega) (fun p hp => phi_ahead (hall y hy) hp)
          rw [Bool.eq_iff_iff, hH a c ha hc]
          simp [heldB]
        rw [hcg] at h2
        exact ⟨h2, h3⟩)
      rw [HFU]
      clear HSP HSU hse hfb HV HLT hlen HFU HCH hall
      generalize firstBad (useBad V (heldB (edgesG 0 [] (B.map BV.g)))) (itsFrom 0 (B.map BV.g)) = fu at *
      cases fu with
      | none =>
        simp only [Option.getD_none, Option.isSome_none] at *
        go_enter Tryz.func68, Tryz.ntmps68
        go_wp2_with (first
          | (go_at_call 117; refine Calls.mono HSE1.out ?_; rintro e w1 ⟨⟨sm, rfl, hpm⟩, hb1⟩; have HB1 : Hid (Below w.heap.size w w1) := hb1; have HPM : Hid (PMap w1 sm V) := hpm; clear hb1 hpm)
          | (go_at_call 60; refine (HGR.out _ HB1.out).mono ?_; rintro e w2 ⟨m, q, rfl, hem, hends, hb2⟩; have HB2 : Hid (Below w.heap.size w w2) := HB1.out.trans (hb2.mono HB1.out.size); have HPM2 : Hid (PMap (w2.alloc (.cells #[.int .i64 (B.length : Int), .map (some m), .slice (some ⟨q, 0, none⟩) B.length B.length] 101)) sm V) := (HPM.out.below hb2).below ((Below.refl _ _).alloc (Nat.le_refl _) _); have HG2 : Hid (GraphIn (w2.alloc (.cells #[.int .i64 (B.length : Int), .map (some m), .slice (some ⟨q, 0, none⟩) B.length B.length] 101)) w2.heap.size m q B.length (edgesG 0 [] (B.map BV.g)) (List.replicate B.length false)) := HGI.out _ _ _ _ (BoxIn.new w2 101 [.int .i64 (B.length : Int), .map (some m), .slice (some ⟨q, 0, none⟩) B.length B.length]) (hem.of_block (Below.heap_alloc _ _ _ hem.lt)) ((Below.heap_alloc _ _ _ (blk_lt hends)).trans hends); clear hem hends hb2)
          | (go_at_call 118; refine (HSP1.out _ _ _ _ (HB2.out.alloc HB2.out.size _) HG2.out).mono ?_; rintro e w3 ⟨⟨i3, rfl⟩, hb3⟩; have HB3 : Hid (Below w.heap.size w w3) := (HB2.out.alloc HB2.out.size _).trans (hb3.mono (by have := HB2.out.size; simp; omega)); have HG3 : Hid _ := HG2.out.below hb3; have HPM3 : Hid _ := HPM2.out.below hb3; clear hb3)
          | (go_at_call 119; refine (HSU1.out _ _ _ _ _ HB3.out HG3.out HPM3.out).mono ?_; rintro e w4 ⟨⟨i4, rfl, -⟩, hb4⟩; have HB4 : Hid (Below w.heap.size w w4) := HB3.out.trans (hb4.mono HB3.out.size); clear hb4))
        go_ret2
        exact ⟨rfl, HB4.out⟩
      | some i =>
        simp only [Option.getD_some, Option.isSome_some] at *
        go_enter Tryz.func68, Tryz.ntmps68
        go_wp2_with (first
          | (go_at_call 117; refine Calls.mono HSE1.out ?_; rintro e w1 ⟨⟨sm, rfl, hpm⟩, hb1⟩; have HB1 : Hid (Below w.heap.size w w1) := hb1; have HPM : Hid (PMap w1 sm V) := hpm; clear hb1 hpm)
          | (go_at_call 60; refine (HGR.out _ HB1.out).mono ?_; rintro e w2 ⟨m, q, rfl, hem, hends, hb2⟩; have HB2 : Hid (Below w.heap.size w w2) := HB1.out.trans (hb2.mono HB1.out.size); have HPM2 : Hid (PMap (w2.alloc (.cells #[.int .i64 (B.length : Int), .map (some m), .slice (some ⟨q, 0, none⟩) B.length B.length] 101)) sm V) := (HPM.out.below hb2).below ((Below.refl _ _).alloc (Nat.le_refl _) _); have HG2 : Hid (GraphIn (w2.alloc (.cells #[.int .i64 (B.length : Int), .map (some m), .slice (some ⟨q, 0, none⟩) B.length B.length] 101)) w2.heap.size m q B.length (edgesG 0 [] (B.map BV.g)) (List.replicate B.length false)) := HGI.out _ _ _ _ (BoxIn.new w2 101 [.int .i64 (B.length : Int), .map (some m), .slice (some ⟨q, 0, none⟩) B.length B.length]) (hem.of_block (Below.heap_alloc _ _ _ hem.lt)) ((Below.heap_alloc _ _ _ (blk_lt hends)).trans hends); clear hem hends hb2)
          | (go_at_call 118; refine (HSP1.out _ _ _ _ (HB2.out.alloc HB2.out.size _) HG2.out).mono ?_; rintro e w3 ⟨⟨i3, rfl⟩, hb3⟩; have HB3 : Hid (Below w.heap.size w w3) := (HB2.out.alloc HB2.out.size _).trans (hb3.mono (by have := HB2.out.size; simp; omega)); have HG3 : Hid _ := HG2.out.below hb3; have HPM3 : Hid _ := HPM2.out.below hb3; clear hb3)
          | (go_at_call 119; refine (HSU1.out _ _ _ _ _ HB3.out HG3.out HPM3.out).mono ?_; rintro e w4 ⟨⟨i4, rfl, h4⟩, hb4⟩; obtain rfl := h4 i rfl; have HB4 : Hid (Below w.heap.size w w4) := HB3.out.trans (hb4.mono HB3.out.size); clear hb4 h4))
        go_ret2
        exact ⟨rfl, HB4.out⟩

end Go.Proofs.YtbddcodljmglfaaGreatDoor
