/- forms.fault. -/
import Derived.Test.YtbddcodljmglfaaGreatDoorFaultMath
set_option linter.unusedSimpArgs false
set_option linter.unusedVariables false
namespace Go.Proofs.YtbddcodljmglfaaGreatDoor
open Go.RowKit

/-- The form's faults, each as the code asks for it. -/
theorem fault_inl {bs : List BlockG} {i : Nat} (h : settingsG [] (itsFrom 0 bs) = .inl i) : faultG bs = some (3, i) := by unfold faultG; rw [h]
theorem fault_phi {bs : List BlockG} {V : List (Ver × (Nat × Nat))} {i : Nat} (h : settingsG [] (itsFrom 0 bs) = .inr V) (h2 : firstBad (phiBad (edgesG 0 [] bs) bs.length) (itsFrom 0 bs) = some i) : faultG bs = some (10, i) := by unfold faultG; rw [h]; simp only [h2]
theorem fault_use {bs : List BlockG} {V : List (Ver × (Nat × Nat))} (h : settingsG [] (itsFrom 0 bs) = .inr V) (h2 : firstBad (phiBad (edgesG 0 [] bs) bs.length) (itsFrom 0 bs) = none) : faultG bs = match firstBad (useBad V (heldB (edgesG 0 [] bs))) (itsFrom 0 bs) with | some i => some (11, i) | none => none := by unfold faultG; rw [h]; simp only [h2]; cases firstBad (useBad V (heldB (edgesG 0 [] bs))) (itsFrom 0 bs) <;> rfl

set_option maxRecDepth 100000 in
set_option maxHeartbeats 8000000 in
theorem fault_any (w : World) (pb : Nat) (av bv : Value) (A : List Ver) (B : List BV) (hP : ProgIn w av bv A B) (hb : BoxIn w pb 52 [av, bv]) (hN1 : 1 ≤ B.length) (hN : B.length ≤ 40) (hF : ∀ b ∈ B, b.first ≤ 100000 ∧ b.phis.length ≤ 100000 ∧ b.lines.length ≤ 1000) (hled : ∀ b ∈ B, ∀ x ∈ b.lines, ∀ k ∈ x.l.leads, k < B.length) :
    Calls Tryz.prog 68 #[.pointer (some ⟨pb, 0, none⟩)] w fun e w' => e = .returned (.tuple #[.int .i64 ((((faultG (B.map BV.g)).getD (0, 0)).1 : Nat) : Int), .int .i64 ((((faultG (B.map BV.g)).getD (0, 0)).2 : Nat) : Int)]) ∧ Below w.heap.size w w' := by
  have HSE : Hid (Calls Tryz.prog 117 #[.pointer (some ⟨pb, 0, none⟩)] w fun e w' => (∀ S, settingsG [] (itsFrom 0 (B.map BV.g)) = .inr S → ∃ m, e = .returned (.tuple #[.map (some m), .int .i64 0, .bool true]) ∧ PMap w' m S) ∧ (∀ i, settingsG [] (itsFrom 0 (B.map BV.g)) = .inl i → e = .returned (.tuple #[.map none, .int .i64 (i : Int), .bool false])) ∧ Below w.heap.size w w') := settings_any w pb av bv A B hP hb (by omega) (fun b hb => by have := hF b hb; omega)
  have HGR : Hid (∀ W, Below w.heap.size w W → Calls Tryz.prog 60 #[.pointer (some ⟨pb, 0, none⟩)] W fun e w' => ∃ m q, e = .returned (.agg #[.int .i64 (B.length : Int), .map (some m), .slice (some ⟨q, 0, none⟩) B.length B.length]) ∧ EMap w' m (edgesG 0 [] (B.map BV.g)) ∧ w'.heap[q]? = some (.cells (bits (List.replicate B.length false)).toArray 4 (0, 0)) ∧ Below W.heap.size W w') := fun W hW => pgraph_any W pb av bv A B (hP.below hW) (hb.below hW) hN1 hN (fun b hb => by have := hF b hb; omega) hled
  have HSP : Hid (∀ W gp m q L D, Below w.heap.size w W → GraphIn W gp m q B.length L D → Calls Tryz.prog 118 #[.pointer (some ⟨pb, 0, none⟩), .pointer (some ⟨gp, 0, none⟩)] W fun e w' => (∃ i : Nat, e = .returned (.tuple #[.int .i64 (i : Int), .bool (firstBad (phiBad L B.length) (itsFrom 0 (B.map BV.g))).isSome]) ∧ ∀ k, firstBad (phiBad L B.length) (itsFrom 0 (B.map BV.g)) = some k → i = k) ∧ Below W.heap.size W w') := fun W gp m q L D hW hG => strayPhi_any W pb gp m q L D av bv A B (hP.below hW) (hb.below hW) hG (fun b hb => by have := hF b hb; omega)
  have HSU : Hid (∀ W gp m q sm L D V, Below w.heap.size w W → GraphIn W gp m q B.length L D → PMap W sm V → (∀ v p, findP V v = some p → p.1 < B.length) → (∀ b ∈ B, ∀ x ∈ b.phis, ∀ c ∈ x.p.choices, c.1 < B.length) → Calls Tryz.prog 119 #[.pointer (some ⟨pb, 0, none⟩), .pointer (some ⟨gp, 0, none⟩), .map (some sm)] W fun e w' => ∃ H : Nat → Nat → Bool, (∀ a c : Nat, a < B.length → c < B.length → (H a c = true ↔ HeldF L (a : Int) c)) ∧ (∃ i : Nat, e = .returned (.tuple #[.int .i64 (i : Int), .bool (firstBad (useBad V H) (itsFrom 0 (B.map BV.g))).isSome]) ∧ ∀ k, firstBad (useBad V H) (itsFrom 0 (B.map BV.g)) = some k → i = k) ∧ Below W.heap.size W w') := fun W gp m q sm L D V hW hG hM hV hch => strayUse_any W pb gp m q sm L D V av bv A B (hP.below hW) (hb.below hW) hG hM hV (fun b hb => by have := hF b hb; omega) hch
  have HLT : Hid (∀ x ∈ edgesG 0 [] (B.map BV.g), x.1 < B.length ∧ x.2 < B.length) := by
    intro x hx
    rcases (mem_edgesG _ _ _).1 hx with h | ⟨k, b, h1, h2, l, h3, h4⟩
    · simp at h
    · rw [List.getElem?_map] at h1
      cases hq : B[k]? with
      | none => rw [hq] at h1; cases h1
      | some b' =>
        rw [hq] at h1
        injection h1 with h1
        subst h1
        have hkl := (List.getElem?_eq_some_iff.1 hq).1
        have hbm := List.mem_of_getElem? hq
        have h3' : l ∈ b'.lines.map (·.l) := h3
        obtain ⟨xx, hxx, rfl⟩ := List.mem_map.1 h3'
        exact ⟨by omega, hled b' hbm xx hxx x.2 h4⟩
  have HGI : Hid (∀ W gp m q, BoxIn W gp 101 [.int .i64 (B.length : Int), .map (some m), .slice (some ⟨q, 0, none⟩) B.length B.length] → EMap W m (edgesG 0 [] (B.map BV.g)) → W.heap[q]? = some (.cells (bits (List.replicate B.length false)).toArray 4 (0, 0)) → GraphIn W gp m q B.length (edgesG 0 [] (B.map BV.g)) (List.replicate B.length false)) := fun W gp m q h1 h2 h3 => ⟨h1, h2, h3, by simp, hN1, hN, HLT.out⟩
  have hlen : (B.map BV.g).length = B.length := by simp
  clear hP hb hF hled
  cases hse : settingsG [] (itsFrom 0 (B.map BV.g)) with
  | inl i =>
    have HR : Hid (faultG (B.map BV.g) = some (3, i)) := fault_inl hse
    have HSE1 : Hid (Calls Tryz.prog 117 #[.pointer (some ⟨pb, 0, none⟩)] w fun e w' => e = .returned (.tuple #[.map none, .int .i64 (i : Int), .bool false]) ∧ Below w.heap.size w w') := HSE.out.mono (by rintro e w' ⟨-, h2, h3⟩; exact ⟨h2 i hse, h3⟩)
    clear HSE hse HGR HSP HSU HGI HLT
    rw [HR.out]
    simp only [Option.getD_some]
    go_enter Tryz.func68, Tryz.ntmps68
    go_wp2_with (first
      | (go_at_call 117; refine Calls.mono HSE1.out ?_; rintro e w1 ⟨rfl, hb1⟩; have HB1 : Hid (Below w.heap.size w w1) := hb1; clear hb1))
    go_ret2
    exact ⟨rfl, HB1.out⟩
  | inr V =>
    have HSE1 : Hid (Calls Tryz.prog 117 #[.pointer (some ⟨pb, 0, none⟩)] w fun e w' => (∃ m, e = .returned (.tuple #[.map (some m), .int .i64 0, .bool true]) ∧ PMap w' m V) ∧ Below w.heap.size w w') := HSE.out.mono (by rintro e w' ⟨h1, -, h3⟩; exact ⟨h1 V hse, h3⟩)
    have HV : Hid (∀ v p, findP V v = some p → p.1 < B.length) := fun v p h => by
      have := settings_blk (N := B.length) (itsFrom 0 (B.map BV.g)) [] V hse (by simp) (fun y hy => by have := its_blk _ _ y hy; simp at this; omega) _ (findP_mem h)
      exact this
    clear HSE
    cases hfb : firstBad (phiBad (edgesG 0 [] (B.map BV.g)) B.length) (itsFrom 0 (B.map BV.g)) with
    | some i =>
      have HR : Hid (faultG (B.map BV.g) = some (10, i)) := fault_phi hse (by rw [hlen]; exact hfb)
      have HSP1 : Hid (∀ W gp m q, Below w.heap.size w W → GraphIn W gp m q B.length (edgesG 0 [] (B.map BV.g)) (List.replicate B.length false) → Calls Tryz.prog 118 #[.pointer (some ⟨pb, 0, none⟩), .pointer (some ⟨gp, 0, none⟩)] W fun e w' => e = .returned (.tuple #[.int .i64 (i : Int), .bool true]) ∧ Below W.heap.size W w') := fun W gp m q hW hG => (HSP.out W gp m q _ _ hW hG).mono (by
        rintro e w' ⟨⟨i', rfl, h2⟩, h3⟩
        rw [hfb]
        obtain rfl := h2 i hfb
        exact ⟨rfl, h3⟩)
      rw [HR.out]
      simp only [Option.getD_some]
      clear HSP HSU hse hfb HV HLT hlen
      go_enter Tryz.func68, Tryz.ntmps68
      go_wp2_with (first
        | (go_at_call 117; refine Calls.mono HSE1.out ?_; rintro e w1 ⟨⟨sm, rfl, hpm⟩, hb1⟩; have HB1 : Hid (Below w.heap.size w w1) := hb1; clear hb1 hpm)
        | (go_at_call 60; refine (HGR.out _ HB1.out).mono ?_; rintro e w2 ⟨m, q, rfl, hem, hends, hb2⟩; have HB2 : Hid (Below w.heap.size w w2) := HB1.out.trans (hb2.mono HB1.out.size); have HG2 : Hid (GraphIn (w2.alloc (.cells #[.int .i64 (B.length : Int), .map (some m), .slice (some ⟨q, 0, none⟩) B.length B.length] 101)) w2.heap.size m q B.length (edgesG 0 [] (B.map BV.g)) (List.replicate B.length false)) := HGI.out _ _ _ _ (BoxIn.new w2 101 [.int .i64 (B.length : Int), .map (some m), .slice (some ⟨q, 0, none⟩) B.length B.length]) (hem.of_block (Below.heap_alloc _ _ _ hem.lt)) ((Below.heap_alloc _ _ _ (blk_lt hends)).trans hends); clear hem hends hb2)
        | (go_at_call 118; refine (HSP1.out _ _ _ _ (HB2.out.alloc HB2.out.size _) HG2.out).mono ?_; rintro e w3 ⟨rfl, hb3⟩; have HB3 : Hid (Below w.heap.size w w3) := (HB2.out.alloc HB2.out.size _).trans (hb3.mono (by have := HB2.out.size; simp; omega)); clear hb3))
      go_ret2
      exact ⟨rfl, HB3.out⟩
    | none =>
      have hall := firstBad_none _ hfb
      have HCH : Hid (∀ b ∈ B, ∀ x ∈ b.phis, ∀ c ∈ x.p.choices, c.1 < B.length) := fun b hb x hx => by
        obtain ⟨j, a, hm⟩ := its_phi (B.map BV.g) 0 b.g x.p (List.mem_map.2 ⟨b, hb, rfl⟩) (List.mem_map.2 ⟨x, hx, rfl⟩)
        exact phi_ahead (hall _ hm) rfl
      have HSP1 : Hid (∀ W gp m q, Below w.heap.size w W → GraphIn W gp m q B.length (edgesG 0 [] (B.map BV.g)) (List.replicate B.length false) → Calls Tryz.prog 118 #[.pointer (some ⟨pb, 0, none⟩), .pointer (some ⟨gp, 0, none⟩)] W fun e w' => (∃ i : Nat, e = .returned (.tuple #[.int .i64 (i : Int), .bool false])) ∧ Below W.heap.size W w') := fun W gp m q hW hG => (HSP.out W gp m q _ _ hW hG).mono (by
        rintro e w' ⟨⟨i', rfl, h2⟩, h3⟩
        rw [hfb]
        exact ⟨⟨i', rfl⟩, h3⟩)
      have HFU := fault_use hse (by rw [hlen]; exact hfb)
      have HSU1 : Hid (∀ W gp m q sm, Below w.heap.size w W → GraphIn W gp m q B.length (edgesG 0 [] (B.map BV.g)) (List.replicate B.length false) → PMap W sm V → Calls Tryz.prog 119 #[.pointer (some ⟨pb, 0, none⟩), .pointer (some ⟨gp, 0, none⟩), .map (some sm)] W fun e w' => (∃ i : Nat, e = .returned (.tuple #[.int .i64 (i : Int), .bool (firstBad (useBad V (heldB (edgesG 0 [] (B.map BV.g)))) (itsFrom 0 (B.map BV.g))).isSome]) ∧ ∀ k, firstBad (useBad V (heldB (edgesG 0 [] (B.map BV.g)))) (itsFrom 0 (B.map BV.g)) = some k → i = k) ∧ Below W.heap.size W w') := fun W gp m q sm hW hG hM => (HSU.out W gp m q sm _ _ V hW hG hM HV.out HCH.out).mono (by
        rintro e w' ⟨H, hH, h2, h3⟩
        have hcg : firstBad (useBad V H) (itsFrom 0 (B.map BV.g)) = firstBad (useBad V (heldB (edgesG 0 [] (B.map BV.g)))) (itsFrom 0 (B.map BV.g)) := by
          apply firstBad_congr
          intro y hy
          refine useBad_congr (N := B.length) (by omega) (fun a c ha hc => ?_) HV.out (by have := its_blk _ _ y hy; simp at this; omega) (fun p hp => phi_ahead (hall y hy) hp)
          rw [Bool.eq_iff_iff, hH a c ha hc]
          simp [heldB]
        rw [hcg] at h2
        exact ⟨h2, h3⟩)
      rw [HFU]
      clear HSP HSU hse hfb HV HLT hlen HFU HCH hall
      generalize firstBad (useBad V (heldB (edgesG 0 [] (B.map BV.g)))) (itsFrom 0 (B.map BV.g)) = fu at *
      cases fu with
      | none =>
        simp only [Option.getD_none, Option.isSome_none] at *
        go_enter Tryz.func68, Tryz.ntmps68
        go_wp2_with (first
          | (go_at_call 117; refine Calls.mono HSE1.out ?_; rintro e w1 ⟨⟨sm, rfl, hpm⟩, hb1⟩; have HB1 : Hid (Below w.heap.size w w1) := hb1; have HPM : Hid (PMap w1 sm V) := hpm; clear hb1 hpm)
          | (go_at_call 60; refine (HGR.out _ HB1.out).mono ?_; rintro e w2 ⟨m, q, rfl, hem, hends, hb2⟩; have HB2 : Hid (Below w.heap.size w w2) := HB1.out.trans (hb2.mono HB1.out.size); have HPM2 : Hid (PMap (w2.alloc (.cells #[.int .i64 (B.length : Int), .map (some m), .slice (some ⟨q, 0, none⟩) B.length B.length] 101)) sm V) := (HPM.out.below hb2).below ((Below.refl _ _).alloc (Nat.le_refl _) _); have HG2 : Hid (GraphIn (w2.alloc (.cells #[.int .i64 (B.length : Int), .map (some m), .slice (some ⟨q, 0, none⟩) B.length B.length] 101)) w2.heap.size m q B.length (edgesG 0 [] (B.map BV.g)) (List.replicate B.length false)) := HGI.out _ _ _ _ (BoxIn.new w2 101 [.int .i64 (B.length : Int), .map (some m), .slice (some ⟨q, 0, none⟩) B.length B.length]) (hem.of_block (Below.heap_alloc _ _ _ hem.lt)) ((Below.heap_alloc _ _ _ (blk_lt hends)).trans hends); clear hem hends hb2)
          | (go_at_call 118; refine (HSP1.out _ _ _ _ (HB2.out.alloc HB2.out.size _) HG2.out).mono ?_; rintro e w3 ⟨⟨i3, rfl⟩, hb3⟩; have HB3 : Hid (Below w.heap.size w w3) := (HB2.out.alloc HB2.out.size _).trans (hb3.mono (by have := HB2.out.size; simp; omega)); have HG3 : Hid _ := HG2.out.below hb3; have HPM3 : Hid _ := HPM2.out.below hb3; clear hb3)
          | (go_at_call 119; refine (HSU1.out _ _ _ _ _ HB3.out HG3.out HPM3.out).mono ?_; rintro e w4 ⟨⟨i4, rfl, -⟩, hb4⟩; have HB4 : Hid (Below w.heap.size w w4) := HB3.out.trans (hb4.mono HB3.out.size); clear hb4))
        go_ret2
        exact ⟨rfl, HB4.out⟩
      | some i =>
        simp only [Option.getD_some, Option.isSome_some] at *
        go_enter Tryz.func68, Tryz.ntmps68
        go_wp2_with (first
          | (go_at_call 117; refine Calls.mono HSE1.out ?_; rintro e w1 ⟨⟨sm, rfl, hpm⟩, hb1⟩; have HB1 : Hid (Below w.heap.size w w1) := hb1; have HPM : Hid (PMap w1 sm V) := hpm; clear hb1 hpm)
          | (go_at_call 60; refine (HGR.out _ HB1.out).mono ?_; rintro e w2 ⟨m, q, rfl, hem, hends, hb2⟩; have HB2 : Hid (Below w.heap.size w w2) := HB1.out.trans (hb2.mono HB1.out.size); have HPM2 : Hid (PMap (w2.alloc (.cells #[.int .i64 (B.length : Int), .map (some m), .slice (some ⟨q, 0, none⟩) B.length B.length] 101)) sm V) := (HPM.out.below hb2).below ((Below.refl _ _).alloc (Nat.le_refl _) _); have HG2 : Hid (GraphIn (w2.alloc (.cells #[.int .i64 (B.length : Int), .map (some m), .slice (some ⟨q, 0, none⟩) B.length B.length] 101)) w2.heap.size m q B.length (edgesG 0 [] (B.map BV.g)) (List.replicate B.length false)) := HGI.out _ _ _ _ (BoxIn.new w2 101 [.int .i64 (B.length : Int), .map (some m), .slice (some ⟨q, 0, none⟩) B.length B.length]) (hem.of_block (Below.heap_alloc _ _ _ hem.lt)) ((Below.heap_alloc _ _ _ (blk_lt hends)).trans hends); clear hem hends hb2)
          | (go_at_call 118; refine (HSP1.out _ _ _ _ (HB2.out.alloc HB2.out.size _) HG2.out).mono ?_; rintro e w3 ⟨⟨i3, rfl⟩, hb3⟩; have HB3 : Hid (Below w.heap.size w w3) := (HB2.out.alloc HB2.out.size _).trans (hb3.mono (by have := HB2.out.size; simp; omega)); have HG3 : Hid _ := HG2.out.below hb3; have HPM3 : Hid _ := HPM2.out.below hb3; clear hb3)
          | (go_at_call 119; refine (HSU1.out _ _ _ _ _ HB3.out HG3.out HPM3.out).mono ?_; rintro e w4 ⟨⟨i4, rfl, h4⟩, hb4⟩; obtain rfl := h4 i rfl; have HB4 : Hid (Below w.heap.size w w4) := HB3.out.trans (hb4.mono HB3.out.size); clear hb4 h4))
        go_ret2
        exact ⟨rfl, HB4.out⟩

end Go.Proofs.YtbddcodljmglfaaGreatDoor
