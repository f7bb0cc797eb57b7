/- The document's own Last and Next. -/
import Derived.Test.YtbddcodljmglfaaRefAsk
import Derived.Test.YtbddcodljmglfaaDom
set_option linter.unusedSimpArgs false
set_option linter.unusedVariables false
namespace Go.Proofs.Ytbddcodljmglfaa
open Go.RowKit

section
variable {S : Nat → Prop} {E : Nat → Nat → Prop}
theorem Held.antisymm {a c : Nat} (h1 : Held S E a c) (h2 : Held S E c a) : a = c := by
  by_cases hac : a = c
  · exact hac
  exfalso
  have key : Reach (fun x => S x ∧ x ≠ a ∧ x ≠ c) (fun x y => E x y ∧ y ≠ a ∧ y ≠ c) c ∨ RA S E a c ∨ RA S E c a := by
    refine Reach.ind h1.1 (fun x => Reach (fun x => S x ∧ x ≠ a ∧ x ≠ c) (fun x y => E x y ∧ y ≠ a ∧ y ≠ c) x ∨ RA S E a c ∨ RA S E c a) ?_ ?_
    · intro s hs
      by_cases e1 : s = a
      · exact .inr (.inr (by rw [← e1]; exact Reach.start ⟨hs.1, by omega⟩))
      · by_cases e2 : s = c
        · exact .inr (.inl (by rw [← e2]; exact Reach.start ⟨hs.1, by omega⟩))
        · exact .inl (Reach.start ⟨hs.1, e1, e2⟩)
    · intro x y _ hx he
      rcases hx with hx | hx
      · by_cases e1 : y = a
        · refine .inr (.inr ?_)
          rw [← e1]
          exact Reach.step (Reach.mono hx (fun z hz => ⟨hz.1, by have := hz.2.2; omega⟩) (fun z t ht => ⟨ht.1, by have := ht.2.2; omega⟩)) ⟨he.1, by omega⟩
        · by_cases e2 : y = c
          · refine .inr (.inl ?_)
            rw [← e2]
            exact Reach.step (Reach.mono hx (fun z hz => ⟨hz.1, by have := hz.2.1; omega⟩) (fun z t ht => ⟨ht.1, by have := ht.2.1; omega⟩)) ⟨he.1, by omega⟩
          · exact .inl (Reach.step hx ⟨he.1, e1, e2⟩)
      · exact .inr hx
  rcases key with h | h | h
  · exact Reach.ind h (fun x => x ≠ c) (fun x hx => hx.2.2) (fun _ _ _ _ he => he.2.2) rfl
  · exact h1.2 h
  · exact h2.2 h

/-- The last one so far. -/
def LastUp (S : Nat → Prop) (E : Nat → Nat → Prop) (b k : Nat) (v : Int) : Prop :=
  (v = -1 ∧ ∀ a : Nat, a < k → a ≠ b → ¬ Held S E a b) ∨ ∃ a : Nat, a < k ∧ v = (a : Int) ∧ a ≠ b ∧ Held S E a b ∧ ∀ c : Nat, c < k → c ≠ b → Held S E c b → Held S E c a

theorem lastUp_skip {b k : Nat} {v : Int} (h : LastUp S E b k v) (hk : k = b ∨ ¬ Held S E k b) : LastUp S E b (k + 1) v := by
  rcases h with ⟨h1, h2⟩ | ⟨a, h1, h2, h3, h4, h5⟩
  · refine .inl ⟨h1, fun a ha hab hh => ?_⟩
    by_cases e : a = k
    · subst e
      exact hk.elim hab (fun h => h hh)
    · exact h2 a (by omega) hab hh
  · refine .inr ⟨a, by omega, h2, h3, h4, fun c hc hcb hh => ?_⟩
    by_cases e : c = k
    · subst e
      exact absurd hh (hk.elim (fun e => absurd e hcb) (fun h => h))
    · exact h5 c (by omega) hcb hh

theorem lastUp_first {b k : Nat} (h : LastUp S E b k (-1)) (hkb : k ≠ b) (hk : Held S E k b) : LastUp S E b (k + 1) (k : Int) := by
  rcases h with ⟨_, h2⟩ | ⟨a, _, h2, _⟩
  · refine .inr ⟨k, by omega, rfl, hkb, hk, fun c hc hcb hh => ?_⟩
    by_cases e : c = k
    · subst e
      exact Held.self (Held.reached hh)
    · exact absurd hh (h2 c (by omega) hcb)
  · omega

theorem lastUp_next {b k a : Nat} (h : LastUp S E b k (a : Int)) (hkb : k ≠ b) (hk : Held S E k b) (hak : Held S E a k) : LastUp S E b (k + 1) (k : Int) := by
  rcases h with ⟨h1, _⟩ | ⟨a', h1, h2, h3, h4, h5⟩
  · omega
  · obtain rfl : a = a' := by omega
    refine .inr ⟨k, by omega, rfl, hkb, hk, fun c hc hcb hh => ?_⟩
    by_cases e : c = k
    · subst e
      exact Held.self (Held.reached hh)
    · exact Held.trans (h5 c (by omega) hcb hh) hak

theorem lastUp_keep {b k a : Nat} (h : LastUp S E b k (a : Int)) (hkb : k ≠ b) (hk : Held S E k b) (hak : ¬ Held S E a k) : LastUp S E b (k + 1) (a : Int) := by
  rcases h with ⟨h1, _⟩ | ⟨a', h1, h2, h3, h4, h5⟩
  · omega
  · obtain rfl : a = a' := by omega
    refine .inr ⟨a, by omega, rfl, h3, h4, fun c hc hcb hh => ?_⟩
    by_cases e : c = k
    · subst e
      rcases Held.total h4 hh with h | h
      · exact absurd h hak
      · exact h
    · exact h5 c (by omega) hcb hh

theorem lastUp_lt {b k : Nat} {v : Int} (h : LastUp S E b k v) : v = -1 ∨ ∃ a : Nat, a < k ∧ v = (a : Int) := by
  rcases h with ⟨h, _⟩ | ⟨a, h1, h2, _⟩
  · exact .inl h
  · exact .inr ⟨a, h1, h2⟩

open Classical in
theorem lastUp_end {n b : Nat} {v : Int} {R : Prop} (hb : b < n) (h : LastUp S E b n v) (hR : R) : LastAns n R (fun a c => Held S E a c) b v 0 := by
  refine .inr ⟨hR, rfl, fun a c => decide (Held S E a c), fun a c _ _ => by simp, ?_⟩
  rcases nearestOf_spec (fun a c => decide (Held S E a c)) n b with ⟨g1, g2⟩ | ⟨a', ha', g1, g2, -⟩
  · rw [g1]
    rcases h with ⟨h1, _⟩ | ⟨a, h1, h2, h3, h4, h5⟩
    · exact h1
    · have := g2 a h1
      have hc : cand (fun a c => decide (Held S E a c)) n b a = true := cand_iff.2 ⟨h3, by simpa using h4, fun c hc hcb hh => by simpa using h5 c hc hcb (by simpa using hh)⟩
      rw [hc] at this
      simp at this
  · rw [g1]
    obtain ⟨k1, k2, k3⟩ := cand_iff.1 g2
    have k2' : Held S E a' b := by simpa using k2
    rcases h with ⟨_, h2⟩ | ⟨a, h1, h2, h3, h4, h5⟩
    · exact absurd k2' (h2 a' ha' k1)
    · have e1 : Held S E a a' := by simpa using k3 a h1 h3 (by simpa using h4)
      have e2 : Held S E a' a := h5 a' ha' k1 k2'
      rw [h2, Held.antisymm e1 e2]
end

theorem lastAns_one {n b : Nat} {R : Prop} {P : Nat → Nat → Prop} {v x v' x' : Int} (hb : b < n) (h1 : LastAns n R P b v x) (h2 : LastAns n R P b v' x') : v = v' ∧ x = x' := by
  rcases h1 with ⟨h1, rfl, rfl⟩ | ⟨h1, rfl, H, hH, rfl⟩
  · rcases h2 with ⟨_, rfl, rfl⟩ | ⟨h2, _⟩
    · exact ⟨rfl, rfl⟩
    · exact absurd h2 h1
  · rcases h2 with ⟨h2, _⟩ | ⟨_, rfl, H', hH', rfl⟩
    · exact absurd h1 h2
    · refine ⟨nearestOf_congr hb (fun a c ha hc => ?_), rfl⟩
      rw [Bool.eq_iff_iff, hH a c ha hc, hH' a c ha hc]

section
variable (w : World) (g n : Nat) (L : List (Nat × Nat)) (D : List Bool)
theorem refLast_no (h : RefIn w g n L D) (b : Int) (hn : isNode n b = false) :
    Calls Try.prog 49 #[.pointer (some ⟨g, 0, none⟩), .int .i64 b] w fun e w' => e = .returned (.tuple #[.int .i64 0, .int .i64 2]) ∧ w' = w := by
  have c0 := h.c0
  clear h
  go_enter Try.func49, Try.ntmps49
  go_wp2_with fail
  refine (refIs_any w g n c0 b).mono ?_
  rintro e w' ⟨rfl, h9⟩
  replace h9 := h9.symm
  subst h9
  rw [hn]
  go_wp2_with fail
  go_ret2
  exact ⟨rfl, rfl⟩

set_option maxRecDepth 100000 in
set_option maxHeartbeats 2000000 in
theorem refLast_ok (h : RefIn w g n L D) (b : Nat) (hb : b < n) :
    Calls Try.prog 49 #[.pointer (some ⟨g, 0, none⟩), .int .i64 b] w fun e w' => ∃ v x : Int, e = .returned (.tuple #[.int .i64 v, .int .i64 x]) ∧ LastAns n (Fwd L (-1) b) (fun a c => HeldF L a c) b v x ∧ Below w.heap.size w w' := by
  have c0 := h.c0
  have HR : Hid (RefIn w g n L D) := h
  have hle := h.le
  clear h
  go_enter Try.func49, Try.ntmps49
  go_wp2_with fail
  refine (refIs_any w g n c0 b).mono ?_
  rintro e w' ⟨rfl, h9⟩
  replace h9 := h9.symm
  subst h9
  rw [isNode_nat hb]
  clear c0
  go_wp2_with fail
  refine (refFrom_any w g n L D HR.out 0 HR.out.pos (-1)).mono ?_
  rintro e w1 ⟨S1, rfl, hl1, hs1, hB1⟩
  obtain ⟨r1, hr1⟩ : ∃ r1, S1.getD b false = r1 := ⟨_, rfl⟩
  have H1 : Hid (S1.getD b false = r1) := hr1
  have HF : Hid (r1 = true ↔ Fwd L (-1) b) := by rw [← hr1]; exact hs1 b
  have HB1 : Hid (Below w.heap.size w w1) := hB1
  clear hr1 hs1 hB1
  cases r1
  · go_wp2_with (first | (refine wpList_keep_arr rfl rfl rfl _ _ rfl S1 hl1 rfl rfl ?_; intro w4 hA4 hB4 hS4; have c1 := (hA4.cell (k := b) (by omega)).1; rw [H1.out] at c1; have HB4 : Hid (Below w.heap.size w w4) := HB1.out.trans (hB4.mono HB1.out.size)))
    go_ret2
    exact ⟨0, 5, rfl, .inl ⟨fun h => by have := HF.out.2 h; simp at this, rfl, rfl⟩, HB4.out⟩
  · have hreach : Hid (Fwd L (-1) b) := HF.out.1 rfl
    clear HF
    go_wp2_with (first | (refine wpList_keep_arr rfl rfl rfl _ _ rfl S1 hl1 rfl rfl ?_; intro w4 hA4 hB4 hS4; have c1 := (hA4.cell (k := b) (by omega)).1; rw [H1.out] at c1; have HB4 : Hid (Below w.heap.size w w4) := HB1.out.trans (hB4.mono HB1.out.size)))
    clear hA4 hB4 hS4 c1
    generalize w1.heap.size = k1
    go_loopg [8, 9] n (fun gk s8 s9 wr => ∃ (k : Nat) (v : Int), k + gk = n ∧ s9 = .int .i64 k ∧ s8 = .int .i64 v ∧ Hid (LastUp (· = 0) (fun u v => (u, v) ∈ L) b k v) ∧ Hid (Below w.heap.size w wr))
    case atStart => exact ⟨0, -1, by omega, rfl, rfl, .inl ⟨rfl, fun a ha => by omega⟩, HB4.out⟩
    case round =>
      clear HB4
      obtain ⟨k, v, hkg, rfl, rfl, hup, hbel⟩ := hrel
      have HRR : Hid (RefIn wr g n L D) := HR.out.below hbel.out
      have c0 := HRR.out.c0
      by_cases hlt : k < n
      · go_wp2_with fail
        refine (refOver_in wr g n L D HRR.out k b hlt hb).mono ?_
        rintro e w5 ⟨r, rfl, hr, hb5⟩
        have HRK : Hid (r = true ↔ HeldF L k b) := hr
        have HB5 : Hid (Below w.heap.size w w5) := hbel.out.trans (hb5.mono hbel.out.size)
        have HR5 : Hid (RefIn w5 g n L D) := HRR.out.below hb5
        clear hr hb5 hbel HRR c0
        by_cases hkb : k = b
        · have hup2 : Hid (LastUp (· = 0) (fun u v => (u, v) ∈ L) b (k + 1) v) := lastUp_skip hup.out (.inl hkb)
          subst hkb
          go_wp2_with fail
          go_roundg (n - (k + 1))
          case measure => omega
          case rel => exact ⟨k + 1, v, by omega, by go_num, rfl, hup2, HB5⟩
        · have q1 : ((k : Int) == (b : Int)) = false := by rw [beq_eq_false_iff_ne]; omega
          have q2 : ¬ (k : Int) = (b : Int) := by omega
          have HKB : Hid (k ≠ b) := hkb
          clear hkb
          cases r
          · have hup2 : Hid (LastUp (· = 0) (fun u v => (u, v) ∈ L) b (k + 1) v) := lastUp_skip hup.out (.inr (fun h => by have := HRK.out.2 h; simp at this))
            go_wp2_with fail
            go_roundg (n - (k + 1))
            case measure => omega
            case rel => exact ⟨k + 1, v, by omega, by go_num, rfl, hup2, HB5⟩
          · have HK : Hid (HeldF L k b) := HRK.out.1 rfl
            rcases lastUp_lt hup.out with rfl | ⟨a, ha, rfl⟩
            · have hup2 : Hid (LastUp (· = 0) (fun u v => (u, v) ∈ L) b (k + 1) (k : Int)) := lastUp_first hup.out HKB.out HK.out
              go_wp2_with fail
              go_roundg (n - (k + 1))
              case measure => omega
              case rel => exact ⟨k + 1, k, by omega, by go_num, rfl, hup2, HB5⟩
            · go_wp2_with fail
              refine (refOver_in w5 g n L D HR5.out a k (by omega) hlt).mono ?_
              rintro e w6 ⟨r2, rfl, hr2, hb6⟩
              have HR2 : Hid (r2 = true ↔ HeldF L a k) := hr2
              have HB6 : Hid (Below w.heap.size w w6) := HB5.out.trans (hb6.mono HB5.out.size)
              clear hr2 hb6
              cases r2
              · have hup2 : Hid (LastUp (· = 0) (fun u v => (u, v) ∈ L) b (k + 1) (a : Int)) := lastUp_keep hup.out HKB.out HK.out (fun h => by have := HR2.out.2 h; simp at this)
                go_wp2_with fail
                go_roundg (n - (k + 1))
                case measure => omega
                case rel => exact ⟨k + 1, a, by omega, by go_num, rfl, hup2, HB6⟩
              · have hup2 : Hid (LastUp (· = 0) (fun u v => (u, v) ∈ L) b (k + 1) (k : Int)) := lastUp_next hup.out HKB.out HK.out (HR2.out.1 rfl)
                go_wp2_with fail
                go_roundg (n - (k + 1))
                case measure => omega
                case rel => exact ⟨k + 1, k, by omega, by go_num, rfl, hup2, HB6⟩
      · obtain rfl : k = n := by omega
        have hfin : Hid (LastAns k (Fwd L (-1) b) (fun a c => HeldF L a c) b v 0) := lastUp_end hb hup.out hreach.out
        go_wp2_with fail
        go_ret2
        exact ⟨v, 0, rfl, hfin.out, hbel.out⟩
theorem refNext_no (h : RefIn w g n L D) (b : Int) (hn : isNode n b = false) :
    Calls Try.prog 50 #[.pointer (some ⟨g, 0, none⟩), .int .i64 b] w fun e w' => e = .returned (.tuple #[.int .i64 0, .int .i64 2]) ∧ w' = w := by
  have c0 := h.c0
  clear h
  go_enter Try.func50, Try.ntmps50
  go_wp2_with fail
  refine (refIs_any w g n c0 b).mono ?_
  rintro e w' ⟨rfl, h9⟩
  replace h9 := h9.symm
  subst h9
  rw [hn]
  go_wp2_with fail
  go_ret2
  exact ⟨rfl, rfl⟩

set_option maxRecDepth 100000 in
set_option maxHeartbeats 2000000 in
theorem refNext_ok (h : RefIn w g n L D) (b : Nat) (hb : b < n) :
    Calls Try.prog 50 #[.pointer (some ⟨g, 0, none⟩), .int .i64 b] w fun e w' => ∃ v x : Int, e = .returned (.tuple #[.int .i64 v, .int .i64 x]) ∧ LastAns n (Bwd L D (-1) b) (fun a c => HeldB L D a c) b v x ∧ Below w.heap.size w w' := by
  have c0 := h.c0
  have HR : Hid (RefIn w g n L D) := h
  have hle := h.le
  clear h
  go_enter Try.func50, Try.ntmps50
  go_wp2_with fail
  refine (refIs_any w g n c0 b).mono ?_
  rintro e w' ⟨rfl, h9⟩
  replace h9 := h9.symm
  subst h9
  rw [isNode_nat hb]
  clear c0
  go_wp2_with fail
  refine (refEnds_any w g n L D HR.out b hb (-1)).mono ?_
  rintro e w4 ⟨r1, rfl, hr1, hB1⟩
  have HF : Hid (r1 = true ↔ Bwd L D (-1) b) := hr1
  have HB4 : Hid (Below w.heap.size w w4) := hB1
  clear hr1 hB1
  cases r1
  · go_wp2_with fail
    go_ret2
    exact ⟨0, 5, rfl, .inl ⟨fun h => by have := HF.out.2 h; simp at this, rfl, rfl⟩, HB4.out⟩
  · have hreach : Hid (Bwd L D (-1) b) := HF.out.1 rfl
    clear HF
    go_wp2_with fail
    go_loopg [8, 9] n (fun gk s8 s9 wr => ∃ (k : Nat) (v : Int), k + gk = n ∧ s9 = .int .i64 k ∧ s8 = .int .i64 v ∧ Hid (LastUp (fun a => D.getD a false = true) (fun a c => (c, a) ∈ L) b k v) ∧ Hid (Below w.heap.size w wr))
    case atStart => exact ⟨0, -1, by omega, rfl, rfl, .inl ⟨rfl, fun a ha => by omega⟩, HB4.out⟩
    case round =>
      clear HB4
      obtain ⟨k, v, hkg, rfl, rfl, hup, hbel⟩ := hrel
      have HRR : Hid (RefIn wr g n L D) := HR.out.below hbel.out
      have c0 := HRR.out.c0
      by_cases hlt : k < n
      · go_wp2_with fail
        refine (refUnder_in wr g n L D HRR.out k b hlt hb).mono ?_
        rintro e w5 ⟨r, rfl, hr, hb5⟩
        have HRK : Hid (r = true ↔ HeldB L D k b) := hr
        have HB5 : Hid (Below w.heap.size w w5) := hbel.out.trans (hb5.mono hbel.out.size)
        have HR5 : Hid (RefIn w5 g n L D) := HRR.out.below hb5
        clear hr hb5 hbel HRR c0
        by_cases hkb : k = b
        · have hup2 : Hid (LastUp (fun a => D.getD a false = true) (fun a c => (c, a) ∈ L) b (k + 1) v) := lastUp_skip hup.out (.inl hkb)
          subst hkb
          go_wp2_with fail
          go_roundg (n - (k + 1))
          case measure => omega
          case rel => exact ⟨k + 1, v, by omega, by go_num, rfl, hup2, HB5⟩
        · have q1 : ((k : Int) == (b : Int)) = false := by rw [beq_eq_false_iff_ne]; omega
          have q2 : ¬ (k : Int) = (b : Int) := by omega
          have HKB : Hid (k ≠ b) := hkb
          clear hkb
          cases r
          · have hup2 : Hid (LastUp (fun a => D.getD a false = true) (fun a c => (c, a) ∈ L) b (k + 1) v) := lastUp_skip hup.out (.inr (fun h => by have := HRK.out.2 h; simp at this))
            go_wp2_with fail
            go_roundg (n - (k + 1))
            case measure => omega
            case rel => exact ⟨k + 1, v, by omega, by go_num, rfl, hup2, HB5⟩
          · have HK : Hid (HeldB L D k b) := HRK.out.1 rfl
            rcases lastUp_lt hup.out with rfl | ⟨a, ha, rfl⟩
            · have hup2 : Hid (LastUp (fun a => D.getD a false = true) (fun a c => (c, a) ∈ L) b (k + 1) (k : Int)) := lastUp_first hup.out HKB.out HK.out
              go_wp2_with fail
              go_roundg (n - (k + 1))
              case measure => omega
              case rel => exact ⟨k + 1, k, by omega, by go_num, rfl, hup2, HB5⟩
            · go_wp2_with fail
              refine (refUnder_in w5 g n L D HR5.out a k (by omega) hlt).mono ?_
              rintro e w6 ⟨r2, rfl, hr2, hb6⟩
              have HR2 : Hid (r2 = true ↔ HeldB L D a k) := hr2
              have HB6 : Hid (Below w.heap.size w w6) := HB5.out.trans (hb6.mono HB5.out.size)
              clear hr2 hb6
              cases r2
              · have hup2 : Hid (LastUp (fun a => D.getD a false = true) (fun a c => (c, a) ∈ L) b (k + 1) (a : Int)) := lastUp_keep hup.out HKB.out HK.out (fun h => by have := HR2.out.2 h; simp at this)
                go_wp2_with fail
                go_roundg (n - (k + 1))
                case measure => omega
                case rel => exact ⟨k + 1, a, by omega, by go_num, rfl, hup2, HB6⟩
              · have hup2 : Hid (LastUp (fun a => D.getD a false = true) (fun a c => (c, a) ∈ L) b (k + 1) (k : Int)) := lastUp_next hup.out HKB.out HK.out (HR2.out.1 rfl)
                go_wp2_with fail
                go_roundg (n - (k + 1))
                case measure => omega
                case rel => exact ⟨k + 1, k, by omega, by go_num, rfl, hup2, HB6⟩
      · obtain rfl : k = n := by omega
        have hfin : Hid (LastAns k (Bwd L D (-1) b) (fun a c => HeldB L D a c) b v 0) := lastUp_end hb hup.out hreach.out
        go_wp2_with fail
        go_ret2
        exact ⟨v, 0, rfl, hfin.out, hbel.out⟩
end

end Go.Proofs.Ytbddcodljmglfaa
