/- The document's own meets. -/
import Derived.Test.YtbddcodljmglfaaRefList
set_option linter.unusedSimpArgs false
set_option linter.unusedVariables false
namespace Go.Proofs.Ytbddcodljmglfaa
open Go.RowKit

structure MtW (w wr : World) (b3 b4 b5 b6 : Nat) (FB S1 T : List Bool) : Prop where
  frm : ArrIn wr b3 FB
  res : ArrIn wr b4 (List.replicate 40 false)
  all : ArrIn wr b5 S1
  out : ArrIn wr b6 T
  bel : Below w.heap.size w wr
  o3 : w.heap.size ≤ b3
  o4 : w.heap.size ≤ b4
  o5 : w.heap.size ≤ b5
  o6 : w.heap.size ≤ b6
  n36 : b3 ≠ b6
  n46 : b4 ≠ b6
  n56 : b5 ≠ b6

theorem MtW.set {w wr : World} {b3 b4 b5 b6 : Nat} {FB S1 T : List Bool} (h : MtW w wr b3 b4 b5 b6 FB S1 T) (y : Nat) : MtW w (wr.setCell ⟨b6, y, none⟩ (.bool true)) b3 b4 b5 b6 FB S1 (T.set y true) := by
  have h6 := h.o6
  exact ⟨h.frm.of_block (Below.heap_setCell _ _ _ _ h.n36), h.res.of_block (Below.heap_setCell _ _ _ _ h.n46), h.all.of_block (Below.heap_setCell _ _ _ _ h.n56), h.out.set y true, h.bel.setCell (by simp; omega) _, h.o3, h.o4, h.o5, h.o6, h.n36, h.n46, h.n56⟩
theorem MtW.below {w wr wx : World} {b3 b4 b5 b6 : Nat} {FB S1 T : List Bool} (h : MtW w wr b3 b4 b5 b6 FB S1 T) (hb : Below wr.heap.size wr wx) : MtW w wx b3 b4 b5 b6 FB S1 T :=
  ⟨h.frm.below hb, h.res.below hb, h.all.below hb, h.out.below hb, h.bel.trans (hb.mono h.bel.size), h.o3, h.o4, h.o5, h.o6, h.n36, h.n46, h.n56⟩

def Snd (L : List (Nat × Nat)) (F : List Nat) (T : List Bool) : Prop := ∀ y, T.getD y false = true → Met L F y
def Shut (L : List (Nat × Nat)) (F : List Nat) (T : List Bool) (k : Nat) : Prop := ∀ a, a < k → (a ∈ F ∨ T.getD a false = true) → ∀ y, OnEdge L a y → T.getD y false = true
/-- One time round: nothing was found so far, or there is less to find. -/
def PassI (L : List (Nat × Nat)) (F : List Nat) (T0 T : List Bool) (r : Bool) (k : Nat) : Prop := (r = false → T = T0 ∧ Shut L F T k) ∧ (r = true → unseen T < unseen T0)
def PassJ (L : List (Nat × Nat)) (F : List Nat) (T0 T : List Bool) (r : Bool) (k j : Nat) : Prop := (r = false → T = T0 ∧ Shut L F T k ∧ ∀ y, y < j → OnEdge L k y → T.getD y false = true) ∧ (r = true → unseen T < unseen T0)

theorem passI_skip {L : List (Nat × Nat)} {F : List Nat} {T0 T : List Bool} {r : Bool} {k : Nat} (h : PassI L F T0 T r k) (hk : (k ∈ F ∨ T.getD k false = true) → ∀ y, ¬ OnEdge L k y) : PassI L F T0 T r (k + 1) := by
  refine ⟨fun hr => ⟨(h.1 hr).1, fun a ha hF y hy => ?_⟩, h.2⟩
  by_cases e : a = k
  · subst e
    exact absurd hy (hk hF y)
  · exact (h.1 hr).2 a (by omega) hF y hy

theorem passJ_start {L : List (Nat × Nat)} {F : List Nat} {T0 T : List Bool} {r : Bool} {k : Nat} (h : PassI L F T0 T r k) : PassJ L F T0 T r k 0 :=
  ⟨fun hr => ⟨(h.1 hr).1, (h.1 hr).2, fun y hy => by omega⟩, h.2⟩

theorem passJ_skip {L : List (Nat × Nat)} {F : List Nat} {T0 T : List Bool} {r : Bool} {k j : Nat} (h : PassJ L F T0 T r k j) (hj : OnEdge L k j → T.getD j false = true) : PassJ L F T0 T r k (j + 1) := by
  refine ⟨fun hr => ⟨(h.1 hr).1, (h.1 hr).2.1, fun y hy he => ?_⟩, h.2⟩
  by_cases e : y = j
  · subst e; exact hj he
  · exact (h.1 hr).2.2 y (by omega) he

theorem passJ_put {L : List (Nat × Nat)} {F : List Nat} {T0 T : List Bool} {r : Bool} {k j : Nat} (h : PassJ L F T0 T r k j) (hl : j < T.length) (hj : T.getD j false = false) : PassJ L F T0 (T.set j true) true k (j + 1) := by
  refine ⟨fun hr => by simp at hr, fun _ => ?_⟩
  have := unseen_set hl hj
  cases r
  · have := (h.1 rfl).1
    rw [← this]
    omega
  · have := h.2 rfl
    omega

theorem passJ_end {L : List (Nat × Nat)} {F : List Nat} {T0 T : List Bool} {r : Bool} {n k : Nat} (hL : ∀ z ∈ L, z.1 < n ∧ z.2 < n) (h : PassJ L F T0 T r k n) : PassI L F T0 T r (k + 1) := by
  refine ⟨fun hr => ⟨(h.1 hr).1, fun a ha hF y hy => ?_⟩, h.2⟩
  by_cases e : a = k
  · subst e
    exact (h.1 hr).2.2 y (onEdge_lt hL hy) hy
  · exact (h.1 hr).2.1 a (by omega) hF y hy

theorem fwd_lt {L : List (Nat × Nat)} {n a : Nat} {x : Int} (hn : 1 ≤ n) (hL : ∀ z ∈ L, z.1 < n ∧ z.2 < n) (h : Fwd L x a) : a < n :=
  Reach.ind h (fun a => a < n) (fun a ha => by rw [ha.1]; omega) (fun _ _ _ _ he => (hL _ he.1).2)

theorem shut_all {L : List (Nat × Nat)} {F : List Nat} {T : List Bool} {n : Nat} (hn : 1 ≤ n) (hL : ∀ z ∈ L, z.1 < n ∧ z.2 < n) (h : Shut L F T n) (hs : Snd L F T) (y : Nat) : T.getD y false = true ↔ Met L F y := by
  have hlt : ∀ {a y}, OnEdge L a y → a < n := by
    rintro a y ⟨_, x, hx, _⟩
    exact fwd_lt hn hL (Held.reached hx)
  refine ⟨hs y, fun hy => ?_⟩
  induction hy with
  | base ha he => exact h _ (hlt he) (.inl ha) _ he
  | step _ he ih => exact h _ (hlt he) (.inr ih) _ he

theorem snd_put {L : List (Nat × Nat)} {F : List Nat} {T : List Bool} {j : Nat} (hs : Snd L F T) (hl : j < T.length) (hj : Met L F j) : Snd L F (T.set j true) := by
  intro y hy
  rw [getD_set hl, Bool.or_eq_true, decide_eq_true_eq] at hy
  rcases hy with h | h
  · exact hs y h
  · rw [h]; exact hj

set_option maxRecDepth 100000 in
set_option maxHeartbeats 4000000 in
theorem refMeets_in (w : World) (g n : Nat) (L : List (Nat × Nat)) (D : List Bool) (h : RefIn w g n L D) (FB : List Bool) (hFl : FB.length = 40) (F : List Nat) (hF : ∀ a, FB.getD a false = true ↔ a ∈ F) :
    Calls Try.prog 79 #[.pointer (some ⟨g, 0, none⟩), .agg (bits FB).toArray] w fun e w' => ∃ S : List Bool, e = .returned (.agg (bits S).toArray) ∧ S.length = 40 ∧ (∀ y, S.getD y false = true ↔ Met L F y) ∧ Below w.heap.size w w' := by
  have HR : Hid (RefIn w g n L D) := h
  have HF : Hid (∀ a, FB.getD a false = true ↔ a ∈ F) := hF
  have hle := h.le
  clear h hF
  go_enter Try.func79, Try.ntmps79
  go_wp2_with (first
    | (have hq := hA1; refine wpList_alloc_arr rfl rfl ?_; intro w2 hA2 hB2 hS2; rw [hS1] at hA2; have hA12 := hA1.below hB2)
    | (refine wpList_box_arr rfl _ rfl FB hFl rfl ?_; intro w1 hA1 hB1 hS1))
  have HB2 : Hid (Below w.heap.size w w2) := hB1.trans (hB2.mono hB1.size)
  have hs2 : w2.heap.size = w.heap.size + 2 := by omega
  refine (refFrom_any w2 g n L D (HR.out.below HB2.out) 0 HR.out.pos (-1)).mono ?_
  rintro e w3 ⟨S1, rfl, hl1, hs1, hB3⟩
  have hA13 := hA12.below hB3
  have hA23 := hA2.below hB3
  have HB3 : Hid (Below w.heap.size w w3) := HB2.out.trans (hB3.mono HB2.out.size)
  have hs3 := hB3.size
  have HS1 : Hid (∀ y, S1.getD y false = true ↔ Fwd L (-1) y) := hs1
  clear hA1 hA2 hA12 hB1 hB2 hB3 hS1 hS2 hq hs1
  go_wp2_with (first
    | (have hq := hA4; refine wpList_alloc_arr rfl rfl ?_; intro w5 hA5 hB5 hS5; rw [hS4] at hA5; have hA45 := hA4.below hB5)
    | (refine wpList_keep_arr rfl rfl rfl _ _ rfl S1 hl1 rfl rfl ?_; intro w4 hA4 hB4 hS4))
  have HM0 : Hid (MtW w w5 w.heap.size (w.heap.size + 1) w3.heap.size (w3.heap.size + 1) FB S1 (List.replicate 40 false)) :=
    ⟨(hA13.below hB4).below hB5, (hA23.below hB4).below hB5, hA45, hA5, (HB3.out.trans (hB4.mono HB3.out.size)).trans (hB5.mono (by have := HB3.out.size; omega)), by omega, by omega, by omega, by omega, by omega, by omega, by omega⟩
  clear hA13 hA23 hA4 hB4 hS4 hA5 hB5 hS5 hA45 hs2 hs3 hq HB2 HB3
  generalize w3.heap.size + 1 = b6 at HM0 ⊢
  generalize w3.heap.size = b5 at HM0 ⊢
  generalize w.heap.size + 1 = b4 at HM0 ⊢
  go_loopg [7] 41 (fun gk s7 wr => ∃ (r : Bool) (T : List Bool), unseen T + r.toNat = gk ∧ s7 = .bool r ∧ Hid (MtW w wr w.heap.size b4 b5 b6 FB S1 T) ∧ Hid (Snd L F T) ∧ Hid (r = false → Shut L F T n))
  case atStart => exact ⟨true, List.replicate 40 false, by simp [unseen], rfl, HM0.out, fun y hy => by rw [getD_falses] at hy; simp at hy, fun h => by simp at h⟩
  case round =>
    clear HM0
    obtain ⟨r, T, hgk, rfl, hm, hsnd, hshut⟩ := hrel
    cases r
    · have hout := hm.out.out
      have hres := hm.out.res
      have hTl := hout.len
      have HB : Hid (Below w.heap.size w wr) := hm.out.bel
      have o4 := hm.out.o4
      have HTF : Hid (∀ y, T.getD y false = true ↔ Met L F y) := fun y => shut_all HR.out.pos HR.out.lt (hshut.out rfl) hsnd.out y
      go_wp2_with (first
        | (refine wpList_load_arr rfl _ rfl _ rfl _ hout ?_)
        | (refine wpList_store_arr rfl _ _ rfl _ rfl _ _ rfl hres hTl ?_; intro w9 hA9 hG9 hS9))
      refine ⟨rfl, _, results_arr rfl rfl hA9, _, rfl, hTl, HTF.out, ?_⟩
      exact HB.out.trans (hG9.below HB.out.size (fun k hk => by omega))
    · have HP0 : Hid (PassI L F T T false 0) := ⟨fun _ => ⟨rfl, fun a ha => by omega⟩, fun h => by simp at h⟩
      clear hshut
      simp only [Bool.toNat_true] at hgk
      go_wp2_with fail
      go_loopg [7, 8] n (fun g2 s7 s8 wy => ∃ (k : Nat) (r : Bool) (T' : List Bool), k + g2 = n ∧ s8 = .int .i64 k ∧ s7 = .bool r ∧ Hid (MtW w wy w.heap.size b4 b5 b6 FB S1 T') ∧ Hid (Snd L F T') ∧ Hid (PassI L F T T' r k))
      case atStart => exact ⟨0, false, T, by omega, rfl, rfl, hm, hsnd, HP0⟩
      case round =>
        clear hm hsnd HP0
        obtain ⟨k, r, T', hkg, rfl, rfl, hm, hsnd, hpass⟩ := hrel
        have HRR : Hid (RefIn wr g n L D) := HR.out.below hm.out.bel
        have c0 := HRR.out.c0
        by_cases hkn : k < n
        · have c1 := (hm.out.all.cell (k := k) (by omega)).1
          have c2 := (hm.out.frm.cell (k := k) (by omega)).1
          have c3 := (hm.out.out.cell (k := k) (by omega)).1
          have H1 : Hid (S1.getD k false = true ↔ Fwd L (-1) k) := HS1.out k
          have H2 : Hid (FB.getD k false = true ↔ k ∈ F) := HF.out k
          obtain ⟨r3, hr3⟩ : ∃ r3, T'.getD k false = r3 := ⟨_, rfl⟩
          have H3 : Hid (T'.getD k false = r3) := hr3
          rw [hr3] at c3
          generalize S1.getD k false = r1 at c1 H1
          generalize FB.getD k false = r2 at c2 H2
          clear hr3
          have hskip : Hid (r1 = false ∨ (r2 = false ∧ r3 = false) → PassI L F T T' r (k + 1)) := by
            intro hs
            refine passI_skip hpass.out (fun hF y hy => ?_)
            rcases hs with hs | ⟨hs2, hs3⟩
            · have := H1.out.2 (Held.reached (hy.2.choose_spec.1))
              rw [hs] at this
              simp at this
            · rcases hF with hF | hF
              · have := H2.out.2 hF
                rw [hs2] at this
                simp at this
              · rw [H3.out, hs3] at hF
                simp at hF
          cases r1
          · go_wp2_with fail
            go_roundg (n - (k + 1))
            case measure => omega
            case rel => exact ⟨k + 1, r, T', by omega, by go_num, rfl, hm, hsnd, hskip.out (by simp)⟩
          · by_cases hno : r2 = false ∧ r3 = false
            · obtain ⟨rfl, rfl⟩ := hno
              go_wp2_with fail
              go_roundg (n - (k + 1))
              case measure => omega
              case rel => exact ⟨k + 1, r, T', by omega, by go_num, rfl, hm, hsnd, hskip.out (by simp)⟩
            · have HKM : Hid (∀ y, OnEdge L k y → Met L F y) := by
                intro y hy
                cases r2
                · cases r3
                  · exact absurd ⟨rfl, rfl⟩ hno
                  · exact .step (hsnd.out k H3.out) hy
                · exact .base (H2.out.1 rfl) hy
              have HOR : Hid (r2 = true ∨ (r2 = false ∧ r3 = true)) := by
                cases r2
                · cases r3
                  · exact absurd ⟨rfl, rfl⟩ hno
                  · exact .inr ⟨rfl, rfl⟩
                · exact .inl rfl
              clear hskip hno
              rcases HOR.out with rfl | ⟨rfl, rfl⟩
              all_goals
                clear HOR
                go_wp2_with fail
                refine (refEdge_in wr g n L D HRR.out k hkn).mono ?_
                rintro e w6 ⟨SE, rfl, hlE, hsE, hB6⟩
                have HSE : Hid (∀ y, SE.getD y false = true ↔ OnEdge L k y) := hsE
                have HM6 : Hid (MtW w w6 w.heap.size b4 b5 b6 FB S1 T') := hm.out.below hB6
                clear hsE hB6 c1 c2 c3
                go_wp2_with (first | (refine wpList_keep_arr rfl rfl rfl _ _ rfl SE hlE rfl rfl ?_; intro w7 hA7 hB7 hS7))
                have HM7 : Hid (MtW w w7 w.heap.size b4 b5 b6 FB S1 T') := HM6.out.below hB7
                have HA7 : Hid (ArrIn w7 w6.heap.size SE) := hA7
                have hn7 : w6.heap.size ≠ b6 := by have := blk_lt HM6.out.out.blk; omega
                have HJ0 : Hid (PassJ L F T T' r k 0) := passJ_start hpass.out
                clear hA7 hB7 hS7 HM6
                generalize w6.heap.size = b9 at HA7 hn7 ⊢
                go_loopg [7, 10] n (fun g3 s7 s10 wz => ∃ (j : Nat) (r : Bool) (T2 : List Bool), j + g3 = n ∧ s10 = .int .i64 j ∧ s7 = .bool r ∧ Hid (MtW w wz w.heap.size b4 b5 b6 FB S1 T2) ∧ Hid (ArrIn wz b9 SE) ∧ Hid (Snd L F T2) ∧ Hid (PassJ L F T T2 r k j))
                case atStart => exact ⟨0, r, T', by omega, rfl, rfl, HM7, HA7, hsnd, HJ0⟩
                case round =>
                  clear HM7 HA7 hsnd HJ0 hm hpass c0 HRR
                  obtain ⟨j, r, T2, hjg, rfl, rfl, hm, hA, hsnd, hpass⟩ := hrel
                  have HRR : Hid (RefIn wr g n L D) := HR.out.below hm.out.bel
                  have c0 := HRR.out.c0
                  by_cases hjn : j < n
                  · have c1 := (hA.out.cell (k := j) (by omega)).1
                    obtain ⟨c2, f2⟩ := hm.out.out.cell (k := j) (by omega)
                    have hTl := hm.out.out.len
                    have HEj : Hid (SE.getD j false = true ↔ OnEdge L k j) := HSE.out j
                    obtain ⟨ro, hro⟩ : ∃ ro, T2.getD j false = ro := ⟨_, rfl⟩
                    have HO : Hid (T2.getD j false = ro) := hro
                    rw [hro] at c2
                    generalize SE.getD j false = re at c1 HEj
                    have hT40 : Hid (j < T2.length) := by show _ < _; omega
                    clear hro hTl
                    cases re
                    · have hp2 : Hid (PassJ L F T T2 r k (j + 1)) := passJ_skip hpass.out (fun h => by have := HEj.out.2 h; simp at this)
                      go_wp2_with fail
                      go_roundg (n - (j + 1))
                      case measure => omega
                      case rel => exact ⟨j + 1, r, T2, by omega, by go_num, rfl, hm, hA, hsnd, hp2⟩
                    · cases ro
                      · have hp2 : Hid (PassJ L F T (T2.set j true) true k (j + 1)) := passJ_put hpass.out hT40.out HO.out
                        have hs2 : Hid (Snd L F (T2.set j true)) := snd_put hsnd.out hT40.out (HKM.out j (HEj.out.1 rfl))
                        have HA2 : Hid (ArrIn (wr.setCell ⟨b6, j, none⟩ (.bool true)) b9 SE) := hA.out.of_block (Below.heap_setCell _ _ _ _ hn7)
                        go_wp2_with fail
                        go_roundg (n - (j + 1))
                        case measure => omega
                        case rel => exact ⟨j + 1, true, T2.set j true, by omega, by go_num, rfl, hm.out.set j, HA2, hs2, hp2⟩
                      · have hp2 : Hid (PassJ L F T T2 r k (j + 1)) := passJ_skip hpass.out (fun _ => HO.out)
                        go_wp2_with fail
                        go_roundg (n - (j + 1))
                        case measure => omega
                        case rel => exact ⟨j + 1, r, T2, by omega, by go_num, rfl, hm, hA, hsnd, hp2⟩
                  · obtain rfl : j = n := by omega
                    have hp2 : Hid (PassI L F T T2 r (k + 1)) := passJ_end HRR.out.lt hpass.out
                    go_wp2_with fail
                    go_roundg (j - (k + 1))
                    case measure => omega
                    case rel => exact ⟨k + 1, r, T2, by omega, by go_num, rfl, hm, hsnd, hp2⟩
        · obtain rfl : k = n := by omega
          have hsh : Hid (r = false → Shut L F T' k) := fun hr => (hpass.out.1 hr).2
          have hless : unseen T' + r.toNat < unseen T + 1 := by
            cases r
            · have := (hpass.out.1 rfl).1
              rw [this]
              simp
            · have := hpass.out.2 rfl
              simp
              omega
          go_wp2_with fail
          go_roundg (unseen T' + r.toNat)
          case measure => omega
          case rel => exact ⟨r, T', rfl, rfl, hm, hsnd, hsh⟩

end Go.Proofs.Ytbddcodljmglfaa
