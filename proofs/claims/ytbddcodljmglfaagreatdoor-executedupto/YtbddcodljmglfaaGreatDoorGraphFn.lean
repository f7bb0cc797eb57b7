/- (*Program).Graph. -/
import Derived.Test.YtbddcodljmglfaaGreatDoorLostFn
import Derived.Test.YtbddcodljmglfaaGreatDoorGraphC
import Derived.Test.YtbddcodljmglfaaGreatDoorLeafA
set_option linter.unusedSimpArgs false
set_option linter.unusedVariables false
namespace Go.Proofs.YtbddcodljmglfaaGreatDoor
open Go.RowKit

/-! The edges of a form's blocks. -/
def edgesL (a : Nat) (L : List (Nat × Nat)) (ls : List Nat) : List (Nat × Nat) := ls.foldl (fun L b => addE L (a, b)) L
def edgesB (a : Nat) (L : List (Nat × Nat)) (ls : List LineG) : List (Nat × Nat) := ls.foldl (fun L l => edgesL a L l.leads) L
def edgesG : Nat → List (Nat × Nat) → List BlockG → List (Nat × Nat)
  | _, L, [] => L
  | a, L, b :: r => edgesG (a + 1) (edgesB a L b.lines) r
theorem mem_edgesL {a : Nat} {q : Nat × Nat} : ∀ (ls : List Nat) (L : List (Nat × Nat)), q ∈ edgesL a L ls ↔ q ∈ L ∨ (q.1 = a ∧ q.2 ∈ ls)
  | [], L => by simp [edgesL]
  | x :: r, L => by
    show q ∈ edgesL a (addE L (a, x)) r ↔ _
    rw [mem_edgesL r, mem_addE]
    constructor
    · rintro ((h | rfl) | h)
      · exact .inl h
      · exact .inr ⟨rfl, by simp⟩
      · exact .inr ⟨h.1, by simp [h.2]⟩
    · rintro (h | ⟨h1, h2⟩)
      · exact .inl (.inl h)
      · rcases List.mem_cons.1 h2 with h2 | h2
        · exact .inl (.inr (Prod.ext h1 h2))
        · exact .inr ⟨h1, h2⟩
theorem mem_edgesB {a : Nat} {q : Nat × Nat} : ∀ (ls : List LineG) (L : List (Nat × Nat)), q ∈ edgesB a L ls ↔ q ∈ L ∨ (q.1 = a ∧ ∃ l ∈ ls, q.2 ∈ l.leads)
  | [], L => by simp [edgesB]
  | x :: r, L => by
    show q ∈ edgesB a (edgesL a L x.leads) r ↔ _
    rw [mem_edgesB r, mem_edgesL]
    constructor
    · rintro ((h | h) | ⟨h1, l, h2, h3⟩)
      · exact .inl h
      · exact .inr ⟨h.1, x, by simp, h.2⟩
      · exact .inr ⟨h1, l, by simp [h2], h3⟩
    · rintro (h | ⟨h1, l, h2, h3⟩)
      · exact .inl (.inl h)
      · rcases List.mem_cons.1 h2 with rfl | h2
        · exact .inl (.inr ⟨h1, h3⟩)
        · exact .inr ⟨h1, l, h2, h3⟩
theorem mem_edgesG {q : Nat × Nat} : ∀ (bs : List BlockG) (a : Nat) (L : List (Nat × Nat)), q ∈ edgesG a L bs ↔ q ∈ L ∨ ∃ k b, bs[k]? = some b ∧ q.1 = a + k ∧ ∃ l ∈ b.lines, q.2 ∈ l.leads
  | [], a, L => by simp [edgesG]
  | x :: r, a, L => by
    show q ∈ edgesG (a + 1) (edgesB a L x.lines) r ↔ _
    rw [mem_edgesG r, mem_edgesB]
    constructor
    · rintro ((h | ⟨h1, h2⟩) | ⟨k, b, h1, h2, h3⟩)
      · exact .inl h
      · exact .inr ⟨0, x, rfl, by omega, h2⟩
      · exact .inr ⟨k + 1, b, by simpa using h1, by omega, h3⟩
    · rintro (h | ⟨k, b, h1, h2, h3⟩)
      · exact .inl (.inl h)
      · cases k with
        | zero =>
          simp at h1
          subst h1
          exact .inl (.inr ⟨by omega, h3⟩)
        | succ k => exact .inr ⟨k, b, by simpa using h1, by omega, h3⟩

theorem aggWays : AggT 101 3 [.int .i64 0, .map none, .slice none 0 0] := ⟨⟨_, Tryz.underlying101, rfl⟩, by kernel_rfl, by kernel_rfl, rfl⟩
theorem one_ways (n : Int) (m : Option Nat) (x : Option Addr) (l c : Nat) : ([Value.int .i64 n, .map m, .slice x l c].toArray.all (·.oneCell')) = true := by simp [Value.oneCell']
theorem EBound.mono {w : World} {m K K' : Nat} (h : EBound w m K) (hK : K ≤ K') : EBound w m K' := fun es c hb e he v hv => Nat.le_trans (h es c hb e he v hv) hK

/-- The graph while it is made. -/
structure GRun (w wr : World) (gb m q n : Nat) (L : List (Nat × Nat)) (K : Nat) : Prop where
  box : BoxIn wr gb 101 [.int .i64 n, .map (some m), .slice (some ⟨q, 0, none⟩) n n]
  edges : EMap wr m L
  bound : EBound wr m K
  ends : wr.heap[q]? = some (.cells (bits (List.replicate n false)).toArray 4 (0, 0))
  res : BoxIn wr w.heap.size 101 [.int .i64 0, .map none, .slice none 0 0]
  bel : Below w.heap.size w wr
  lo : w.heap.size ≤ m
  lt : m < gb
theorem GRun.below {w wr wr' : World} {gb m q n : Nat} {L : List (Nat × Nat)} {K : Nat} (h : GRun w wr gb m q n L K) (hb : Below wr.heap.size wr wr') : GRun w wr' gb m q n L K :=
  ⟨h.box.below hb, h.edges.of_block (hb.block _ h.edges.lt), h.bound.of_block (hb.block _ h.edges.lt), (hb.block _ (blk_lt h.ends)).trans h.ends, h.res.below hb, h.bel.trans (hb.mono h.bel.size), h.lo, h.lt⟩
theorem EMap.notcells {w : World} {m : Nat} {L : List (Nat × Nat)} (h : EMap w m L) {k : Nat} {c : Array Value} {t : TypeId} {f : Nat × Nat} (hk : w.heap[k]? = some (.cells c t f)) : k ≠ m := by
  rintro rfl
  obtain ⟨es, cl, hb, -⟩ := h
  rw [hb] at hk
  cases hk
theorem GRun.turned {w wr wr' : World} {gb m q n : Nat} {L L' : List (Nat × Nat)} {K K' : Nat} (h : GRun w wr gb m q n L K) (ht : Turned wr wr' m) (he : EMap wr' m L') (hK : EBound wr' m K') : GRun w wr' gb m q n L' K' :=
  ⟨h.box.of_block (ht.block _ (h.edges.notcells h.box)), he, hK, (ht.block _ (h.edges.notcells h.ends)).trans h.ends, h.res.of_block (ht.block _ (h.edges.notcells h.res)), h.bel.trans (ht.below h.lo), h.lo, h.lt⟩
theorem GRun.mono {w wr : World} {gb m q n : Nat} {L : List (Nat × Nat)} {K K' : Nat} (h : GRun w wr gb m q n L K) (hK : K ≤ K') : GRun w wr gb m q n L K' := ⟨h.box, h.edges, h.bound.mono hK, h.ends, h.res, h.bel, h.lo, h.lt⟩

set_option maxRecDepth 100000 in
set_option maxHeartbeats 8000000 in
theorem pgraph_any (w : World) (pb : Nat) (av bv : Value) (A : List Ver) (B : List BV) (hP : ProgIn w av bv A B) (hb : BoxIn w pb 52 [av, bv]) (hN1 : 1 ≤ B.length) (hN : B.length ≤ 40) (hF : ∀ b ∈ B, b.first ≤ 1000000 ∧ b.phis.length ≤ 1000000 ∧ b.lines.length ≤ 1000) (hled : ∀ b ∈ B, ∀ x ∈ b.lines, ∀ k ∈ x.l.leads, k < B.length) :
    Calls Tryz.prog 60 #[.pointer (some ⟨pb, 0, none⟩)] w fun e w' => ∃ m q, e = .returned (.agg #[.int .i64 (B.length : Int), .map (some m), .slice (some ⟨q, 0, none⟩) B.length B.length]) ∧ EMap w' m (edgesG 0 [] (B.map BV.g)) ∧ w'.heap[q]? = some (.cells (bits (List.replicate B.length false)).toArray 4 (0, 0)) ∧ Below w.heap.size w w' := by
  have HP : Hid (ProgIn w av bv A B) := hP
  have HF : Hid (∀ b ∈ B, b.first ≤ 1000000 ∧ b.phis.length ≤ 1000000 ∧ b.lines.length ≤ 1000) := hF
  have HPB : Hid (BoxIn w pb 52 [av, bv]) := hb
  obtain ⟨aoB, cpB, rfl⟩ := hP.rows.form
  obtain ⟨N, hNN⟩ : ∃ N, N = B.length := ⟨_, rfl⟩
  have HNN : Hid (N = B.length) := hNN
  rw [← hNN] at hN hN1 HP HPB hled ⊢
  have HLE : Hid (∀ b ∈ B, ∀ x ∈ b.lines, ∀ k ∈ x.l.leads, k < N) := hled
  have c1 : ∀ o, (w.alloc o).cell? ⟨pb, 1, none⟩ = some (.slice aoB N cpB) := fun o => (HPB.out.below ((Below.refl _ _).alloc (Nat.le_refl _) o)).cell rfl
  have hpb : pb < w.heap.size := HPB.out.lt
  have HNW : Hid (∀ W, Calls Tryz.prog 103 #[.int .i64 (N : Int)] W fun e w' => ∃ m q, e = .returned (.agg #[.int .i64 N, .map (some m), .slice (some ⟨q, 0, none⟩) N N]) ∧ Below W.heap.size W w' ∧ W.heap.size ≤ m ∧ W.heap.size ≤ q ∧ w'.heap[m]? = some (.map #[] 0) ∧ w'.heap[q]? = some (.cells (bits (List.replicate N false)).toArray 4 (0, 0))) := fun W => waysNew_any W N hN1 hN
  clear hP hb hF hNN hled
  go_enter Tryz.func60, Tryz.ntmps60
  go_wp2_with (first
    | (go_at_call 103; refine (HNW.out _).mono ?_; rintro e w1 ⟨m, q, rfl, hb1, hm1, hq1, hmap, hends⟩; have HB1 : Hid (Below w.heap.size w w1) := ((Below.refl _ _).alloc (Nat.le_refl _) _).trans (hb1.mono (by simp)); have HR1 : Hid (BoxIn w1 w.heap.size 101 [.int .i64 0, .map none, .slice none 0 0]) := (BoxIn.new w 101 [.int .i64 0, .map none, .slice none 0 0]).below hb1; have HM1 : Hid (w.heap.size ≤ m ∧ w1.heap[m]? = some (.map #[] 0) ∧ w1.heap[q]? = some (.cells (bits (List.replicate N false)).toArray 4 (0, 0))) := ⟨by simp at hm1; omega, hmap, hends⟩; have c1b : ∀ o, (w1.alloc o).cell? ⟨pb, 1, none⟩ = some (.slice aoB N cpB) := (fun o => ((HPB.out.below HB1.out).below ((Below.refl _ _).alloc (Nat.le_refl _) o)).cell rfl); clear hb1 hm1 hq1 hmap hends))
  have HG0 : Hid (GRun w (w1.alloc (.cells #[.int .i64 (N : Int), .map (some m), .slice (some ⟨q, 0, none⟩) N N] 101)) w1.heap.size m q N [] 0) := by
    obtain ⟨h1, h2, h3⟩ := HM1.out
    have hml := blk_lt h2
    refine ⟨BoxIn.new w1 101 [.int .i64 (N : Int), .map (some m), .slice (some ⟨q, 0, none⟩) N N], ⟨#[], 0, (Below.heap_alloc _ _ _ hml).trans h2, rfl, by simp, by simp, by simp, by simp⟩, ?_, (Below.heap_alloc _ _ _ (blk_lt h3)).trans h3, HR1.out.below ((Below.refl _ _).alloc (Nat.le_refl _) _), HB1.out.alloc HB1.out.size _, h1, hml⟩
    intro es c hb e he
    rw [Below.heap_alloc _ _ _ hml, h2] at hb
    injection hb with hb
    injection hb with hb _
    subst hb
    simp at he
  obtain ⟨gb, hgb⟩ : ∃ gb, gb = w1.heap.size := ⟨_, rfl⟩
  rw [← hgb] at HG0 ⊢
  clear hgb HM1 HR1 c1b c1
  generalize w1.alloc (.cells #[.int .i64 (N : Int), .map (some m), .slice (some ⟨q, 0, none⟩) N N] 101) = W1 at HG0 ⊢
  go_loopg [21] N (fun g v21 wr => ∃ (j : Nat) (L : List (Nat × Nat)), j + g = N ∧ v21 = .int .i64 j ∧ Hid (GRun w wr gb m q N L (j * 3000)) ∧ Hid (edgesG 0 [] (B.map BV.g) = edgesG j L ((B.drop j).map BV.g)))
  case atStart => exact ⟨0, [], by omega, rfl, HG0.out, rfl⟩
  case round =>
    obtain ⟨j, L, hjg, rfl, hG, hed⟩ := hrel
    clear HG0
    by_cases hjN : j < N
    · have hlt' : j < B.length := HNN.out ▸ hjN
      obtain ⟨b, hb⟩ : ∃ b, B[j] = b := ⟨_, rfl⟩
      have hmem : b ∈ B := by rw [← hb]; exact List.getElem_mem hlt'
      have hdrop : B.drop j = b :: B.drop (j + 1) := by rw [List.drop_eq_getElem_cons hlt', hb]
      have hst : Hid (edgesG 0 [] (B.map BV.g) = edgesG (j + 1) (edgesB j L b.g.lines) ((B.drop (j + 1)).map BV.g)) := by
        show _ = _
        rw [hed.out, hdrop]
        rfl
      have hrows : RdT w 109 3 (.slice aoB N cpB) N (cellsB B) := by have := HP.out.rows; rw [← HNN.out] at this; exact this
      obtain ⟨gB, offB, rfl, hgB, hcell⟩ := hrows.at (by omega)
      clear hrows
      have d0 := hcell (j * 3 + 0) _ (by rw [cellsB_get hlt' (by omega), hb]; rfl)
      have d1 := hcell (j * 3 + 1) _ (by rw [cellsB_get hlt' (by omega), hb]; rfl)
      have d2 := hcell (j * 3 + 2) _ (by rw [cellsB_get hlt' (by omega), hb]; rfl)
      have hok := HP.out.blocks b hmem
      obtain ⟨f1, f2, f3⟩ := HF.out b hmem
      have hle := HLE.out b hmem
      obtain ⟨first, phis, lns, pv, blv⟩ := b
      obtain ⟨aoP, cpP, hpv⟩ := hok.phis.1.form
      obtain ⟨aoL, cpL, hblv⟩ := hok.lines.1.form
      simp only at hpv hblv f1 f2 f3 hle
      subst hpv
      subst hblv
      have HLE2 : Hid (∀ x ∈ lns, ∀ k ∈ x.l.leads, k < N) := hle
      have HOK : Hid (BV.ok w w.heap.size ⟨first, phis, lns, .slice aoP phis.length cpP, .slice aoL lns.length cpL⟩) := hok
      have hbel := hG.out.bel
      have e0 : wr.cell? ⟨gB, offB + j * 3, none⟩ = some (.int .i64 (first : Int)) := (hbel.cell hgB).trans d0
      have e1 : wr.cell? ⟨gB, offB + j * 3 + 1, none⟩ = some (.slice aoP phis.length cpP) := (hbel.cell hgB).trans (by rw [Nat.add_assoc]; exact d1)
      have e2 : wr.cell? ⟨gB, offB + j * 3 + 2, none⟩ = some (.slice aoL lns.length cpL) := (hbel.cell hgB).trans (by rw [Nat.add_assoc]; exact d2)
      have hj1 : (0 : Int) ≤ (j : Int) := by omega
      have hj2 : (j : Int) < (N : Int) := by omega
      clear hb hdrop hed hcell d0 d1 d2 hok hle hbel
      obtain ⟨M, hM⟩ : ∃ M, M = lns.length := ⟨_, rfl⟩
      have HM : Hid (M = lns.length) := hM
      have HBG : Hid ((BV.g ⟨first, phis, lns, .slice aoP phis.length cpP, .slice aoL lns.length cpL⟩).lines = lns.map (·.l)) := rfl
      have HLN : Hid (RdT w 117 6 (.slice aoL M cpL) M (cellsL lns)) := by
        have := HOK.out.lines.1
        rw [hM]
        exact this
      have HLV : Hid (∀ x ∈ lns, x.ok w) := HOK.out.line
      rw [HBG.out] at hst
      rw [← hM] at e2 f3
      clear hmem HOK hM HBG
      go_wp2_with fail
      go_loopg [29] M (fun g v29 wr2 => ∃ (i : Nat) (L2 : List (Nat × Nat)), i + g = M ∧ v29 = .int .i64 i ∧ Hid (GRun w wr2 gb m q N L2 (j * 3000 + i * 3)) ∧ Hid (edgesB j L (lns.map (·.l)) = edgesB j L2 ((lns.drop i).map (·.l))))
      case atStart => exact ⟨0, L, by omega, rfl, hG.out.below ((Below.refl _ _).alloc (Nat.le_refl _) _), rfl⟩
      case round =>
        obtain ⟨i, L2, hig, rfl, hG2, hlb⟩ := hrel
        clear hG
        by_cases hiM : i < M
        · have hltL : i < lns.length := HM.out ▸ hiM
          obtain ⟨x, hx⟩ : ∃ x, lns[i] = x := ⟨_, rfl⟩
          have hxm : x ∈ lns := by rw [← hx]; exact List.getElem_mem hltL
          have hdl : lns.drop i = x :: lns.drop (i + 1) := by rw [List.drop_eq_getElem_cons hltL, hx]
          have hstl : Hid (edgesB j L (lns.map (·.l)) = edgesB j (edgesL j L2 x.l.leads) ((lns.drop (i + 1)).map (·.l))) := by
            show _ = _
            rw [hlb.out, hdl]
            rfl
          obtain ⟨gL, offL, rfl, hgL, hcellL⟩ := HLN.out.at (by omega)
          have hxo := HLV.out x hxm
          have hxle := HLE2.out x hxm
          have hc : ∀ t, t < 6 → ∀ u, x.cells[t]? = some u → wr.cell? ⟨gL, offL + i * 6 + t, none⟩ = some u := fun t ht u hu => (hG2.out.bel.cell (p := ⟨gL, offL + i * 6 + t, none⟩) hgL).trans (by rw [Nat.add_assoc]; exact hcellL (i * 6 + t) u (by rw [cellsL_get hltL ht, hx]; exact hu))
          obtain ⟨l, tv, lv⟩ := x
          obtain ⟨aoT, cpT, htv⟩ := hxo.1.form
          obtain ⟨aoE, cpE, hlv⟩ := hxo.2.1.form
          simp only at htv hlv hxle
          subst htv
          subst hlv
          have g0 := hc 0 (by omega) _ rfl
          have g1 := hc 1 (by omega) _ rfl
          have g2 := hc 2 (by omega) _ rfl
          have g3 := hc 3 (by omega) _ rfl
          have g4 := hc 4 (by omega) _ rfl
          have g5 := hc 5 (by omega) _ rfl
          rw [Nat.add_zero] at g0
          have HLD : Hid (RdT w 3 1 (.slice aoE l.leads.length cpE) l.leads.length (nums l.leads)) := hxo.2.1
          have HXL : Hid (∀ k ∈ l.leads, k < N) := hxle
          have hfew := hxo.2.2.2
          obtain ⟨K, hK⟩ : ∃ K, K = l.leads.length := ⟨_, rfl⟩
          have HK : Hid (K = l.leads.length) := hK
          have hi1 : (0 : Int) ≤ (i : Int) := by omega
          have hi2 : (i : Int) < (M : Int) := by omega
          simp only at hfew g5
          rw [← hK] at g5 HLD hfew
          clear hx hdl hlb hcellL hxo hc hxm hK hxle
          go_wp2_with fail
          go_loopg [36] K (fun g v36 wr3 => ∃ (k : Nat) (L3 : List (Nat × Nat)), k + g = K ∧ v36 = .int .i64 k ∧ Hid (GRun w wr3 gb m q N L3 (j * 3000 + i * 3 + k)) ∧ Hid (edgesL j L2 l.leads = edgesL j L3 (l.leads.drop k)))
          case atStart => exact ⟨0, L2, by omega, rfl, hG2.out.below ((Below.refl _ _).alloc (Nat.le_refl _) _), rfl⟩
          case round =>
            obtain ⟨k, L3, hkg, rfl, hG3, hel⟩ := hrel
            clear hG2
            by_cases hkK : k < K
            · have hltK : k < l.leads.length := HK.out ▸ hkK
              obtain ⟨z, hz⟩ : ∃ z, l.leads[k] = z := ⟨_, rfl⟩
              obtain ⟨gE, offE, rfl, hgE, hcE⟩ := HLD.out.at (by omega)
              have cz : wr.cell? ⟨gE, offE + k, none⟩ = some (.int .i64 (z : Int)) := (hG3.out.bel.cell (p := ⟨gE, offE + k, none⟩) hgE).trans (hcE k _ (by simp [nums, hltK, hz]))
              have hk1 : (0 : Int) ≤ (k : Int) := by omega
              have hk2 : (k : Int) < (K : Int) := by omega
              have hnx : Hid (edgesL j L2 l.leads = edgesL j (addE L3 (j, z)) (l.leads.drop (k + 1))) := by
                show _ = _
                rw [hel.out, List.drop_eq_getElem_cons hltK, hz]
                rfl
              have HAD : Hid (Calls Tryz.prog 104 #[.pointer (some ⟨gb, 0, none⟩), .int .i64 (j : Int), .int .i64 (z : Int)] wr fun e w' => e = .returned (.tuple #[]) ∧ Turned wr w' m ∧ EMap w' m (addE L3 (j, z)) ∧ EBound w' m (j * 3000 + i * 3 + k + 1)) := wadd_any wr gb m (j * 3000 + i * 3 + k) L3 j z (hG3.out.box.cell rfl) hG3.out.edges hG3.out.bound (by omega) (hG3.out.edges.notcells hG3.out.box)
              clear hcE hz hel
              go_wp2_with (first | (go_at_call 104; refine Calls.mono HAD.out ?_; rintro e w5 ⟨rfl, ht5, he5, hk5⟩; have HG5 : Hid (GRun w w5 gb m q N (addE L3 (j, z)) (j * 3000 + i * 3 + k + 1)) := hG3.out.turned ht5 he5 hk5; clear ht5 he5 hk5))
              go_roundg (K - (k + 1))
              case measure => omega
              case rel => exact ⟨k + 1, _, by omega, by go_num, HG5, hnx⟩
            · have hnext : Hid (edgesB j L (lns.map (·.l)) = edgesB j L3 ((lns.drop (i + 1)).map (·.l))) := by
                show _ = _
                rw [hstl.out, hel.out, List.drop_eq_nil_of_le (by have := HK.out; omega)]
                rfl
              go_wp2_with fail
              go_roundg (M - (i + 1))
              case measure => omega
              case rel => exact ⟨i + 1, L3, by omega, by go_num, hG3.out.mono (by omega), hnext⟩
        · have hend : Hid (edgesG 0 [] (B.map BV.g) = edgesG (j + 1) L2 ((B.drop (j + 1)).map BV.g)) := by
            show _ = _
            rw [hst.out, hlb.out, List.drop_eq_nil_of_le (by have := HM.out; omega)]
            rfl
          go_wp2_with fail
          go_roundg (N - (j + 1))
          case measure => omega
          case rel => exact ⟨j + 1, L2, by omega, by go_num, hG2.out.mono (by omega), hend⟩
    · have hend : Hid (edgesG 0 [] (B.map BV.g) = L) := by
        show _ = _
        rw [hed.out, List.drop_eq_nil_of_le (by have := HNN.out; omega)]
        rfl
      go_wp2_with (first
        | (refine wpList_load_box aggWays rfl _ rfl _ rfl _ rfl hG.out.box ?_)
        | (refine wpList_store_box aggWays rfl _ _ rfl _ rfl _ [.int .i64 (N : Int), .map (some m), .slice (some ⟨q, 0, none⟩) N N] rfl hG.out.res rfl rfl (one_ways _ _ _ _ _) ?_; intro w8 hb8 hg8 hs8))
      refine bodyPost_ret (results_box1 aggWays Tryz.results60 rfl rfl hb8) rfl ?_
      refine ⟨m, q, rfl, ?_, ?_, hG.out.bel.trans (hg8.below hG.out.bel.size (fun k hk => by omega))⟩
      · rw [hend.out]
        exact hG.out.edges.of_block (hg8.block _ (fun e => hG.out.edges.notcells hG.out.res e.symm) hG.out.edges.lt)
      · refine (hg8.block _ (fun e => ?_) (blk_lt hG.out.ends)).trans hG.out.ends
        have h1 := hG.out.res
        rw [BoxIn, ← e, hG.out.ends] at h1
        simp at h1

end Go.Proofs.YtbddcodljmglfaaGreatDoor
