/- Walked, walked: whatever way one goes, what is over (under) a node lies on it. -/
import Derived.Test.YtbddcodljmglfaaWalkFns
import Derived.Deep.RegionHeld3
import Derived.Deep.CutBlock
set_option linter.unusedSimpArgs false
set_option linter.unusedVariables false
namespace Go.Proofs.Ytbddcodljmglfaa
open Go.RowKit

structure Way (L : List (Nat × Nat)) (way : List Nat) : Prop where
  head : way[0]? = some 0
  step : ∀ i a c, way[i]? = some a → way[i + 1]? = some c → (a, c) ∈ L

theorem Way.reach {L : List (Nat × Nat)} {way : List Nat} (h : Way L way) (x : Int) : ∀ (i b : Nat), way[i]? = some b → (∀ j c, j ≤ i → way[j]? = some c → (c : Int) ≠ x) → Fwd L x b
  | 0, b, hb, hx => by
    rw [h.head] at hb
    simp at hb
    exact Reach.start ⟨hb.symm, hx 0 b (by omega) (by rw [h.head]; simp [hb])⟩
  | i + 1, b, hb, hx => by
    have hlt : i + 1 < way.length := (List.getElem?_eq_some_iff.1 hb).1
    have ha : way[i]? = some way[i] := List.getElem?_eq_getElem (by omega)
    exact Reach.step (h.reach x i _ ha (fun j c hj hc => hx j c (by omega) hc)) ⟨h.step i _ b ha hb, hx (i + 1) b (by omega) hb⟩

theorem Way.back {L : List (Nat × Nat)} {way : List Nat} (h : Way L way) (D : List Bool) (x : Int) (k e : Nat) (hk : way[k]? = some e) (he : D.getD e false = true) : ∀ (d i b : Nat), i + d = k → way[i]? = some b → (∀ j c, i ≤ j → j ≤ k → way[j]? = some c → (c : Int) ≠ x) → Bwd L D x b
  | 0, i, b, hi, hb, hx => by
    have : i = k := by omega
    subst this
    rw [hb] at hk
    simp at hk
    subst hk
    exact Reach.start ⟨he, hx i b (by omega) (by omega) hb⟩
  | d + 1, i, b, hi, hb, hx => by
    have hlt : k < way.length := (List.getElem?_eq_some_iff.1 hk).1
    have hc : way[i + 1]? = some way[i + 1] := List.getElem?_eq_getElem (by omega)
    exact Reach.step (h.back D x k e hk he d (i + 1) _ (by omega) hc (fun j c h1 h2 h3 => hx j c (by omega) h2 h3)) ⟨h.step i b _ hb hc, hx i b (by omega) (by omega) hb⟩

theorem Way.snoc {L : List (Nat × Nat)} {way : List Nat} {x y : Nat} (h : Way L way) (hx : way[way.length - 1]? = some x) (hy : (x, y) ∈ L) : Way L (way ++ [y]) := by
  have hpos : 0 < way.length := by have := (List.getElem?_eq_some_iff.1 h.head).1; omega
  refine ⟨by rw [List.getElem?_append_left hpos]; exact h.head, fun i a c ha hc => ?_⟩
  have hlt : i + 1 < (way ++ [y]).length := (List.getElem?_eq_some_iff.1 hc).1
  simp at hlt
  rw [List.getElem?_append_left (by omega)] at ha
  by_cases e : i + 1 < way.length
  · rw [List.getElem?_append_left e] at hc
    exact h.step i a c ha hc
  · have ei : i = way.length - 1 := by omega
    rw [List.getElem?_append_right (by omega), show i + 1 - way.length = 0 from by omega] at hc
    simp at hc
    subst hc
    rw [ei, hx] at ha
    simp at ha
    subst ha
    exact hy

theorem Way.own {L : List (Nat × Nat)} {way : List Nat} (h : Way L way) {i b : Nat} (hb : way[i]? = some b) : HeldF L b b ∧ HeldF L 0 b := by
  have hr := h.reach (-1) i b hb (fun j c _ _ => by omega)
  refine ⟨⟨hr, fun h' => RA.ne h' rfl⟩, hr, fun h' => ?_⟩
  exact Reach.ind h' (fun _ => False) (fun a ha => ha.2 (by have := ha.1; omega)) (fun _ _ _ hf _ => hf)

theorem Way.over {L : List (Nat × Nat)} {way : List Nat} (h : Way L way) {i a b : Nat} (hb : way[i]? = some b) (ho : HeldF L a b) : a ∈ way.take (i + 1) := by
  by_cases hm : a ∈ way.take (i + 1)
  · exact hm
  · refine absurd (h.reach a i b hb (fun j c hj hc e => hm ?_)) ho.2
    have e' : c = a := by omega
    subst e'
    exact List.mem_of_getElem? (i := j) (by rw [List.getElem?_take_of_lt (by omega)]; exact hc)

theorem Way.under {L : List (Nat × Nat)} {way : List Nat} (h : Way L way) {D : List Bool} {i k a b e : Nat} (hik : i ≤ k) (hb : way[i]? = some b) (hk : way[k]? = some e) (he : D.getD e false = true) (ho : HeldB L D a b) : a ∈ (way.drop i).take (k + 1 - i) := by
  by_cases hm : a ∈ (way.drop i).take (k + 1 - i)
  · exact hm
  · refine absurd (h.back D a k e hk he (k - i) i b (by omega) hb (fun j c h1 h2 hc e => hm ?_)) ho.2
    have e' : c = a := by omega
    subst e'
    exact List.mem_of_getElem? (i := j - i) (by rw [List.getElem?_take_of_lt (by omega), List.getElem?_drop, show i + (j - i) = j from by omega]; exact hc)

theorem Way.underSelf {L : List (Nat × Nat)} {way : List Nat} (h : Way L way) {D : List Bool} {i k b e : Nat} (hik : i ≤ k) (hb : way[i]? = some b) (hk : way[k]? = some e) (he : D.getD e false = true) : HeldB L D b b :=
  ⟨h.back D (-1) k e hk he (k - i) i b (by omega) hb (fun j c _ _ _ => by omega), fun h' => RA.ne h' rfl⟩

/-- What stays while all is asked: the web, the way. -/
structure WkIn (w wx : World) (bw base p m q n : Nat) (L : List (Nat × Nat)) (D : List Bool) (De : List Nat) (ve vd : Value) (b0 gw offw cpw : Nat) (way : List Nat) : Prop where
  web : WebIn wx bw base p m q n L D De ve vd
  way : OwnS wx b0 3 1 (.slice (some ⟨gw, offw, none⟩) way.length cpw) way.length (nums way)
  bel : Below w.heap.size w wx

section
variable {w wx wy : World} {bw base p m q n : Nat} {L : List (Nat × Nat)} {D : List Bool} {De : List Nat} {ve vd : Value} {b0 gw offw cpw : Nat} {way : List Nat}
theorem WkIn.below (h : WkIn w wx bw base p m q n L D De ve vd b0 gw offw cpw way) (hb : Below wx.heap.size wx wy) : WkIn w wy bw base p m q n L D De ve vd b0 gw offw cpw way :=
  ⟨h.web.below hb, h.way.of_block fun k hk => hb.block _ (h.way.lt k hk).2, h.bel.trans (hb.mono h.bel.size)⟩

/-- The way goes on by a node. -/
theorem WkIn.push (h : WkIn w wx bw base p m q n L D De ve vd b0 gw offw cpw way) {o : Obj} {g off cap : Nat} {way' : List Nat} {v : Value} (hgrow : (wx.alloc o).grownBy wy v.ownBlock) (hown : OwnS wy b0 3 1 (.slice (some ⟨g, off, none⟩) way'.length cap) way'.length (nums way'))
    (hold : ∀ k, v.ownBlock = some k → b0 ≤ k) (hlt : bw < b0 ∧ p < b0 ∧ m < b0 ∧ q < b0 ∧ (∀ k, ve.ownBlock = some k → k < b0) ∧ (∀ k, vd.ownBlock = some k → k < b0)) (hb0 : w.heap.size ≤ b0) : WkIn w wy bw base p m q n L D De ve vd b0 g off cap way' := by
  have keep : ∀ k, k < b0 → k < wx.heap.size → wy.heap[k]? = wx.heap[k]? := fun k hk hl => (hgrow.block k (by simp; omega) (fun e => by have := hold k e.symm; omega)).trans (Below.heap_alloc _ _ _ hl)
  obtain ⟨l1, l2, l3, l4, l5, l6⟩ := hlt
  have hw := h.web
  refine ⟨⟨(keep _ l1 (blk_lt hw.head)).trans hw.head, hw.graph.of_block (keep _ l2 hw.graph.pLt) (keep _ l3 hw.graph.mLt) (keep _ l4 hw.graph.qLt), hw.edges.of_block fun k hk => keep k (l5 k hk) (hw.edges.lt k hk).2, hw.ends.of_block fun k hk => keep k (l6 k hk) (hw.ends.lt k hk).2, hw.tells, hw.eLt, hw.lo⟩, hown, ?_⟩
  refine h.bel.trans ⟨hgrow.os, hgrow.tape, hgrow.output, by have := hgrow.size; simp at this; omega, fun k hk => keep k (by omega) (by have := h.bel.size; omega)⟩

theorem WebIn.lts {wz : World} (h : WebIn wz bw base p m q n L D De ve vd) : bw < wz.heap.size ∧ p < wz.heap.size ∧ m < wz.heap.size ∧ q < wz.heap.size ∧ (∀ k, ve.ownBlock = some k → k < wz.heap.size) ∧ (∀ k, vd.ownBlock = some k → k < wz.heap.size) :=
  ⟨blk_lt h.head, h.graph.pLt, h.graph.mLt, h.graph.qLt, fun k hk => (h.edges.lt k hk).2, fun k hk => (h.ends.lt k hk).2⟩

theorem WkIn.cells (h : WkIn w wx bw base p m q n L D De ve vd b0 gw offw cpw way) : way.length ≤ cpw ∧ ∀ j (hj : j < way.length), wx.cell? ⟨gw, offw + j, none⟩ = some (.int .i64 ((way[j] : Nat) : Int)) := by
  rcases h.way.2 with ⟨h1, _⟩ | ⟨g, off, cap, cur, h1, _, hg, hnc, _, _, hc⟩
  · simp at h1
  · simp at h1
    obtain ⟨⟨rfl, rfl⟩, rfl⟩ := h1
    refine ⟨hnc, fun j hj => ?_⟩
    simp [World.cell?, hg, hc j _ (nums_get hj)]

theorem WkIn.rdTo (h : WkIn w wx bw base p m q n L D De ve vd b0 gw offw cpw way) {i : Nat} (hi : i < way.length) : RdS wx 1 (.slice (some ⟨gw, offw, none⟩) (i + 1) cpw) (way.take (i + 1)).length (nums (way.take (i + 1))) := by
  have hl : (way.take (i + 1)).length = i + 1 := by simp; omega
  refine ⟨by simp [nums], some ⟨gw, offw, none⟩, cpw, by rw [hl], .inr ⟨gw, offw, rfl, fun j u hj => ?_⟩⟩
  have hjl : j < i + 1 := by
    have := (List.getElem?_eq_some_iff.1 hj).1
    simp [nums] at this
    omega
  simp only [nums, List.getElem?_map, List.getElem?_take_of_lt hjl, List.getElem?_eq_getElem (show j < way.length by omega), Option.map_some, Option.some.injEq] at hj
  rw [h.cells.2 j (by omega), ← hj]

theorem WkIn.rdMid (h : WkIn w wx bw base p m q n L D De ve vd b0 gw offw cpw way) {i k : Nat} (hik : i ≤ k) (hk : k < way.length) : RdS wx 1 (.slice (some ⟨gw, offw + i, none⟩) (k + 1 - i) (cpw - i)) ((way.drop i).take (k + 1 - i)).length (nums ((way.drop i).take (k + 1 - i))) := by
  have hl : ((way.drop i).take (k + 1 - i)).length = k + 1 - i := by simp; omega
  refine ⟨by simp [nums], some ⟨gw, offw + i, none⟩, cpw - i, by rw [hl], .inr ⟨gw, offw + i, rfl, fun j u hj => ?_⟩⟩
  have hjl : j < k + 1 - i := by
    have := (List.getElem?_eq_some_iff.1 hj).1
    simp [nums] at this
    omega
  simp only [nums, List.getElem?_map, List.getElem?_take_of_lt hjl, List.getElem?_drop, List.getElem?_eq_getElem (show i + j < way.length by omega), Option.map_some, Option.some.injEq] at hj
  rw [Nat.add_assoc, h.cells.2 (i + j) (by omega), ← hj]
end

theorem slice_to (g off N cap i : Nat) (h : i + 1 ≤ cap) (w : World) : (Instr.slice 26 (.slice (some ⟨g, off, none⟩) N cap) none (some (.int .i64 ((i : Int) + 1))) none).run Try.prog w = .ok (.slice (some ⟨g, off, none⟩) (i + 1) cap) w := by
  have h1 : (0 : Int) ≤ (i : Int) + 1 ∧ (i : Int) + 1 ≤ (cap : Int) := by omega
  have h2 : ¬ cap = 0 := by omega
  have h3 : ((i : Int) + 1).toNat = i + 1 := by omega
  simp [Instr.slice, run_underlying Try.underlying26, Instr.sliceBounds, Instr.sliceBound, asIntOf, Result.andThen, sizeInt, h1, h2, h3]
  simp [Addr.add]

theorem slice_mid (g off N cap i k : Nat) (hik : i ≤ k) (h : k + 1 ≤ cap) (w : World) : (Instr.slice 26 (.slice (some ⟨g, off, none⟩) N cap) (some (.int .i64 (i : Int))) (some (.int .i64 ((k : Int) + 1))) none).run Try.prog w = .ok (.slice (some ⟨g, off + i, none⟩) (k + 1 - i) (cap - i)) w := by
  have h1 : (0 : Int) ≤ (k : Int) + 1 ∧ (k : Int) + 1 ≤ (cap : Int) := by omega
  have h3 : ((k : Int) + 1).toNat = k + 1 := by omega
  have h4 : (i : Int) ≤ (k : Int) + 1 := by omega
  have h5 : ¬ cap = i := by omega
  have h6 : i ≤ k + 1 := by omega
  simp [Instr.slice, run_underlying Try.underlying26, Instr.sliceBounds, Instr.sliceBound, asIntOf, Result.andThen, sizeInt, h1, h3, h4, h5, h6, Addr.add_lit]

theorem wrap_nat {N : Nat} (h : N ≤ 1000000) : IntKind.i64.wrap (N : Int) = (N : Int) := by
  have e : IntKind.i64.bits = 64 := rfl
  simp [IntKind.wrap, IntKind.signed, e]
  omega

set_option maxRecDepth 100000 in
set_option maxHeartbeats 8000000 in
theorem walked_walk (w : World) (size : Int) (hsz : fits size) (ve vd vs : Value) (xs : List (Int × Int)) (zs ss : List Int) (he : RdS w 2 ve xs.length (rcells xs)) (hd : RdS w 1 vd zs.length (zs.map (Value.int .i64))) (hs : RdS w 1 vs ss.length (ss.map (Value.int .i64)))
    (hx : ∀ x ∈ xs, fits x.1 ∧ fits x.2) (hz : ∀ z ∈ zs, fits z) (hss : ∀ z ∈ ss, fits z) (hxl : xs.length ≤ 17592186044000) (hzl : zs.length ≤ 17592186044000) (hsl : ss.length ≤ 17592186044000) :
    Calls Try.prog 5 #[.int .i64 size, ve, vd, vs] w fun e w' => e = .returned (.bool true) ∧ Below w.heap.size w w' := by
  obtain ⟨n, hn⟩ : ∃ n, n = 1 + pickN size 39 := ⟨_, rfl⟩
  have hp39 := pickN_lt size (show 0 < 39 by decide)
  have hn39 : n ≤ 39 := by omega
  have hn1 : 1 ≤ n := by omega
  have hcall1 := web_any w size hsz ve vd xs zs he hd hx hz hxl hzl n hn
  have HC : Hid (Calls Try.prog 9 _ w _) := hcall1
  have HS : Hid (RdS w 1 vs ss.length (ss.map (Value.int .i64))) := hs
  have HF : Hid (∀ z ∈ ss, fits z) := hss
  obtain ⟨-, aoE, cpE, rfl, -⟩ := he
  obtain ⟨-, aoD, cpD, rfl, -⟩ := hd
  obtain ⟨-, aoS, cpS, rfl, -⟩ := hs
  clear hcall1 hx hz hss hn hp39
  go_enter Try.func5, Try.ntmps5
  go_wp2_with fail
  refine HC.out.mono ?_
  rintro e w1 ⟨bw, p, m, q, ve1, vd1, rfl, hweb, hb1⟩
  have HW : Hid (WebIn w1 bw w.heap.size p m q n (webL n xs) (webD n zs) (webDe n zs) ve1 vd1) := hweb
  have HB1 : Hid (Below w.heap.size w w1) := hb1
  have hdl : (webDe n zs).length ≤ 17592186044000 := by simp [webDe]; exact hzl
  clear HC hweb hb1
  generalize webL n xs = L at HW
  generalize webD n zs = D at HW
  generalize webDe n zs = De at HW hdl
  have h40 := HW.out.len40
  obtain ⟨aoV, cpV, rfl⟩ := HW.out.edges.len
  obtain ⟨aoW, cpW, rfl⟩ := HW.out.ends.len
  have HK0 : Hid (WkIn w (w1.alloc (.cells #[.int .i64 0] 3)) bw w.heap.size p m q n L D De (.slice aoV L.length cpV) (.slice aoW De.length cpW) w1.heap.size w1.heap.size 0 1 [0]) := by
    have hb : Below w1.heap.size w1 (w1.alloc (.cells #[.int .i64 0] 3)) := (Below.refl _ _).alloc (Nat.le_refl _) _
    refine ⟨HW.out.below hb, ⟨by simp [nums], .inr ⟨w1.heap.size, 0, 1, #[.int .i64 0], rfl, Nat.le_refl _, heap_new rfl, by simp, by unfold maxLen; omega, by simp, fun j u hj => ?_⟩⟩, HB1.out.trans (hb.mono HB1.out.size)⟩
    match j, hj with
    | 0, hj => simp [nums] at hj; subst hj; simp
    | j + 1, hj => simp [nums] at hj
  go_upto_block 0 with fail
  go_cut [10, 11] from 24 (fun s10 _ wx => ∃ (gw offw cpw : Nat) (way : List Nat), s10 = .slice (some ⟨gw, offw, none⟩) way.length cpw ∧ Hid (WkIn w wx bw w.heap.size p m q n L D De (.slice aoV L.length cpV) (.slice aoW De.length cpW) w1.heap.size gw offw cpw way) ∧ Hid (Way L way) ∧ Hid (∀ y ∈ way, y < n) ∧ way.length ≤ 62)
  case first =>
    go_wp2_with fail
    go_loopg [10, 11] ss.length (fun g s10 s11 wr => ∃ (k gw offw cpw N : Nat) (way : List Nat), k + g = ss.length ∧ s11 = .int .i64 k ∧ s10 = .slice (some ⟨gw, offw, none⟩) (N + 1) cpw ∧ Hid (way.length = N + 1) ∧ Hid (WkIn w wr bw w.heap.size p m q n L D De (.slice aoV L.length cpV) (.slice aoW De.length cpW) w1.heap.size gw offw cpw way) ∧ Hid (Way L way) ∧ N ≤ k ∧ k ≤ 60 ∧ Hid (∀ y ∈ way, y < n))
    case atStart => exact ⟨0, _, _, _, 0, [0], by omega, rfl, rfl, rfl, HK0, ⟨by simp, fun i a c ha hc => by simp at hc⟩, by omega, by omega, by intro y hy; simp at hy; omega⟩
    case round =>
      obtain ⟨k, gw, offw, cpw, N, way, hkg, rfl, rfl, HN, hkn, hway, hwl, hk60, hwn⟩ := hrel
      clear HK0
      by_cases hlt : k < ss.length
      · by_cases hlt60 : k < 60
        · obtain ⟨hl, ao, cp, hf, hr⟩ := HS.out
          simp only [Value.slice.injEq] at hf
          obtain ⟨rfl, _, rfl⟩ := hf
          rcases hr with hr | ⟨g0, off0, rfl, hr⟩
          · omega
          have d0 := hr k (.int .i64 ss[k]) (by simp [hlt])
          have hgl := World.block_lt_of_cell? w _ d0
          have c0 : wr.cell? ⟨g0, off0 + k, none⟩ = some (.int .i64 ss[k]) := by rw [hkn.out.bel.cell hgl]; exact d0
          have hfit := HF.out ss[k] (List.getElem_mem _)
          obtain ⟨hcw, hcells⟩ := hkn.out.cells
          have hNl : N < way.length := by have := HN.out; omega
          have c1 := hcells N hNl
          have HLAST : Hid (way[way.length - 1]? = some way[N]) := by show _ = _; rw [show way.length - 1 = N from by have := HN.out; omega]; exact List.getElem?_eq_getElem hNl
          have hla := hwn.out way[N] (List.getElem_mem _)
          clear hcells
          generalize ss[k] = cc at c0 hfit
          generalize way[N] = la at c1 HLAST hla
          have hk0 : (0 : Int) ≤ (k : Int) := by omega
          have hk1 : (k : Int) < (ss.length : Int) := by omega
          have hN0 : (0 : Int) ≤ (N : Int) := by omega
          have hN1 : (N : Int) < (N : Int) + 1 := by omega
          have hNw : IntKind.i64.wrap (N : Int) = (N : Int) := wrap_nat (by omega)
          clear hNl hcw
          have HK : Hid (∀ W, Below wr.heap.size wr W → W.cell? ⟨gw, offw + N, none⟩ = some (.int .i64 (la : Int)) ∧ W.cell? ⟨g0, off0 + k, none⟩ = some (.int .i64 cc)) := fun W hW => ⟨(hW.cell (World.block_lt_of_cell? wr _ c1)).trans c1, (hW.cell (World.block_lt_of_cell? wr _ c0)).trans c0⟩
          have HNX : Hid (∀ W, Below wr.heap.size wr W → Calls Try.prog 10 #[.pointer (some ⟨bw, 0, none⟩), .int .i64 (la : Int), .int .i64 cc] W fun e w' => (e = .returned (.int .i64 (-1)) ∨ ∃ y : Nat, e = .returned (.int .i64 y) ∧ (la, y) ∈ L) ∧ Below W.heap.size W w' ∧ Below wr.heap.size wr w') := by
            intro W hW
            have h1 := hkn.out.web.below hW
            refine (webNext_any W bw L _ h1.c2 h1.edges.rd (by omega) la cc hfit).mono ?_
            rintro e w' ⟨h2, h3⟩
            exact ⟨h2, h3, hW.trans (h3.mono hW.size)⟩
          clear hr hl d0 hgl hfit
          go_wp2_with fail
          go_region_held3 (fun w' => w'.cell? ⟨gw, offw + N, none⟩ = some (.int .i64 (la : Int)) ∧ w'.cell? ⟨g0, off0 + k, none⟩ = some (.int .i64 cc))
            ((refine HK.out _ ?_; (repeat (first | assumption | exact Below.refl _ _ | apply Below.drew))))
            (first | (go_at_call 10; refine (HNX.out _ ?_).mono ?_; (repeat (first | assumption | exact Below.refl _ _ | apply Below.drew)); rintro e w2 ⟨he2, hb2, hB2⟩; obtain ⟨vn, rfl, hvn⟩ : ∃ vn : Int, e = .returned (.int .i64 vn) ∧ Hid (vn = -1 ∨ ∃ y : Nat, vn = y ∧ (la, y) ∈ L) := by (rcases he2 with h9 | ⟨y, h9, h8⟩; exact ⟨-1, h9, .inl rfl⟩; exact ⟨y, h9, .inr ⟨y, rfl, h8⟩⟩)))

          have HM : Hid (WkIn w w2 bw w.heap.size p m q n L D De (.slice aoV L.length cpV) (.slice aoW De.length cpW) w1.heap.size gw offw cpw way) := hkn.out.below hB2
          have hv2 := hvn.out
          clear hkn c0 c1 hb2 hB2 HK HNX
          rcases hv2 with rfl | ⟨y, rfl, hy⟩
          · go_wp2_with fail
            go_meet
            exact ⟨gw, offw, cpw, way, by rw [HN.out], HM, hway, hwn, by have := HN.out; omega⟩
          · obtain ⟨i0, hi, hz0, hz1, hz2⟩ := info_parts infoInt
            have hvn2 : ¬ ((y : Nat) : Int) < 0 := by omega
            have hyn : y < n := (HM.out.web.graph.lt _ hy).2
            have HOW : Hid (OwnS w2 w1.heap.size 3 1 (.slice (some ⟨gw, offw, none⟩) (N + 1) cpw) (N + 1) (nums way)) := by have := HM.out.way; rw [HN.out] at this; exact this
            have hs2 : w1.heap.size ≤ w2.heap.size := by
              have h1 := HOW.out.lt gw rfl
              omega
            go_wp2_with (first | (at_builtin; refine wpList_append_ownS _ rfl _ _ 26 rfl w1.heap.size 3 i0 (.int .i64 0) 1 8 Try.underlying26 hi hz0 hz1 hz2 rfl (by decide) _ _ _ rfl (HOW.out.alloc _) ⟨w2.heap.size, 0, none⟩ 1 1 [.int .i64 (y : Int)] rfl rfl (cell_new1 _ _ _) (fun u hu => nums_one u y hu) (by decide) (by unfold maxLen; omega) (by omega) (by simp; omega) ?_; intro g' off' cap' w3 hown3 hgrow3 hloc3 hlt3))
            have hk3 : WkIn w w3 bw w.heap.size p m q n L D De (.slice aoV L.length cpV) (.slice aoW De.length cpW) w1.heap.size g' off' cap' (way ++ [y]) := HM.out.push hgrow3 (by rw [nums_append]; have e1 : (way ++ [y]).length = N + 1 + 1 := (by simp; exact HN.out); rw [e1]; simpa [nums] using hown3) (fun j hj => (HOW.out.lt j hj).1) HW.out.lts HB1.out.size
            go_wp2_with fail
            go_roundg (ss.length - (k + 1))
            case measure => omega
            case rel => exact ⟨k + 1, g', off', cap', N + 1, way ++ [y], by omega, by go_num, rfl, by show _ = _; simp; exact HN.out, hk3, hway.out.snoc HLAST.out hy, by omega, by omega, by intro z hz; simp only [List.mem_append, List.mem_singleton] at hz; rcases hz with hz | rfl; exact hwn.out z hz; exact hyn⟩
        · go_wp2_with fail
          go_meet
          exact ⟨gw, offw, cpw, way, by rw [HN.out], hkn, hway, hwn, by have := HN.out; omega⟩
      · go_wp2_with fail
        go_meet
        exact ⟨gw, offw, cpw, way, by rw [HN.out], hkn, hway, hwn, by have := HN.out; omega⟩
  case rest =>
    obtain ⟨gw, offw, cpw, way, rfl, hkn, hway, hwn, hwl⟩ := hcut
    clear HK0
    have hpos : 0 < way.length := by have := (List.getElem?_eq_some_iff.1 hway.out.head).1; omega
    have hcpw := hkn.out.cells.1
    generalize w1.heap.size = b0 at hkn
    clear HB1 HW HS HF
    go_wp2_with fail
    go_loopg [13] way.length (fun g s13 wx => ∃ i : Nat, i + g = way.length ∧ s13 = .int .i64 i ∧ Hid (WkIn w wx bw w.heap.size p m q n L D De (.slice aoV L.length cpV) (.slice aoW De.length cpW) b0 gw offw cpw way))
    case atStart => exact ⟨0, by omega, rfl, hkn⟩
    case round =>
      clear hkn
      obtain ⟨i, hig, rfl, hk2⟩ := hrel
      by_cases hin : i < way.length
      · have hbi : Hid (way[i]? = some way[i]) := List.getElem?_eq_getElem hin
        have cb := hk2.out.cells.2 i hin
        have hbn := hwn.out way[i] (List.getElem_mem _)
        generalize way[i] = b at cb hbi hbn
        have hi0 : (0 : Int) ≤ (i : Int) := by omega
        have hi1 : (i : Int) < (way.length : Int) := by omega
        have hown := hway.out.own hbi.out
        have HOWN : Hid (HeldF L b b ∧ HeldF L 0 b) := hown
        clear hown
        go_wp2_with fail
        refine (webOver_any _ bw _ p m q n L D De _ _ hk2.out.web b b hbn hbn).mono ?_
        rintro e w2 ⟨r1, rfl, hr1, hb2⟩
        obtain rfl : r1 = true := hr1.2 HOWN.out.1
        have hk3 : Hid (WkIn w w2 bw w.heap.size p m q n L D De (.slice aoV L.length cpV) (.slice aoW De.length cpW) b0 gw offw cpw way) := hk2.out.below hb2
        clear hk2 hr1 hb2 cb
        go_wp2_with fail
        refine (webOver_any w2 bw _ p m q n L D De _ _ hk3.out.web 0 b (by omega) hbn).mono ?_
        rintro e w3 ⟨r2, rfl, hr2, hb3⟩
        obtain rfl : r2 = true := hr2.2 HOWN.out.2
        have hk4 : Hid (WkIn w w3 bw w.heap.size p m q n L D De (.slice aoV L.length cpV) (.slice aoW De.length cpW) b0 gw offw cpw way) := hk3.out.below hb3
        clear hk3 hr2 hb3
        go_wp2_with fail
        go_loopg [17] n (fun g s17 wx => ∃ a : Nat, a + g = n ∧ s17 = .int .i64 a ∧ Hid (WkIn w wx bw w.heap.size p m q n L D De (.slice aoV L.length cpV) (.slice aoW De.length cpW) b0 gw offw cpw way))
        case atStart => exact ⟨0, by omega, rfl, hk4⟩
        case round =>
          clear hk4
          obtain ⟨a, hag, rfl, hk5⟩ := hrel
          have k1 := hk5.out.web.c1
          by_cases han : a < n
          · go_wp2_with fail
            refine (webOver_any _ bw _ p m q n L D De _ _ hk5.out.web a b han hbn).mono ?_
            rintro e w4 ⟨r3, rfl, hr3, hb4⟩
            have hk6 : Hid (WkIn w w4 bw w.heap.size p m q n L D De (.slice aoV L.length cpV) (.slice aoW De.length cpW) b0 gw offw cpw way) := hk5.out.below hb4
            have HR3 : Hid (r3 = true → a ∈ way.take (i + 1)) := fun h => hway.out.over hbi.out (hr3.1 h)
            clear hk5 hr3 hb4 k1
            have hsl := slice_to gw offw way.length cpw i (by omega) w4
            have ham := among_any w4 (way.take (i + 1)) _ (hk6.out.rdTo hin) (by simp; omega) a
            have HAM : Hid (Calls Try.prog 12 _ w4 _) := ham
            clear ham
            go_wp2_with fail
            refine HAM.out.mono ?_
            rintro e w5 ⟨rfl, h5⟩
            obtain rfl := h5.symm
            have hon : Hid (r3 = true → decide (a ∈ way.take (i + 1)) = true) := fun h => by simp [HR3.out h]
            generalize decide (a ∈ way.take (i + 1)) = on at hon
            clear HAM hsl HR3
            have hcases : (r3 = false) ∨ (r3 = true ∧ on = true) := by cases r3; exact .inl rfl; exact .inr ⟨rfl, hon.out rfl⟩
            clear hon
            rcases hcases with rfl | ⟨rfl, rfl⟩
            all_goals
              go_wp2_with fail
              go_loopg [20] (way.length - i) (fun g s20 wx => ∃ k : Nat, k + g = way.length ∧ i ≤ k ∧ s20 = .int .i64 k ∧ Hid (WkIn w wx bw w.heap.size p m q n L D De (.slice aoV L.length cpV) (.slice aoW De.length cpW) b0 gw offw cpw way))
              case atStart => exact ⟨i, by omega, by omega, rfl, hk6⟩
              case round =>
                clear hk6
                obtain ⟨k, hkg, hik, rfl, hk7⟩ := hrel
                by_cases hkn : k < way.length
                · have hek : Hid (way[k]? = some way[k]) := List.getElem?_eq_getElem hkn
                  have ck := hk7.out.cells.2 k hkn
                  have c3 := hk7.out.web.c3
                  have hek2 := hwn.out way[k] (List.getElem_mem _)
                  generalize way[k] = ek at ck hek hek2
                  have hk0 : (0 : Int) ≤ (k : Int) := by omega
                  have hk1 : (k : Int) < (way.length : Int) := by omega
                  have HAM : Hid (∀ j, Calls Try.prog 12 #[.slice aoW De.length cpW, .int .i64 (ek : Int)] (wr.drewN j) fun e w' => e = .returned (.bool (decide (ek ∈ De))) ∧ w' = wr.drewN j) := fun j => among_any (wr.drewN j) De _ (hk7.out.web.ends.rd.below ⟨rfl, rfl, rfl, Nat.le_refl _, fun _ _ => rfl⟩) (by omega) ek
                  go_wp2_with fail
                  go_quiet ((go_at_call 12; exact (HAM.out _).mono (fun e w' h => ⟨h.1, _, h.2⟩)))
                  generalize hwq : wr.drewN _ = wq
                  have hk8 : Hid (WkIn w wq bw w.heap.size p m q n L D De (.slice aoV L.length cpV) (.slice aoW De.length cpW) b0 gw offw cpw way) := by rw [← hwq]; exact hk7.out.below ⟨rfl, rfl, rfl, Nat.le_refl _, fun _ _ => rfl⟩
                  clear hwq hk7 HAM ck c3
                  by_cases hend : ek ∈ De
                  · have hdec : decide (ek ∈ De) = true := by simp [hend]
                    rw [hdec]
                    have hD : Hid (D.getD ek false = true) := (hk8.out.web.tells ek).2 hend
                    clear hdec
                    go_wp2_with fail
                    refine (webUnder_any wq bw _ p m q n L D De _ _ hk8.out.web a b han hbn).mono ?_
                    rintro e w6 ⟨r4, rfl, hr4, hb6⟩
                    have hk9 : Hid (WkIn w w6 bw w.heap.size p m q n L D De (.slice aoV L.length cpV) (.slice aoW De.length cpW) b0 gw offw cpw way) := hk8.out.below hb6
                    have HR4 : Hid (r4 = true → a ∈ (way.drop i).take (k + 1 - i)) := fun h => hway.out.under hik hbi.out hek.out hD.out (hr4.1 h)
                    have HR5 : Hid (a = b → r4 = true) := fun h => hr4.2 (by rw [h]; exact hway.out.underSelf hik hbi.out hek.out hD.out)
                    clear hr4 hb6 hk8
                    have hsl := slice_mid gw offw way.length cpw i k hik (by omega) w6
                    have ham := among_any w6 ((way.drop i).take (k + 1 - i)) _ (hk9.out.rdMid hik hkn) (by simp; omega) a
                    have HAM : Hid (Calls Try.prog 12 _ w6 _) := ham
                    clear ham
                    go_wp2_with fail
                    refine HAM.out.mono ?_
                    rintro e w7 ⟨rfl, h7⟩
                    obtain rfl := h7.symm
                    have hon : Hid (r4 = true → decide (a ∈ (way.drop i).take (k + 1 - i)) = true) := fun h => by simp [HR4.out h]
                    generalize decide (a ∈ (way.drop i).take (k + 1 - i)) = behind at hon
                    clear HAM hsl HR4
                    have hcases : (r4 = false ∧ a ≠ b) ∨ (r4 = true ∧ behind = true) := by
                      cases r4
                      · exact .inl ⟨rfl, fun h => by have := HR5.out h; simp at this⟩
                      · exact .inr ⟨rfl, hon.out rfl⟩
                    clear hon HR5
                    rcases hcases with ⟨rfl, hab⟩ | ⟨rfl, rfl⟩
                    · have hab1 : ((a : Int) == (b : Int)) = false := by simp; omega
                      have hab2 : ¬ (a : Int) = (b : Int) := by omega
                      go_wp2_with fail
                      go_roundg (way.length - (k + 1))
                      case measure => omega
                      case rel => exact ⟨k + 1, by omega, by omega, by go_num, hk9⟩
                    · by_cases hab : a = b
                      · have hab1 : ((a : Int) == (b : Int)) = true := by simp; omega
                        have hab2 : (a : Int) = (b : Int) := by omega
                        subst hab
                        go_wp2_with fail
                        go_roundg (way.length - (k + 1))
                        case measure => omega
                        case rel => exact ⟨k + 1, by omega, by omega, by go_num, hk9⟩
                      · have hab1 : ((a : Int) == (b : Int)) = false := by simp; omega
                        have hab2 : ¬ (a : Int) = (b : Int) := by omega
                        go_wp2_with fail
                        go_roundg (way.length - (k + 1))
                        case measure => omega
                        case rel => exact ⟨k + 1, by omega, by omega, by go_num, hk9⟩
                  · have hdec : decide (ek ∈ De) = false := by simp [hend]
                    rw [hdec]
                    clear hdec
                    have hsl := slice_mid gw offw way.length cpw i k hik (by omega) wq
                    have ham := among_any wq ((way.drop i).take (k + 1 - i)) _ (hk8.out.rdMid hik hkn) (by simp; omega) a
                    have HAM : Hid (Calls Try.prog 12 _ wq _) := ham
                    clear ham
                    go_wp2_with fail
                    refine HAM.out.mono ?_
                    rintro e w7 ⟨rfl, h7⟩
                    obtain rfl := h7.symm
                    generalize decide (a ∈ (way.drop i).take (k + 1 - i)) = behind
                    clear HAM hsl
                    go_wp2_with fail
                    go_roundg (way.length - (k + 1))
                    case measure => omega
                    case rel => exact ⟨k + 1, by omega, by omega, by go_num, hk8⟩
                · go_wp2_with fail
                  go_roundg (n - (a + 1))
                  case measure => omega
                  case rel => exact ⟨a + 1, by omega, by go_num, hk7⟩
          · go_wp2_with fail
            go_roundg (way.length - (i + 1))
            case measure => omega
            case rel => exact ⟨i + 1, by omega, by go_num, hk5⟩
      · go_wp2_with fail
        go_ret
        exact ⟨rfl, hk2.out.bel⟩

end Go.Proofs.Ytbddcodljmglfaa
