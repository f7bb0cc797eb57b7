/- Dual, walked: whatever the numbers, it answers true. -/
import Derived.Test.YtbddcodljmglfaaWebMake
import Derived.Test.YtbddcodljmglfaaDom
set_option linter.unusedSimpArgs false
set_option linter.unusedVariables false
namespace Go.Proofs.Ytbddcodljmglfaa
open Go.RowKit
attribute [local go_sem ↓] run_execOp_append

set_option maxHeartbeats 1000000 in
theorem webUnder_g (w : World) (b p m q n : Nat) (L : List (Nat × Nat)) (D : List Bool) (c0 : w.cell? ⟨b, 0, none⟩ = some (.pointer (some ⟨p, 0, none⟩))) (hg : GraphIn w p m q n L D) (x y : Nat) (hx : x < n) (hy : y < n) :
    Calls Try.prog 13 #[.pointer (some ⟨b, 0, none⟩), .int .i64 x, .int .i64 y] w fun e w' => ∃ r : Bool, e = .returned (.bool r) ∧ (r = true ↔ HeldB L D x y) ∧ Below w.heap.size w w' := by
  have HG : Hid (GraphIn w p m q n L D) := hg
  clear hg
  go_enter Try.func13, Try.ntmps13
  go_wp2_with fail
  refine (gUnder_any w p m q n L D HG.out x y hx hy).mono ?_
  rintro e w1 ⟨r, rfl, hr, hb⟩
  have hfin : Hid (∃ r' : Bool, Ending.returned (.bool r) = .returned (.bool r') ∧ (r' = true ↔ HeldB L D x y) ∧ Below w.heap.size w w1) := ⟨r, rfl, hr, hb⟩
  clear hr
  cases r
  all_goals
    go_wp2_with fail
    go_ret
    exact hfin.out

/-- The list of edges that is made the other way round. -/
def backE (De : List Nat) : List (Nat × Nat) := De.map fun e => (0, e + 1)
def backL (L : List (Nat × Nat)) : List (Nat × Nat) := L.map fun p => (p.2 + 1, p.1 + 1)
def up (l : List (Nat × Nat)) : List (Int × Int) := l.map fun p => ((p.1 : Int), (p.2 : Int))
theorem rcells_up (l : List (Nat × Nat)) : rcells (up l) = pcells l := by
  induction l with
  | nil => rfl
  | cons x l ih => simp [rcells, up, pcells] at ih ⊢; exact ih

theorem mem_put {L : List (Nat × Nat)} {x y : Nat × Nat} : y ∈ put1 L x ↔ y ∈ L ∨ y = x := by
  unfold put1
  split
  · rename_i h
    constructor
    · exact .inl
    · rintro (h' | rfl)
      · exact h'
      · exact h
  · simp
theorem mem_webL {n : Nat} {x : Nat × Nat} : ∀ (l : List (Int × Int)), x ∈ webL n l ↔ ∃ y ∈ l, mp n y = x := by
  intro l
  have gen : ∀ (l : List (Int × Int)) (L0 : List (Nat × Nat)), x ∈ l.foldl (fun L y => put1 L (mp n y)) L0 ↔ x ∈ L0 ∨ ∃ y ∈ l, mp n y = x := by
    intro l
    induction l with
    | nil => intro L0; simp
    | cons a l ih =>
      intro L0
      rw [List.foldl_cons, ih, mem_put]
      constructor
      · rintro ((h | h) | ⟨y, hy, e⟩)
        · exact .inl h
        · exact .inr ⟨a, by simp, h.symm⟩
        · exact .inr ⟨y, by simp [hy], e⟩
      · rintro (h | ⟨y, hy, e⟩)
        · exact .inl (.inl h)
        · rcases List.mem_cons.1 hy with rfl | hy
          · exact .inl (.inr e.symm)
          · exact .inr ⟨y, hy, e⟩
  simpa [webL] using gen l []

theorem turn_of {L : List (Nat × Nat)} {D : List Bool} {De : List Nat} {n : Nat} (hD : ∀ a, D.getD a false = true ↔ a ∈ De) (hDe : ∀ a ∈ De, a < n) (hL : ∀ x ∈ L, x.1 < n ∧ x.2 < n) : Turn L (webL (n + 1) (up (backE De ++ backL L))) D := by
  refine ⟨fun x y => ?_⟩
  rw [mem_webL]
  constructor
  · rintro ⟨z, hz, e⟩
    simp only [up, List.mem_map, List.mem_append, backE, backL] at hz
    obtain ⟨u, hu, rfl⟩ := hz
    rcases hu with ⟨d, hd, rfl⟩ | ⟨t, ht, rfl⟩
    · have := hDe d hd
      simp only [mp, pickN_nat (show 0 < n + 1 by omega), pickN_nat (show d + 1 < n + 1 by omega), Prod.mk.injEq] at e
      exact .inl ⟨e.1.symm, d, (hD d).2 hd, e.2.symm⟩
    · have := hL t ht
      simp only [mp, pickN_nat (show t.2 + 1 < n + 1 by omega), pickN_nat (show t.1 + 1 < n + 1 by omega), Prod.mk.injEq] at e
      exact .inr ⟨t.1, t.2, ht, e.1.symm, e.2.symm⟩
  · rintro (⟨rfl, d, hd, rfl⟩ | ⟨a, c, hac, rfl, rfl⟩)
    · have hd' := (hD d).1 hd
      have := hDe d hd'
      refine ⟨((0 : Nat), (d + 1 : Nat)), ?_, by simp only [mp]; rw [pickN_nat (by omega), pickN_nat (by omega)]⟩
      simp only [up, List.mem_map, List.mem_append, backE]
      exact ⟨(0, d + 1), .inl ⟨d, hd', rfl⟩, rfl⟩
    · have := hL _ hac
      refine ⟨((c + 1 : Nat), (a + 1 : Nat)), ?_, by simp only [mp]; rw [pickN_nat (by omega), pickN_nat (by omega)]⟩
      simp only [up, List.mem_map, List.mem_append, backL]
      exact ⟨(c + 1, a + 1), .inr ⟨(a, c), hac, rfl⟩, rfl⟩

theorem back_lt {L : List (Nat × Nat)} {De : List Nat} {n : Nat} (hn : n ≤ 40) (hDe : ∀ a ∈ De, a < n) (hL : ∀ x ∈ L, x.1 < n ∧ x.2 < n) : ∀ x ∈ up (backE De ++ backL L), fits x.1 ∧ fits x.2 := by
  intro x hx
  simp only [up, List.mem_map, List.mem_append, backE, backL] at hx
  obtain ⟨u, hu, rfl⟩ := hx
  unfold fits
  rcases hu with ⟨d, hd, rfl⟩ | ⟨t, ht, rfl⟩
  · have := hDe d hd
    simp only []
    omega
  · have := hL t ht
    simp only []
    omega

/-- The two graphs side by side, whatever was put in and taken out again. -/
structure DualIn (w wx : World) (bw p m q n : Nat) (L : List (Nat × Nat)) (D : List Bool) (bv base pv mv qv : Nat) (Lv : List (Nat × Nat)) (Dv : List Bool) (Dev : List Nat) (vev vdv : Value) : Prop where
  graph : ∃ L2, GraphIn wx p m q n L2 D ∧ ∀ z, z ∈ L2 ↔ z ∈ L
  head : ∃ ve vd, wx.heap[bw]? = some (.cells #[.pointer (some ⟨p, 0, none⟩), .int .i64 n, ve, vd] 33 (0, 0))
  web : WebIn wx bv base pv mv qv (n + 1) Lv Dv Dev vev vdv
  bel : Below w.heap.size w wx
  ml : m < base
  mlo : w.heap.size ≤ m
  bm : bw ≠ m

theorem DualIn.below {w wx wy : World} {bw p m q n : Nat} {L : List (Nat × Nat)} {D : List Bool} {bv base pv mv qv : Nat} {Lv : List (Nat × Nat)} {Dv : List Bool} {Dev : List Nat} {vev vdv : Value} (h : DualIn w wx bw p m q n L D bv base pv mv qv Lv Dv Dev vev vdv) (hb : Below wx.heap.size wx wy) :
    DualIn w wy bw p m q n L D bv base pv mv qv Lv Dv Dev vev vdv := by
  obtain ⟨⟨L2, hg2, hL2⟩, ⟨vq, vr, hhd⟩, hwv, hbq, hmb, hmlo, hbm⟩ := h
  exact ⟨⟨L2, hg2.below hb, hL2⟩, ⟨vq, vr, (hb.block _ (blk_lt hhd)).trans hhd⟩, hwv.below hb, hbq.trans (hb.mono hbq.size), hmb, hmlo, hbm⟩
theorem DualIn.k0 {w wx : World} {bw p m q n : Nat} {L : List (Nat × Nat)} {D : List Bool} {bv base pv mv qv : Nat} {Lv : List (Nat × Nat)} {Dv : List Bool} {Dev : List Nat} {vev vdv : Value} (h : DualIn w wx bw p m q n L D bv base pv mv qv Lv Dv Dev vev vdv) : wx.cell? ⟨bw, 0, none⟩ = some (.pointer (some ⟨p, 0, none⟩)) := by
  obtain ⟨vq, vr, hhd⟩ := h.head
  simp [World.cell?, hhd]
theorem DualIn.k1 {w wx : World} {bw p m q n : Nat} {L : List (Nat × Nat)} {D : List Bool} {bv base pv mv qv : Nat} {Lv : List (Nat × Nat)} {Dv : List Bool} {Dev : List Nat} {vev vdv : Value} (h : DualIn w wx bw p m q n L D bv base pv mv qv Lv Dv Dev vev vdv) : wx.cell? ⟨bw, 1, none⟩ = some (.int .i64 n) := by
  obtain ⟨vq, vr, hhd⟩ := h.head
  simp [World.cell?, hhd]

theorem bwd_congr {L L2 : List (Nat × Nat)} {D : List Bool} (h : ∀ z, z ∈ L2 ↔ z ∈ L) (x : Int) (b : Nat) : Bwd L2 D x b ↔ Bwd L D x b := RA.congr (fun _ => Iff.rfl) (fun a c => h (c, a))
theorem heldB_congr {L L2 : List (Nat × Nat)} {D : List Bool} (h : ∀ z, z ∈ L2 ↔ z ∈ L) (x : Int) (b : Nat) : HeldB L2 D x b ↔ HeldB L D x b := by
  unfold HeldB
  rw [bwd_congr h, bwd_congr h]

/-- Next here is Last there. -/
theorem dual_next {L L2 Lv : List (Nat × Nat)} {D : List Bool} {n b : Nat} (hT : Turn L Lv D) (hL2 : ∀ z, z ∈ L2 ↔ z ∈ L) (hb : b < n) {v x v' x' : Int} (h1 : LastAns n (Bwd L2 D (-1) b) (fun a c => HeldB L2 D a c) b v x) (h2 : LastAns (n + 1) (Fwd Lv (-1) (b + 1)) (fun a c => HeldF Lv a c) (b + 1) v' x') :
    (x = 5 ∧ x' = 5) ∨ (x = 0 ∧ x' = 0 ∧ v = v' - 1 ∧ -1 ≤ v' ∧ v' ≤ (n : Int) + 1) := by
  rcases h1 with ⟨h1, rfl, rfl⟩ | ⟨h1, rfl, H, hH, rfl⟩
  · rcases h2 with ⟨h2, rfl, rfl⟩ | ⟨h2, rfl, H', hH', rfl⟩
    · exact .inl ⟨rfl, rfl⟩
    · exact absurd ((bwd_congr hL2 _ _).2 ((dual_any hT b).1 h2)) h1
  · rcases h2 with ⟨h2, rfl, rfl⟩ | ⟨h2, rfl, H', hH', rfl⟩
    · exact absurd ((dual_any hT b).2 ((bwd_congr hL2 _ _).1 h1)) h2
    · refine .inr ⟨rfl, rfl, dual_nearest hT hb (fun a c ha hc => (hH a c ha hc).trans (heldB_congr hL2 _ _)) hH' ((bwd_congr hL2 _ _).1 h1), ?_⟩
      rcases nearestOf_spec H' (n + 1) (b + 1) with ⟨h, _⟩ | ⟨a, ha, h, _⟩
      · rw [h]; omega
      · rw [h]; omega

theorem fits_nat {a : Nat} (h : a ≤ 1000000) : fits (a : Int) := by unfold fits; omega

set_option maxRecDepth 100000 in
set_option maxHeartbeats 8000000 in
theorem dual_walk (w : World) (size a b : Int) (hsz : fits size) (ha : fits a) (hb : fits b) (ve vd : Value) (xs : List (Int × Int)) (zs : List Int) (he : RdS w 2 ve xs.length (rcells xs)) (hd : RdS w 1 vd zs.length (zs.map (Value.int .i64)))
    (hx : ∀ x ∈ xs, fits x.1 ∧ fits x.2) (hz : ∀ z ∈ zs, fits z) (hxl : xs.length ≤ 10000000) (hzl : zs.length ≤ 10000000) :
    Calls Try.prog 7 #[.int .i64 size, ve, vd, .int .i64 a, .int .i64 b] w fun e w' => e = .returned (.bool true) ∧ Below w.heap.size w w' := by
  have hp38 := pickN_lt size (show 0 < 38 by decide)
  obtain ⟨n, hn⟩ : ∃ n, n = 1 + pickN ((pickN size 38 : Nat) : Int) 39 := ⟨_, rfl⟩
  have hn' : n = 1 + pickN size 38 := by rw [hn, pickN_nat (by omega)]
  have hn38 : n ≤ 38 := by omega
  have hn1 : 1 ≤ n := by omega
  have hcall1 := web_any w ((pickN size 38 : Nat) : Int) (fits_nat (by omega)) ve vd xs zs he hd hx hz (by omega) (by omega) n hn
  have HC : Hid (Calls Try.prog 9 _ w _) := hcall1
  obtain ⟨-, aoE, cpE, rfl, -⟩ := he
  obtain ⟨-, aoD, cpD, rfl, -⟩ := hd
  clear hcall1 hx hz hn hn'
  go_enter Try.func7, Try.ntmps7
  go_wp2_with fail
  refine (pick_any size 38 _ hsz.1 hsz.2 (by decide) (by decide)).mono ?_
  rintro e w0 ⟨rfl, h0⟩
  obtain rfl := h0.symm
  go_wp2_with fail
  refine HC.out.mono ?_
  rintro e w1 ⟨bw, p, m, q, ve1, vd1, rfl, hweb, hb1⟩
  have HW : Hid (WebIn w1 bw w.heap.size p m q n (webL n xs) (webD n zs) (webDe n zs) ve1 vd1) := hweb
  have HB1 : Hid (Below w.heap.size w w1) := hb1
  have hdl : (webDe n zs).length ≤ 10000000 := by simp [webDe]; exact hzl
  clear HC hweb hb1 hp38
  generalize webL n xs = L at HW
  generalize webD n zs = D at HW
  generalize webDe n zs = De at HW hdl
  have h40 := HW.out.len40
  obtain ⟨aoV, cpV, rfl⟩ := HW.out.edges.len
  obtain ⟨aoW, cpW, rfl⟩ := HW.out.ends.len
  go_wp2_with fail
  obtain ⟨i0, hi, hz0, hz1, hz2⟩ := info_parts infoPair
  go_loopg [12, 13] De.length (fun g s12 s13 wr => ∃ k : Nat, k + g = De.length ∧ s13 = .int .i64 k ∧ Hid (OwnS wr w1.heap.size 42 2 s12 (backE (De.take k)).length (pcells (backE (De.take k)))) ∧ Hid (Below w1.heap.size w1 wr))
  case atStart => exact ⟨0, by omega, rfl, OwnS.nil _ _ _ _, Below.refl _ _⟩
  case round =>
    obtain ⟨k, hkg, rfl, hown, hbel⟩ := hrel
    have hwr := HW.out.below hbel.out
    have c3 := hwr.c3
    have c2 := hwr.c2
    have HWR : Hid (WebIn wr bw w.heap.size p m q n L D De (.slice aoV L.length cpV) (.slice aoW De.length cpW)) := hwr
    clear hwr
    by_cases hlt : k < De.length
    · obtain ⟨hl, ao, cp, hf, hr⟩ := HWR.out.ends.rd
      simp only [Value.slice.injEq] at hf
      obtain ⟨rfl, _, rfl⟩ := hf
      rcases hr with hr | ⟨g0, off0, rfl, hr⟩
      · omega
      have c4 := hr _ _ (nums_get hlt)
      have hdk := HW.out.eLt De[k] (List.getElem_mem _)
      have HT : Hid (backE (De.take (k + 1)) = backE (De.take k) ++ [(0, De[k] + 1)]) := by
        show _ = _
        unfold backE
        rw [List.take_add_one, List.getElem?_eq_getElem hlt, List.map_append]
        rfl
      have hbl : Hid ((backE (De.take k)).length ≤ 10000000) := by show _ ≤ _; simp [backE]; omega
      generalize De[k] = d at c4 hdk HT
      generalize backE (De.take k) = Bk at hown HT hbl
      have hs1 := hbel.out.size
      obtain ⟨aoB, cpB, rfl⟩ := hown.out.len
      clear hr hl
      go_wp2_with (first | (at_builtin; refine wpList_append_ownS _ rfl _ _ 25 rfl w1.heap.size 42 i0 _ 2 16 Try.underlying25 hi hz0 hz1 hz2 rfl (by decide) _ _ _ rfl (hown.out.alloc _) ⟨wr.heap.size, 0, none⟩ 1 1 [.int .i64 0, .int .i64 ((d : Int) + 1)] rfl rfl (cell_new2 _ _ _ _ _ rfl) (two_one 0 (d + 1)) (by decide) (by have := hbl.out; unfold maxLen; omega) (by have := hbl.out; omega) (by simp; omega) ?_; intro g' off' cap' w3 hown3 hgrow3 hloc3 hlt3))
      have hb3 : Below w1.heap.size w1 w3 := (hbel.out.alloc hs1 _).grown hgrow3 (by simp; omega) (fun j hj => (hown.out.lt j hj).1)
      go_wp2_with fail
      go_roundg (De.length - (k + 1))
      case measure => omega
      case rel => exact ⟨k + 1, by omega, by go_num, by show OwnS _ _ _ _ _ _ _; rw [HT.out, pcells_append]; simpa [pcells] using hown3, hb3⟩
    · have HO1 : Hid (OwnS wr w1.heap.size 42 2 u12 (backE De ++ backL (L.take 0)).length (pcells (backE De ++ backL (L.take 0)))) := by
        have := hown.out
        rw [List.take_of_length_le (by omega)] at this
        show OwnS _ _ _ _ _ _ _
        simpa [backL] using this
      go_wp2_with fail
      clear hown
      go_loopg [12, 14] L.length (fun g s12 s14 wr => ∃ k : Nat, k + g = L.length ∧ s14 = .int .i64 k ∧ Hid (OwnS wr w1.heap.size 42 2 s12 (backE De ++ backL (L.take k)).length (pcells (backE De ++ backL (L.take k)))) ∧ Hid (Below w1.heap.size w1 wr))
      case atStart => exact ⟨0, by omega, rfl, HO1, hbel⟩
      case round =>
        clear HO1 hbel c3 c2 HWR
        obtain ⟨k, hkg, rfl, hown, hbel⟩ := hrel
        have hwr := HW.out.below hbel.out
        have c2 := hwr.c2
        have c1 := hwr.c1
        have HWR : Hid (WebIn wr bw w.heap.size p m q n L D De (.slice aoV L.length cpV) (.slice aoW De.length cpW)) := hwr
        clear hwr
        by_cases hlt : k < L.length
        · obtain ⟨hl, ao, cp, hf, hr⟩ := HWR.out.edges.rd
          simp only [Value.slice.injEq] at hf
          obtain ⟨rfl, _, rfl⟩ := hf
          rcases hr with hr | ⟨g0, off0, rfl, hr⟩
          · omega
          obtain ⟨h0, h1⟩ := pcells_get L k hlt
          have c4 := hr _ _ h0
          have c5 := hr _ _ h1
          have hLk := HW.out.graph.lt L[k] (List.getElem_mem _)
          have HT : Hid (backE De ++ backL (L.take (k + 1)) = (backE De ++ backL (L.take k)) ++ [(L[k].2 + 1, L[k].1 + 1)]) := by
            show _ = _
            unfold backL
            rw [List.take_add_one, List.getElem?_eq_getElem hlt, List.map_append, List.append_assoc]
            rfl
          have hbl : Hid ((backE De ++ backL (L.take k)).length ≤ 10002000) := by show _ ≤ _; simp [backE, backL]; omega
          generalize L[k].1 = x0 at c4 hLk HT
          generalize L[k].2 = y0 at c5 hLk HT
          generalize backE De ++ backL (L.take k) = Bk at hown HT hbl
          have hs1 := hbel.out.size
          obtain ⟨aoB, cpB, rfl⟩ := hown.out.len
          rw [← Nat.add_assoc] at c5
          have hi1 : (0 : Int) ≤ (k : Int) := by omega
          have hi2 : (k : Int) < (L.length : Int) := by omega
          obtain ⟨hx0, hy0⟩ := hLk
          obtain ⟨g, off, cp', w3, happ0, hown3, hgrow3, hloc3, _⟩ := run_append_ownS (P := Try.prog) ((wr.alloc (.cells #[.int .i64 ((y0 : Int) + 1), .int .i64 ((x0 : Int) + 1)] 42)).drew) w1.heap.size 25 0 42 i0 _ 2 16 Try.underlying25 hi hz0 hz1 hz2 rfl (by decide) _ _ _ ((hown.out.alloc (.cells #[.int .i64 ((y0 : Int) + 1), .int .i64 ((x0 : Int) + 1)] 42)).of_block (fun _ _ => rfl)) ⟨wr.heap.size, 0, none⟩ 1 1 [.int .i64 ((y0 : Int) + 1), .int .i64 ((x0 : Int) + 1)] rfl (cell_new2 wr _ _ _ _ rfl) (two_one (y0 + 1) (x0 + 1)) (by decide) (by have := hbl.out; unfold maxLen; omega) (by have := hbl.out; omega) (by simp; omega)
          have happ : ∀ ty, (appLater #[25, 25] ty #[.slice aoB Bk.length cpB, .slice (some ⟨wr.heap.size, 0, none⟩) 1 1]).run Try.prog ((wr.alloc (.cells #[.int .i64 ((y0 : Int) + 1), .int .i64 ((x0 : Int) + 1)] 42)).drew) = .ok (.value (.slice (some ⟨g, off, none⟩) (Bk.length + 1) cp')) w3 := fun ty => run_appLater (ty := ty) happ0
          have hb3 : Hid (Below w1.heap.size w1 w3) := (hbel.out.alloc hs1 _).drew.grown hgrow3 (by simp; omega) (fun j hj => (hown.out.lt j hj).1)
          have HO3 : Hid (OwnS w3 w1.heap.size 42 2 (.slice (some ⟨g, off, none⟩) (Bk.length + 1) cp') (Bk ++ [(y0 + 1, x0 + 1)]).length (pcells (Bk ++ [(y0 + 1, x0 + 1)]))) := by
            show OwnS _ _ _ _ _ _ _
            rw [pcells_append]
            simpa [pcells] using hown3
          clear hr hl h0 h1 happ0 hown3 hgrow3 hloc3
          go_wp2_with fail
          go_region
          all_goals go_wp2_with fail
          all_goals go_roundg (L.length - (k + 1))
          case measure => omega
          case rel => exact ⟨k + 1, by omega, by go_num, by rw [HT.out]; exact HO3, hb3⟩
        · have HOV : Hid (RdS wr 2 u12 (up (backE De ++ backL L)).length (rcells (up (backE De ++ backL L)))) := by
            have := hown.out.rd
            rw [List.take_of_length_le (by omega)] at this
            show RdS _ _ _ _ _
            rw [rcells_up]
            simpa [up] using this
          have hbl : Hid ((up (backE De ++ backL L)).length ≤ 100000000) := by show _ ≤ _; simp [up, backE, backL]; omega
          clear hown
          have HTURN : Hid (Turn L (webL (n + 1) (up (backE De ++ backL L))) D) := turn_of HW.out.tells HW.out.eLt HW.out.graph.lt
          go_wp2_with fail
          refine (web_any wr (n : Int) (fits_nat (by omega)) u12 (.slice none 0 0) (up (backE De ++ backL L)) [] HOV.out ⟨by simp, none, 0, rfl, .inl rfl⟩ (back_lt (by omega) HW.out.eLt HW.out.graph.lt) (by simp) (Nat.le_trans hbl.out (by decide)) (by simp) (n + 1) (by rw [pickN_nat (by omega)]; omega)).mono ?_
          rintro e w4 ⟨bv, pv, mv, qv, vev, vdv, rfl, hwv, hb4⟩
          generalize webL (n + 1) (up (backE De ++ backL L)) = Lv at hwv HTURN
          generalize webD (n + 1) [] = Dv at hwv
          generalize webDe (n + 1) [] = Dev at hwv
          have HWV : Hid (WebIn w4 bv wr.heap.size pv mv qv (n + 1) Lv Dv Dev vev vdv) := hwv
          have HW4 : Hid (WebIn w4 bw w.heap.size p m q n L D De (.slice aoV L.length cpV) (.slice aoW De.length cpW)) := HWR.out.below hb4
          have HB4 : Hid (Below w.heap.size w w4) := (HB1.out.trans (hbel.out.mono HB1.out.size)).trans (hb4.mono (Nat.le_trans HB1.out.size hbel.out.size))
          have hml : Hid (m < wr.heap.size) := HWR.out.graph.mLt
          have k1 : w4.cell? ⟨bw, 1, none⟩ = some (.int .i64 n) := HW4.out.c1
          have k2 : w4.cell? ⟨bv, 1, none⟩ = some (.int .i64 ((n : Int) + 1)) := by have := HWV.out.c1; simpa using this
          clear hwv HOV hbl c1 c2 HWR hbel hb4 HB1 HW
          go_wp2_with fail
          go_quiet (fail)
          go_wp2_with fail
          generalize hwq : w4.drewN _ = wq
          have HWQ : Hid (DualIn w wq bw p m q n L D bv wr.heap.size pv mv qv Lv Dv Dev vev vdv) := by
            rw [← hwq]
            exact ⟨⟨L, HW4.out.graph.of_block rfl rfl rfl, fun z => Iff.rfl⟩, ⟨_, _, HW4.out.head⟩, HWV.out.kept (fun _ _ _ => rfl), HB4.out.trans ⟨rfl, rfl, rfl, Nat.le_refl _, fun _ _ => rfl⟩, hml.out, HW4.out.lo.2.2.1, HW4.out.ne.2.1⟩
          have HRD : Hid (RdS wq 2 (.slice aoV L.length cpV) L.length (pcells L)) := by
            rw [← hwq]
            exact HW4.out.edges.rd.below ⟨rfl, rfl, rfl, Nat.le_refl _, fun _ _ => rfl⟩
          have k1 : wq.cell? ⟨bw, 1, none⟩ = some (.int .i64 n) := by rw [← hwq]; exact HW4.out.c1
          have k3 : wq.cell? ⟨bw, 2, none⟩ = some (.slice aoV L.length cpV) := by rw [← hwq]; exact HW4.out.c2
          clear hwq HWV HW4 HB4 hml k2
          have hxlt := pickN_lt a (show 0 < n by omega)
          have hylt := pickN_lt b (show 0 < n by omega)
          refine (pick_any a n wq ha.1 ha.2 (by omega) (by omega)).mono ?_
          rintro e w5 ⟨rfl, h5⟩
          obtain rfl := h5.symm
          go_wp2_with fail
          refine (pick_any b n wq hb.1 hb.2 (by omega) (by omega)).mono ?_
          rintro e w5 ⟨rfl, h5⟩
          obtain rfl := h5.symm
          generalize pickN a n = x at hxlt
          generalize pickN b n = y at hylt
          go_wp2_with fail
          refine (webHas_any wq bw L _ k3 HRD.out (by omega) x y).mono ?_
          rintro e w5 ⟨rfl, h5⟩
          obtain rfl := h5.symm
          clear HRD k3
          go_upto_if 126 with fail
          go_cut [18] from 30 (fun _ wx => DualIn w wx bw p m q n L D bv wr.heap.size pv mv qv Lv Dv Dev vev vdv)
          case first =>
            by_cases hm : (x, y) ∈ L
            · have hdec : decide ((x, y) ∈ L) = true := by simp [hm]
              rw [hdec]
              go_wp2_with fail
              go_meet
              exact HWQ.out
            · have hdec : decide ((x, y) ∈ L) = false := by simp [hm]
              rw [hdec]
              obtain ⟨⟨L2, hg2, hL2⟩, ⟨vq, vr, hhd⟩, hwv, hbq, hmb, hmlo, hbm⟩ := HWQ.out
              have hm2 : (x, y) ∉ L2 := fun h => hm ((hL2 _).1 h)
              have k0 : wq.cell? ⟨bw, 0, none⟩ = some (.pointer (some ⟨p, 0, none⟩)) := by simp [World.cell?, hhd]
              have HG2 : Hid (GraphIn wq p m q n L2 D) := hg2
              have HX : Hid (WebIn wq bv wr.heap.size pv mv qv (n + 1) Lv Dv Dev vev vdv ∧ Below w.heap.size w wq ∧ (∀ z, z ∈ L2 ↔ z ∈ L) ∧ wq.heap[bw]? = some (.cells #[.pointer (some ⟨p, 0, none⟩), .int .i64 n, vq, vr] 33 (0, 0))) := ⟨hwv, hbq, hL2, hhd⟩
              clear hg2 hL2 hwv hbq HWQ k1 hhd
              go_wp2_with fail
              refine (gAdd_ok wq p m q n L2 D HG2.out x y hxlt hylt hm2).mono ?_
              rintro e w6 ⟨rfl, hg6, hgr6⟩
              have HG6 : Hid (GraphIn w6 p m q n (L2 ++ [(x, y)]) D) := hg6
              have hd6 : w6.heap[bw]? = some (.cells #[.pointer (some ⟨p, 0, none⟩), .int .i64 n, vq, vr] 33 (0, 0)) := (hgr6.block _ hbm (blk_lt HX.out.2.2.2)).trans HX.out.2.2.2
              have k6 : w6.cell? ⟨bw, 0, none⟩ = some (.pointer (some ⟨p, 0, none⟩)) := by simp [World.cell?, hd6]
              have HD6 : Hid (w6.heap[bw]? = some (.cells #[.pointer (some ⟨p, 0, none⟩), .int .i64 n, vq, vr] 33 (0, 0)) ∧ Grew wq w6 (fun k => k = m)) := ⟨hd6, hgr6⟩
              clear hg6 hgr6 hd6 k0
              go_wp2_with fail
              refine (gNext_any w6 p m q n _ D HG6.out x hxlt).mono ?_
              rintro e w7 ⟨v7, x7, rfl, -, hb7⟩
              have HB7 : Hid (Below w6.heap.size w6 w7) := hb7
              have k7 : w7.cell? ⟨bw, 0, none⟩ = some (.pointer (some ⟨p, 0, none⟩)) := by rw [hb7.cell (World.block_lt_of_cell? w6 _ k6)]; exact k6
              clear hb7 k6
              go_wp2_with fail
              refine (gLast_any w7 p m q n _ D (HG6.out.below HB7.out) y hylt).mono ?_
              rintro e w8 ⟨v8, x8, rfl, -, hb8⟩
              have HB8 : Hid (Below w6.heap.size w6 w8) := HB7.out.trans (hb8.mono HB7.out.size)
              have k8 : w8.cell? ⟨bw, 0, none⟩ = some (.pointer (some ⟨p, 0, none⟩)) := by rw [hb8.cell (World.block_lt_of_cell? w7 _ k7)]; exact k7
              clear hb8 k7 HB7
              go_wp2_with fail
              refine (gCut_ok w8 p m q n _ D (HG6.out.below HB8.out) x y hxlt hylt (by simp)).mono ?_
              rintro e w9 ⟨rfl, L9, hL9, hg9, hgr9⟩
              have HG9 : Hid (GraphIn w9 p m q n L9 D) := hg9
              have HL9 : Hid (∀ z, z ∈ L9 ↔ z ∈ L) := by
                intro z
                rw [hL9 z]
                simp only [List.mem_append, List.mem_singleton]
                rw [HX.out.2.2.1 z]
                constructor
                · rintro ⟨h | h, h'⟩
                  · exact h
                  · exact absurd h h'
                · intro h
                  exact ⟨.inl h, fun e => hm (e ▸ h)⟩
              have hd9 : w9.heap[bw]? = some (.cells #[.pointer (some ⟨p, 0, none⟩), .int .i64 n, vq, vr] 33 (0, 0)) := by
                have h1 := (HB8.out.block _ (blk_lt HD6.out.1)).trans HD6.out.1
                exact (hgr9.block _ hbm (blk_lt h1)).trans h1
              have k9 : w9.cell? ⟨bw, 0, none⟩ = some (.pointer (some ⟨p, 0, none⟩)) := by simp [World.cell?, hd9]
              have HGR : Hid (Grew wq w9 (fun k => k = m)) := (HD6.out.2.trans (Grew.of_below HB8.out)).trans hgr9
              have HD9 : Hid (w9.heap[bw]? = some (.cells #[.pointer (some ⟨p, 0, none⟩), .int .i64 n, vq, vr] 33 (0, 0))) := hd9
              have hn9 : (x, y) ∉ L9 := fun h => hm ((HL9.out _).1 h)
              clear hL9 hg9 hgr9 hd9 k8
              go_wp2_with fail
              refine (gCut_none w9 p m q n L9 D HG9.out x y hxlt hylt hn9).mono ?_
              rintro e w10 ⟨rfl, hb10⟩
              have HFIN : Hid (DualIn w w10 bw p m q n L D bv wr.heap.size pv mv qv Lv Dv Dev vev vdv) := by
                have hgr : Grew wq w10 (fun k => k = m) := HGR.out.trans (Grew.of_below hb10)
                have h1 := (hb10.block _ (blk_lt HD9.out)).trans HD9.out
                refine ⟨⟨L9, HG9.out.below hb10, HL9.out⟩, ⟨_, _, h1⟩, HX.out.1.kept (fun k hk hl => hgr.block k (by omega) hl), HX.out.2.1.trans (hgr.below HX.out.2.1.size (fun k hk => by omega)), hmb, hmlo, hbm⟩
              clear k9
              go_wp2_with fail
              go_meet
              exact HFIN.out
          case rest =>
            have HQ : Hid (DualIn w wc bw p m q n L D bv wr.heap.size pv mv qv Lv Dv Dev vev vdv) := hcut
            clear hcut HWQ k1
            generalize wr.heap.size = bs0 at HQ
            go_wp2_with fail
            go_loopg [22] n (fun g s22 wx => ∃ b : Nat, b + g = n ∧ s22 = .int .i64 b ∧ Hid (DualIn w wx bw p m q n L D bv bs0 pv mv qv Lv Dv Dev vev vdv))
            case atStart => exact ⟨0, by omega, rfl, HQ⟩
            case round =>
              clear HQ
              obtain ⟨b, hbg, rfl, HQ⟩ := hrel
              have k1 := HQ.out.k1
              by_cases hbn : b < n
              · go_wp2_with fail
                clear k1
                go_loopg [23] n (fun g2 s23 wy => ∃ a : Nat, a + g2 = n ∧ s23 = .int .i64 a ∧ Hid (DualIn w wy bw p m q n L D bv bs0 pv mv qv Lv Dv Dev vev vdv))
                case atStart => exact ⟨0, by omega, rfl, HQ⟩
                case round =>
                  clear HQ
                  obtain ⟨a, hag, rfl, HQ⟩ := hrel
                  have k1 := HQ.out.k1
                  by_cases han : a < n
                  · obtain ⟨L2, hg2, hL2⟩ := HQ.out.graph
                    have HG2 : Hid (GraphIn _ p m q n L2 D) := hg2
                    have HL2 : Hid (∀ z, z ∈ L2 ↔ z ∈ L) := hL2
                    have k0 := HQ.out.k0
                    clear hg2 hL2
                    go_wp2_with fail
                    refine (webUnder_g _ bw p m q n L2 D k0 HG2.out a b han hbn).mono ?_
                    rintro e w5 ⟨r1, rfl, hr1, hb5⟩
                    have HR1 : Hid (r1 = true ↔ HeldB L2 D a b) := hr1
                    have HQ5 : Hid (DualIn w w5 bw p m q n L D bv bs0 pv mv qv Lv Dv Dev vev vdv) := HQ.out.below hb5
                    clear hr1 hb5 k0 k1 HG2
                    have hc1 : (a : Int) + 1 = ((a + 1 : Nat) : Int) := by omega
                    have hc2 : (b : Int) + 1 = ((b + 1 : Nat) : Int) := by omega
                    have HC1 : Hid ((a : Int) + 1 = ((a + 1 : Nat) : Int)) := hc1
                    have HC2 : Hid ((b : Int) + 1 = ((b + 1 : Nat) : Int)) := hc2
                    clear hc1 hc2
                    go_wp2_with fail
                    rw [HC1.out, HC2.out]
                    refine (webOver_any w5 bv _ pv mv qv (n + 1) Lv Dv Dev vev vdv HQ5.out.web (a + 1) (b + 1) (by omega) (by omega)).mono ?_
                    rintro e w6 ⟨r2, rfl, hr2, hb6⟩
                    have hrr : r2 = r1 := by
                      rw [Bool.eq_iff_iff, hr2, HR1.out, dual_held HTURN.out a b, heldB_congr HL2.out]
                    subst hrr
                    have HQ6 : Hid (DualIn w w6 bw p m q n L D bv bs0 pv mv qv Lv Dv Dev vev vdv) := HQ5.out.below hb6
                    clear hr2 hb6 HR1
                    cases r2
                    all_goals
                      go_wp2_with fail
                      go_roundg (n - (a + 1))
                      case measure => omega
                      case rel => exact ⟨a + 1, by omega, by go_num, HQ6⟩
                  · obtain ⟨L2, hg2, hL2⟩ := HQ.out.graph
                    have HG2 : Hid (GraphIn _ p m q n L2 D) := hg2
                    have HL2 : Hid (∀ z, z ∈ L2 ↔ z ∈ L) := hL2
                    have k0 := HQ.out.k0
                    clear hg2 hL2
                    go_wp2_with fail
                    refine (gNext_any _ p m q n L2 D HG2.out b hbn).mono ?_
                    rintro e w5 ⟨v5, x5, rfl, ha5, hb5⟩
                    have HA5 : Hid (LastAns n (Bwd L2 D (-1) b) (fun a c => HeldB L2 D a c) b v5 x5) := ha5
                    have HQ5 : Hid (DualIn w w5 bw p m q n L D bv bs0 pv mv qv Lv Dv Dev vev vdv) := HQ.out.below hb5
                    have k5 := HQ5.out.web.c0
                    clear ha5 hb5 k0 k1 HG2
                    have HC2 : Hid ((b : Int) + 1 = ((b + 1 : Nat) : Int)) := by show _ = _; omega
                    go_wp2_with fail
                    rw [HC2.out]
                    refine (gLast_any w5 pv mv qv (n + 1) Lv Dv HQ5.out.web.graph (b + 1) (by omega)).mono ?_
                    rintro e w6 ⟨v6, x6, rfl, ha6, hb6⟩
                    have HQ6 : Hid (DualIn w w6 bw p m q n L D bv bs0 pv mv qv Lv Dv Dev vev vdv) := HQ5.out.below hb6
                    have hans := dual_next HTURN.out HL2.out hbn HA5.out ha6
                    clear ha6 hb6 HA5 k5
                    rcases hans with ⟨rfl, rfl⟩ | ⟨rfl, rfl, rfl, hv1, hv2⟩
                    all_goals
                      go_wp2_with fail
                      go_roundg (n - (b + 1))
                      case measure => omega
                      case rel => exact ⟨b + 1, by omega, by go_num, HQ6⟩
              · go_wp2_with fail
                go_ret
                exact ⟨rfl, HQ.out.bel⟩

end Go.Proofs.Ytbddcodljmglfaa
