/- The document's run, of forms. -/
import Derived.Test.YtbddcodljmglfaaGreatDoorExecB
import Derived.Deep.RegionHeld3
import Derived.Deep.RegionWith
set_option linter.unusedSimpArgs false
set_option linter.unusedVariables false
namespace Go.Proofs.YtbddcodljmglfaaGreatDoor
open Go.RowKit

set_option maxRecDepth 100000 in
set_option maxHeartbeats 8000000 in
theorem drunF_B (w : World) (tb F base gL offL cpL gB ofB cpB : Nat) (T : List BA) (bl : List Nat) (vals : List Value) (A : List Ver) (bs : List BlockG) (U : List Ver) (argv : Value) (xs : List Int) (x0 : BA)
    (hT : TextF base w tb T bl (.slice (some ⟨gL, offL, none⟩) T.length cpL) (.slice (some ⟨gB, ofB, none⟩) bl.length cpB) vals) (hb0 : bl = blkIdx 0 T) (hF : F ≤ 2000) (hx : RdS w 1 argv xs.length (ints xs)) (hx64 : ∀ x ∈ xs, fits64 x) (hT0 : T[0]? = some x0) (hTl : T.length ≤ 1000) (hA : A = ((cuts 32 x0).drop 1).map (·, 0)) (hA4 : A.length ≤ 4)
    (hpl : ∀ x ∈ T, PlainF x) (hFT : FormT T bs) (hposB : 0 < bl.length) (hbl : ∀ b (hb : b < bl.length), bl[b] + (phisAt bs b).length ≤ 1000 ∧ LsF T bl U bs b (bl[b] + 1 + (phisAt bs b).length) (linesAt (bs.map renB) b) ∧ ∀ p ∈ phisAt bs b, rho p.sets ∈ U) (hbm : bl.length ≤ 1000) (hph0 : phisAt bs 0 = []) (hU : U.length ≤ 5000) (hAU : ∀ a ∈ A, a ∈ U) (hnp : ∀ x, T[bl.getD 0 0 + 1]? = some x → isPhi (hd (cuts 32 x)) = false) (hside : xs.length + 1 < (cuts 32 x0).length) :
    Calls Tryz.prog 41 #[.pointer (some ⟨tb, 0, none⟩), argv, .int .i64 (F : Int)] w fun e w' => e = .returned (resV (runF (bs.map renB) F (startG A xs) 0 (linesAt (bs.map renB) 0) [])) ∧ Below w.heap.size w w' := by
  have HT : Hid (∀ W, Below w.heap.size w W → TextF base W tb T bl (.slice (some ⟨gL, offL, none⟩) T.length cpL) (.slice (some ⟨gB, ofB, none⟩) bl.length cpB) vals) := fun W hb => hT.below hb
  have hTO : TextO w tb T (.slice (some ⟨gL, offL, none⟩) T.length cpL) (.slice (some ⟨gB, ofB, none⟩) bl.length cpB) := ⟨⟨base, vals, hb0 ▸ hT⟩, hpl⟩
  have HLD : Hid (∀ W (i : Nat) x (l : LineG), Below w.heap.size w W → T[i]? = some x → leadsS x = l.leads → Calls Tryz.prog 72 #[.pointer (some ⟨tb, 0, none⟩), .int .i64 (i : Int)] W fun e w' => (∃ ao cp, e = .returned (.slice ao l.leads.length cp) ∧ RdT w' 3 1 (.slice ao l.leads.length cp) l.leads.length (nums l.leads)) ∧ Below W.heap.size W w') := fun W i x l hb h1 h2 => (leadsO W tb T _ _ bs (hTO.below hb) hFT i x h1).mono (by
    rintro e w' ⟨⟨v, rfl, h3⟩, h4⟩
    rw [h2] at h3
    obtain ⟨ao, cp, rfl⟩ := h3.len
    exact ⟨⟨ao, cp, rfl, h3.rdT⟩, h4⟩)
  have HBL : Hid (∀ b (hb : b < bl.length), bl[b] + (phisAt bs b).length ≤ 1000 ∧ LsF T bl U bs b (bl[b] + 1 + (phisAt bs b).length) (linesAt (bs.map renB) b) ∧ ∀ p ∈ phisAt bs b, rho p.sets ∈ U) := hbl
  have HBO : Hid (∀ W (i b : Nat), Below w.heap.size w W → i < T.length → bCnt bl i = b + 1 → Calls Tryz.prog 77 #[.pointer (some ⟨tb, 0, none⟩), .int .i64 (i : Int)] W fun e w' => e = .returned (.int .i64 (b : Int)) ∧ w' = W) := fun W i b hb hi hbi => (blockO W tb T _ _ bs (hTO.below hb) hFT i hi).mono (by rintro e w' ⟨h1, h2⟩; rw [← hb0, hbi] at h1; refine ⟨?_, h2⟩; rw [h1]; congr 2; omega)
  have HPH : Hid (∀ W rb V nv vv rc (q n b : Nat), DRun w W rb V nv vv rc → V.length ≤ 900000 → b ≤ 1000 → PhisIn T (q + 1) (phisAt bs n) b → Calls Tryz.prog 75 #[.pointer (some ⟨tb, 0, none⟩), .pointer (some ⟨w.heap.size + 1, 0, none⟩), .int .i64 ((q : Int) + 1), .int .i64 (b : Int)] W fun e w' => e = .returned (.int .i64 ((q + 1 + (phisAt bs n).length : Nat) : Int)) ∧ ∃ nv' vv', DRun w w' rb (meetG V (phisAt (bs.map renB) n) b) nv' vv' rc) := fun W rb V nv vv rc q n b hD hV hb hP => by
    rw [phisAt_ren]
    exact phisO w W tb T _ _ rb V nv vv rc hTO hD hTl (q + 1) (phisAt bs n) b hP hb hV
  have HP0 : Hid (∀ W (q : Nat) (x : BA), Below w.heap.size w W → T[q + 1]? = some x → isPhi (hd (cuts 32 x)) = false → Calls Tryz.prog 75 #[.pointer (some ⟨tb, 0, none⟩), .pointer (some ⟨w.heap.size + 1, 0, none⟩), .int .i64 ((q : Int) + 1), .int .i64 (-1)] W fun e w' => e = .returned (.int .i64 ((q : Int) + 1)) ∧ w' = W) := fun W q x hb hx hp => phis_none W tb _ (q + 1) _ T _ _ (hTO.below hb) x hx hp hTl
  have HCB : Hid (∀ W b (hb : b < bl.length), Below w.heap.size w W → W.cell? ⟨tb, 1, none⟩ = some (.slice (some ⟨gB, ofB, none⟩) bl.length cpB) ∧ W.cell? ⟨gB, ofB + b, none⟩ = some (.int .i64 (bl[b] : Int))) := by
    intro W b hb hW
    refine ⟨(hT.below hW).box.cell rfl, ?_⟩
    obtain ⟨ao, cp, h1, -, h2⟩ := (hT.below hW).blocks.rdT.cell
    injection h1 with h1 _ _
    obtain ⟨g, off, h3, -, h4⟩ := h2 hposB
    rw [h3] at h1
    injection h1 with h1
    injection h1 with h1 h5 _
    subst h1 h5
    exact h4 b _ (by simp [nums, hb])
  obtain ⟨aoX, cpX, rfl, hxl⟩ := hx.cells
  have HTL : Hid (T.length ≤ 1000) := hTl
  obtain ⟨vw, ci, hwi, hcap⟩ := hT.line hT0
  obtain ⟨ao0, cp0, rfl, hc0, hcl0⟩ := hwi.row.cell
  obtain ⟨g0, of0, rfl, hg0, hx0⟩ := hcl0 hwi.pos
  have hgL : gL < w.heap.size := World.block_lt_of_cell? w _ ci
  have htl : tb < w.heap.size := hT.box.lt
  obtain ⟨NT, hNT⟩ : ∃ NT, NT = T.length := ⟨_, rfl⟩
  have HNT : Hid (NT = T.length) := hNT
  rw [← hNT] at HT hTl
  obtain ⟨NB, hNB⟩ : ∃ NB, NB = bl.length := ⟨_, rfl⟩
  have HNB : Hid (NB = bl.length) := hNB
  rw [← hNB] at HT hposB hbm
  clear hNB
  have HFV : Hid (FitV (startG A xs)) := FitV.start A xs hx64
  clear hx64
  have hNT0 : 0 < NT := by rw [hNT]; exact (List.getElem?_eq_some_iff.1 hT0).1
  obtain ⟨NW, hNW⟩ : ∃ NW, NW = (cuts 32 x0).length := ⟨_, rfl⟩
  have HNW : Hid (NW = (cuts 32 x0).length) := hNW
  have hAl : A.length = NW - 1 := by rw [hA, hNW]; simp
  rw [← hNW] at ci hside
  obtain ⟨M, hM⟩ : ∃ M, M = xs.length := ⟨_, rfl⟩
  have HM : Hid (M = xs.length) := hM
  rw [← hM] at hxl hside ⊢
  have hpos := hwi.pos
  rw [← hNW] at hpos
  have HX0 : Hid (∀ (j : Nat) y, (cuts 32 x0)[j]? = some y → w.cell? ⟨g0, of0 + j, none⟩ = some (.string y)) := fun j y hy => hx0 j _ (by simp [strs, hy])
  have HCI : Hid (w.cell? ⟨gL, offL, none⟩ = some (.slice (some ⟨g0, of0, none⟩) NW cp0)) := by rw [Nat.add_zero] at ci; exact ci
  have HT0 : Hid (w.cell? ⟨tb, 0, none⟩ = some (.slice (some ⟨gL, offL, none⟩) NT cpL)) := by rw [hNT]; exact hT.box.cell rfl
  have HAW : Hid (∀ (j : Nat) a, A[j]? = some a → ∃ y, (cuts 32 x0)[j + 1]? = some y ∧ a = (y, 0)) := by
    intro j a hj
    rw [hA, List.getElem?_map, List.getElem?_drop, Option.map_eq_some_iff] at hj
    obtain ⟨y, hy, rfl⟩ := hj
    exact ⟨y, by rw [Nat.add_comm]; exact hy, rfl⟩
  have HNP : Hid (∀ x, T[bl.getD 0 0 + 1]? = some x → isPhi (hd (cuts 32 x)) = false) := hnp
  have HPZ : Hid (phisAt bs 0 = []) := hph0
  have HKS : Hid (KeysIn (startG A xs) U) := KeysIn.start hAU xs
  clear hT hTO hx hwi hcl0 hx0 hM hNT hNW ci hA hT0 hpl hbl hFT hb0 hnp hph0 hAU
  go_enter Tryz.func41, Tryz.ntmps41
  go_wp2_with fail
  go_loopg [8] 6 (fun g v8 wr => ∃ (i : Nat) (nv vv : Value), 1 ≤ i ∧ i + g = 7 ∧ i ≤ 5 ∧ i ≤ M + 1 ∧ v8 = .int .i64 i ∧ Hid (VarsIn (w.heap.size + 1) wr (w.heap.size + 1) (((A.zip xs).take (i - 1)).foldl (fun V x => putV V x.1 x.2) []) nv vv) ∧ Hid (Below w.heap.size w wr) ∧ Hid (BoxIn wr w.heap.size 44 [.bool false, .int .i64 0, .string ⟨#[]⟩]))
  case atStart => exact ⟨1, _, _, by omega, by omega, by omega, by omega, rfl, ⟨heap_alloc_new2, OwnS.nil _ _ _ _, OwnS.nil _ _ _ _, by simp, Nat.le_refl _, by simp⟩, ((Below.refl _ _).alloc (Nat.le_refl _) _).alloc (by simp) _, (BoxIn.new w 44 [.bool false, .int .i64 0, .string ⟨#[]⟩]).below ((Below.refl _ _).alloc (Nat.le_refl _) _)⟩
  case round =>
    obtain ⟨i, nv, vv, hi1, hig, hi5, hiM0, rfl, hV, hbel, hres⟩ := hrel
    obtain ⟨k, rfl⟩ : ∃ k, i = k + 1 := ⟨i - 1, by omega⟩
    rw [Nat.add_sub_cancel] at hV
    have hsz := hbel.out.size
    have t0 : wr.cell? ⟨tb, 0, none⟩ = some (.slice (some ⟨gL, offL, none⟩) NT cpL) := (hbel.out.cell (p := ⟨tb, 0, none⟩) htl).trans HT0.out
    have cl : wr.cell? ⟨gL, offL, none⟩ = some (.slice (some ⟨g0, of0, none⟩) NW cp0) := (hbel.out.cell (p := ⟨gL, offL, none⟩) hgL).trans HCI.out
    have hszr : w.heap.size + 1 ≤ wr.heap.size := hres.out.lt
    by_cases hin : k + 1 < NW ∧ k < M
    · obtain ⟨hiW, hiM⟩ := hin
      obtain ⟨a, ha⟩ : ∃ a, A[k]? = some a := ⟨_, List.getElem?_eq_getElem (by omega)⟩
      obtain ⟨y, hy, rfl⟩ := HAW.out _ _ ha
      obtain ⟨z, hz⟩ : ∃ z, xs[k]? = some z := ⟨_, List.getElem?_eq_getElem (by have := HM.out; omega)⟩
      obtain ⟨gX, ofX, haX, hgX, hxc⟩ := hxl (by omega)
      subst haX
      have cy : wr.cell? ⟨g0, of0 + (k + 1), none⟩ = some (.string y) := (hbel.out.cell (p := ⟨g0, of0 + (k + 1), none⟩) hg0).trans (HX0.out (k + 1) y hy)
      have cz : wr.cell? ⟨gX, ofX + k, none⟩ = some (.int .i64 z) := (hbel.out.cell (p := ⟨gX, ofX + k, none⟩) hgX).trans (hxc k _ (by simp [ints, hz]))
      have hstep : Hid (((A.zip xs).take (k + 1)).foldl (fun V x => putV V x.1 x.2) [] = putV (((A.zip xs).take k).foldl (fun V x => putV V x.1 x.2) []) (y, 0) z) := by
        show _ = _
        have hzip : (A.zip xs)[k]? = some ((y, 0), z) := by
          rw [List.getElem?_zip_eq_some]
          exact ⟨ha, hz⟩
        rw [List.take_add_one, hzip, List.foldl_append]
        rfl
      have hlen : (((A.zip xs).take k).foldl (fun V x => putV V x.1 x.2) []).length ≤ 999999 := by
        have := foldV_len ((A.zip xs).take k) []
        have h2 : ((A.zip xs).take k).length ≤ 4 := by simp; omega
        simp at this
        simp at h2
        omega
      have hnd : ((((A.zip xs).take k).foldl (fun V x => putV V x.1 x.2) []).map (·.1)).Nodup := foldV_nodup _ _ (by simp)
      generalize ((A.zip xs).take k).foldl (fun V x => putV V x.1 x.2) [] = V at *
      have HPU : Hid (∀ W, Below wr.heap.size wr W → Calls Tryz.prog 74 #[.pointer (some ⟨w.heap.size + 1, 0, none⟩), .string y, .int .i64 z] W fun e w' => e = .returned (.tuple #[]) ∧ (∃ nv' vv', VarsIn (w.heap.size + 1) w' (w.heap.size + 1) (putV V (y, 0) z) nv' vv') ∧ Below (w.heap.size + 1) wr w') := fun W hb => (put_any W (w.heap.size + 1) (w.heap.size + 1) V nv vv y z (hV.out.below hb) hnd (Nat.le_trans hszr hb.size) hlen).mono (by
        rintro e w' ⟨h1, h2, h3, -⟩
        exact ⟨h1, h2, (hb.mono hszr).trans h3⟩)
      have hg0' : g0 < w.heap.size + 1 := by omega
      have hgX' : gX < w.heap.size + 1 := by omega
      have HS : Hid (∀ w', Below (w.heap.size + 1) wr w' → w'.cell? ⟨tb, 0, none⟩ = some (.slice (some ⟨gL, offL, none⟩) NT cpL) ∧ w'.cell? ⟨gL, offL, none⟩ = some (.slice (some ⟨g0, of0, none⟩) NW cp0) ∧ w'.cell? ⟨g0, of0 + (k + 1), none⟩ = some (.string y) ∧ w'.cell? ⟨gX, ofX + k, none⟩ = some (.int .i64 z)) := fun w' hb => ⟨(hb.cell (p := ⟨tb, 0, none⟩) (by show tb < _; omega)).trans t0, (hb.cell (p := ⟨gL, offL, none⟩) (by show gL < _; omega)).trans cl, (hb.cell (p := ⟨g0, of0 + (k + 1), none⟩) hg0').trans cy, (hb.cell (p := ⟨gX, ofX + k, none⟩) hgX').trans cz⟩
      have hiW' : (k : Int) + 1 < (NW : Int) := by omega
      have hiM' : (k : Int) + 1 ≤ (M : Int) := by omega
      have hiM2 : (k : Int) < (M : Int) := by omega
      have hi0 : (0 : Int) ≤ (k : Int) := by omega
      have hi2 : (0 : Int) ≤ (k : Int) + 1 := by omega
      have hwr1 : IntKind.i64.wrap ((k : Int) + 1) = (k : Int) + 1 := (IntWalk.i64_left _).trans (IntWalk.wrap64_in _ (by omega))
      have htn : ((k : Int) + 1).toNat = k + 1 := by omega
      have hsub : (k : Int) + 1 - 1 = (k : Int) := by omega
      have hwr : IntKind.i64.wrap (k : Int) = (k : Int) := (IntWalk.i64_left _).trans (IntWalk.wrap64_in _ (by omega))
      clear ha hy hz hxc hnd hV
      go_wp2_with fail
      go_region_held3 (fun w' => w'.cell? ⟨tb, 0, none⟩ = some (.slice (some ⟨gL, offL, none⟩) NT cpL) ∧ w'.cell? ⟨gL, offL, none⟩ = some (.slice (some ⟨g0, of0, none⟩) NW cp0) ∧ w'.cell? ⟨g0, of0 + (k + 1), none⟩ = some (.string y) ∧ w'.cell? ⟨gX, ofX + k, none⟩ = some (.int .i64 z))
        (first | exact HS.out _ HB9.out | exact HS.out _ (Below.refl _ _).drew | go_keep)
        (first | (go_at_call 74; refine (HPU.out _ ?_).mono ?_; (repeat (first | assumption | exact Below.refl _ _ | apply Below.drew)); rintro e w9 ⟨rfl, ⟨nv9, vv9, hv9⟩, hb9⟩; have HV9 : Hid (VarsIn _ w9 _ _ _ _) := hv9; have HB9 : Hid (Below (w.heap.size + 1) wr w9) := hb9; clear hv9 hb9))
      go_wp2_with fail
      go_roundg (5 - k)
      case measure => omega
      case rel => exact ⟨k + 1 + 1, nv9, vv9, by omega, by omega, by omega, by omega, by go_num, (by show VarsIn _ _ _ _ _ _; rw [Nat.add_sub_cancel, hstep.out]; exact HV9.out), hbel.out.trans (HB9.out.mono (by omega)), hres.out.of_block (HB9.out.block _ (by omega))⟩
    · have hall : Hid (startG A xs = ((A.zip xs).take k).foldl (fun V x => putV V x.1 x.2) []) := by
        show _ = _
        have hlen : (A.zip xs).length ≤ k := by
          clear hxl
          rw [List.length_zip, ← HM.out, hAl]
          rcases Nat.lt_or_ge (k + 1) NW with h | h
          · exact Nat.le_trans (Nat.min_le_right _ _) (by omega)
          · exact Nat.le_trans (Nat.min_le_left _ _) (by omega)
        rw [List.take_of_length_le hlen]
        rfl
      rw [← hall.out] at hV
      have HND : Hid (((startG A xs).map (·.1)).Nodup) := foldV_nodup _ _ (by simp)
      have HVL : Hid ((startG A xs).length ≤ 4) := by
        show _ ≤ _
        have h1 := foldV_len (A.zip xs) []
        have h2 : (A.zip xs).length ≤ 4 := by rw [List.length_zip]; exact Nat.le_trans (Nat.min_le_left _ _) hA4
        unfold startG
        simp at h1 h2 ⊢
        omega
      have hcA : (k : Int) + 1 < (NW : Int) := by omega
      have hcB : ¬ ((k : Int) + 1 ≤ (M : Int)) := by omega
      obtain ⟨q0, hq0⟩ : ∃ q0, q0 = bl[0]'(by rw [← HNB.out]; exact hposB) := ⟨_, rfl⟩
      have HC0 : Hid (∀ W, Below w.heap.size w W → W.cell? ⟨tb, 1, none⟩ = some (.slice (some ⟨gB, ofB, none⟩) NB cpB) ∧ W.cell? ⟨gB, ofB, none⟩ = some (.int .i64 (q0 : Int))) := fun W hW => ⟨by rw [HNB.out]; exact (HCB.out W 0 (by rw [← HNB.out]; exact hposB) hW).1, by rw [hq0]; exact (HCB.out W 0 (by rw [← HNB.out]; exact hposB) hW).2⟩
      have hL0 : Hid (q0 ≤ 1000 ∧ LsF T bl U bs 0 (q0 + 1) (linesAt (bs.map renB) 0)) := by
        have h1 := HBL.out 0 (by rw [← HNB.out]; exact hposB)
        rw [HPZ.out] at h1
        rw [hq0]
        exact ⟨by simpa using h1.1, by simpa using h1.2.1⟩
      have hX0 : Hid (∃ x, T[q0 + 1]? = some x ∧ isPhi (hd (cuts 32 x)) = false) := by
        obtain ⟨l, r, hl⟩ := hL0.out.2.some
        obtain ⟨x, hx, -⟩ := hL0.out.2.text 0 l (by rw [hl]; rfl)
        rw [Nat.add_zero] at hx
        have e : bl.getD 0 0 = q0 := by
          have h0 : 0 < bl.length := by rw [← HNB.out]; exact hposB
          rw [hq0, List.getD_eq_getElem?_getD, List.getElem?_eq_getElem h0]
          rfl
        refine ⟨x, hx, HNP.out x ?_⟩
        rw [e]
        exact hx
      clear hall hq0
      obtain ⟨b1, b0⟩ := HC0.out (wr.alloc (.cells #[.bool false, .int .i64 0, .string ⟨#[]⟩] 44)) (hbel.out.alloc (by omega) _)
      have hq1 := hL0.out.1
      have hpos' : (0 : Int) < (NB : Int) := by omega
      obtain ⟨xq, hxq, hxp⟩ := hX0.out
      have HQ0 : Hid (∀ W, Below w.heap.size w W → Calls Tryz.prog 75 #[.pointer (some ⟨tb, 0, none⟩), .pointer (some ⟨w.heap.size + 1, 0, none⟩), .int .i64 ((q0 : Int) + 1), .int .i64 (-1)] W fun e w' => e = .returned (.int .i64 ((q0 : Int) + 1)) ∧ w' = W) := fun W hb => HP0.out W q0 xq hb hxq hxp
      clear hxq hxp hX0 HP0
      go_wp2_with (first
          | (go_at_call 75; refine Calls.mono (HQ0.out _ (hbel.out.alloc (by omega) _)) ?_; rintro e w4 ⟨rfl, hw4⟩; rw [hw4]; clear hw4))
      all_goals
        have HR0 : Hid (DRun w (wr.alloc (.cells #[.bool false, .int .i64 0, .string ⟨#[]⟩] 44)) wr.heap.size (startG A xs) nv vv [.bool false, .int .i64 0, .string (traceB [])]) := ⟨hV.out.below ((Below.refl _ _).alloc (Nat.le_refl _) _), hres.out.below ((Below.refl _ _).alloc (Nat.le_refl _) _), BoxIn.new _ _ _, hszr, hbel.out.alloc (by omega) _, HND.out, HFV.out⟩
        obtain ⟨rb, hrb⟩ : ∃ rb, rb = wr.heap.size := ⟨_, rfl⟩
        obtain ⟨R, hR⟩ : ∃ R, R = runF (bs.map renB) F (startG A xs) 0 (linesAt (bs.map renB) 0) [] := ⟨_, rfl⟩
        have HRR : Hid (R = runF (bs.map renB) F (startG A xs) 0 (linesAt (bs.map renB) 0) []) := hR
        rw [← hrb] at HR0 ⊢
        clear hR hrb hV HND HFV hres hbel hcA hxl HX0 HCI HT0 HAW HQ0
        go_loopg [2, 10] F (fun g v2 v10 wr => ∃ (f i b : Nat) (ls : List LineG) (V : List (Ver × Int)) (tr : List Int) (nv vv : Value), g = f ∧ v2 = .int .i64 f ∧ v10 = .int .i64 i ∧ Hid (KeysIn V U) ∧ i ≤ 2000 ∧ b ≤ 1000 ∧ tr.length + f ≤ F ∧ Hid (∀ n ∈ tr, fits64 n) ∧ Hid (DRun w wr rb V nv vv [.bool false, .int .i64 0, .string (traceB tr)]) ∧ Hid (LsF T bl U bs b i ls) ∧ Hid (R = runF (bs.map renB) f V b ls tr))
        case atStart => exact ⟨F, q0 + 1, 0, linesAt (bs.map renB) 0, startG A xs, [], nv, vv, rfl, rfl, rfl, HKS, by omega, by omega, by simp, by show ∀ n ∈ _, _; simp, HR0, hL0.out.2, HRR⟩
        case round =>
          clear HR0 hL0 HVL b0 b1
          obtain ⟨f, i, b, ls, V, tr, nv, vv, hgf, rfl, rfl, hVf, hi2, hb1k, htl2, htf, hD, hls, hrun⟩ := hrel
          have hVlen : V.length ≤ 5000 := Nat.le_trans (hVf.out.len hD.out.nodup) hU
          obtain ⟨l, r, rfl⟩ := hls.out.some
          have hszr := hD.out.hi
          have hrlo := hD.out.lo
          by_cases hf0 : f = 0
          · subst hf0
            have hend : Hid (R = ⟨false, 0, tr⟩) := by show _ = _; rw [hrun.out]; rfl
            go_wp2_with (first
              | (refine wpList_load_box aggRes2 rfl _ rfl _ rfl _ rfl hD.out.r ?_)
              | (refine wpList_store_box aggRes2 rfl _ _ rfl _ rfl _ [.bool false, .int .i64 0, .string (traceB tr)] rfl hD.out.res rfl rfl (one_res _ _ _) ?_; intro w8 hb8 hg8 hs8))
            refine bodyPost_ret (results_box1 aggRes2 Tryz.results41 rfl rfl hb8) rfl ?_
            refine ⟨?_, hD.out.bel.trans (hg8.below (by omega) (fun q hq => by omega))⟩
            rw [← HRR.out, hend.out]
            rfl
          · obtain ⟨f1, rfl⟩ : ∃ f1, f = f1 + 1 := ⟨f - 1, by omega⟩
            obtain ⟨x, hx, hW, hlx, hok, hbi⟩ := hls.out.text 0 l rfl
            rw [Nat.add_zero] at hx hbi
            have HBI : Hid (bCnt bl i = b + 1 ∧ i < T.length) := ⟨hbi, (List.getElem?_eq_some_iff.1 hx).1⟩
            clear hbi
            have hiT : i < NT := by rw [HNT.out]; exact (List.getElem?_eq_some_iff.1 hx).1
            have hbel := hD.out.bel
            obtain ⟨vw, ci0, hwi, -⟩ := (HT.out w (Below.refl _ _)).line hx
            obtain ⟨aoW, cpW, rfl, hcW, hclW⟩ := hwi.row.cell
            obtain ⟨gW, oW, rfl, hgW, hxW⟩ := hclW hwi.pos
            have ci := (hbel.cell (p := ⟨gL, offL + i, none⟩) hgL).trans ci0
            have t0 : wr.cell? ⟨tb, 0, none⟩ = some (.slice (some ⟨gL, offL, none⟩) NT cpL) := (HT.out wr hbel).box.cell rfl
            have HLD1 : Hid (Calls Tryz.prog 72 #[.pointer (some ⟨tb, 0, none⟩), .int .i64 (i : Int)] wr fun e w' => (∃ ao cp, e = .returned (.slice ao l.leads.length cp) ∧ RdT w' 3 1 (.slice ao l.leads.length cp) l.leads.length (nums l.leads)) ∧ Below wr.heap.size wr w') := HLD.out wr i x l hbel hx hlx
            have HCT : Hid (∀ W, Below w.heap.size w W → ∀ (j : Nat) y, (cuts 32 x)[j]? = some y → W.cell? ⟨gW, oW + j, none⟩ = some (.string y)) := fun W hb j y hy => (hb.cell (p := ⟨gW, oW + j, none⟩) hgW).trans (hxW j _ (by simp [strs, hy]))
            have HWI : Hid (∀ W, Below w.heap.size w W → WordsIn W (.slice (some ⟨gW, oW, none⟩) (cuts 32 x).length cpW) (hd (cuts 32 x)) (cuts 32 x)) := fun W hb => hwi.below hb
            have hw10 := hok.word
            have hi0 : (0 : Int) ≤ (i : Int) := by omega
            have hi1 : (i : Int) < (NT : Int) := by omega
            have hfp : (0 : Int) < (f1 : Int) + 1 := by omega
            have hf1 : (f1 : Int) + 1 - 1 = (f1 : Int) := by omega
            have hsz : (traceB tr).size ≤ 44000 := by have := traceB_size tr htf.out; omega
            clear hxW hclW hlx hx ci0 hwi
            generalize cuts 32 x = ws at *
            rcases (by omega : l.word = 6 ∨ l.word = 7 ∨ l.word = 8 ∨ l.word = 9 ∨ l.word < 6) with hw | hw | hw | hw | hw
            · obtain ⟨y0, a, rfl, htk, qe, qo⟩ := hW.out hw
              obtain ⟨Y, hY⟩ : ∃ Y, Y = getV V (a, 0) := ⟨_, rfl⟩
              have hYf : Hid (fits64 Y) := by show fits64 Y; rw [hY]; exact hD.out.fits.get _
              have hnx : Hid (R = runF (bs.map renB) f1 V b r (tr ++ [Y])) := by
                show _ = _
                rw [hrun.out]
                conv => lhs; unfold runF
                rw [if_pos hw, show takenG V l = (Y, 0) by unfold takenG; rw [htk, hY]]
              have hnl : Hid (LsF T bl U bs b (i + 1) r) := hls.out.next (by rw [hw]; rfl)
              have HGE : Hid (∀ W, (∃ rc, DRun w W rb V nv vv rc) → Calls Tryz.prog 76 #[.pointer (some ⟨w.heap.size + 1, 0, none⟩), .string a] W fun e w' => e = .returned (.int .i64 Y) ∧ w' = W) := fun W ⟨rc, h⟩ => by rw [hY]; exact h.get a
              have HDE : Hid (∀ W, Calls Tryz.prog 57 #[.int .i64 Y] W fun e w' => e = .returned (.string (ofD (Lib.itoa Y))) ∧ Below W.heap.size W w') := fun W => decimal_any W Y hYf.out
              have c0 := HCT.out wr hbel 0 _ rfl
              rw [Nat.add_zero] at c0
              have hds := itoa_size hYf.out
              have htf2 : Hid (∀ n ∈ tr ++ [Y], fits64 n) := by
                intro n hn
                rcases List.mem_append.1 hn with h | h
                · exact htf.out n h
                · rw [List.mem_singleton] at h; subst h; exact hYf.out
              have hdl : Hid ((tr ++ [Y]).length = tr.length + 1) := by show _ = _; simp
              by_cases htr : tr = []
              · have hem : (ByteArray.toList (traceB tr)).isEmpty = true := by rw [baEmpty, decide_eq_true_iff, traceB_empty]; exact htr
                have HTN : Hid (traceB (tr ++ [Y]) = traceB tr ++ ofD (Lib.itoa Y)) := by
                  show _ = _
                  subst htr
                  rw [List.nil_append, traceB_first]
                  apply ba_ext
                  simp [traceB, ByteArray.toList_eq, Lib.join]
                generalize traceB tr = S at *
                generalize ofD (Lib.itoa Y) = ds at *
                clear hY hW hrun hls htk hok hw10 hw hbel
                go_wp2_with (first
                  | (go_at_call 72; refine HLD1.out.mono ?_; rintro e w5 ⟨⟨ao5, cp5, rfl, -⟩, hb5⟩; have HD5 : Hid (DRun w w5 rb V nv vv [.bool false, .int .i64 0, .string S]) := hD.out.below hb5; have r2 := HD5.out.r.cell (k := 2) rfl; have fr2 := HD5.out.r.frozen 2; have c0 := HCT.out w5 HD5.out.bel 0 _ rfl; rw [Nat.add_zero] at c0; have c1 := HCT.out w5 HD5.out.bel 1 _ rfl; clear hb5))
                go_region_with (first
                  | (go_at_call 76; refine (HGE.out _ ?_).mono ?_; exact ⟨_, HD5.out.below (Below.refl _ _).drew⟩; rintro e w6 ⟨rfl, rfl⟩)
                  | (go_at_call 57; refine (HDE.out _).mono ?_; rintro e w7 ⟨rfl, hb7⟩; have HD7 : Hid (DRun w w7 rb V nv vv [.bool false, .int .i64 0, .string S]) := HD5.out.below ((Below.refl _ _).drew.trans hb7); have r27 := HD7.out.r.cell (k := 2) rfl; have fr7 := HD7.out.r.frozen 2; clear hb7))
                all_goals go_wp2_with fail
                all_goals go_roundg f1
                all_goals (first | omega | exact ⟨f1, i + 1, b, r, V, tr ++ [Y], nv, vv, rfl, rfl, by go_num, hVf, by omega, hb1k, by rw [hdl.out]; omega, htf2, (by show DRun _ _ _ _ _ _ _; rw [HTN.out]; exact HD7.out.set 2 _), hnl, hnx⟩)
              · have hem : (ByteArray.toList (traceB tr)).isEmpty = false := by rw [baEmpty, decide_eq_false_iff_not, traceB_empty]; exact htr
                have HTN : Hid (traceB (tr ++ [Y]) = traceB tr ++ (⟨#[32]⟩ : BA) ++ ofD (Lib.itoa Y)) := traceB_more tr Y htr
                generalize traceB tr = S at *
                generalize ofD (Lib.itoa Y) = ds at *
                have hs2 : (S ++ (⟨#[32]⟩ : BA)).size ≤ 44001 := by rw [ByteArray.size_append]; show _ + 1 ≤ _; omega
                clear hY hW hrun hls htk hok hw10 hw hbel
                go_wp2_with (first
                  | (go_at_call 72; refine HLD1.out.mono ?_; rintro e w5 ⟨⟨ao5, cp5, rfl, -⟩, hb5⟩; have HD5 : Hid (DRun w w5 rb V nv vv [.bool false, .int .i64 0, .string S]) := hD.out.below hb5; have r2 := HD5.out.r.cell (k := 2) rfl; have fr2 := HD5.out.r.frozen 2; have c0 := HCT.out w5 HD5.out.bel 0 _ rfl; rw [Nat.add_zero] at c0; have c1 := HCT.out w5 HD5.out.bel 1 _ rfl; clear hb5))
                have HD6 : Hid (DRun w (w5.setCell ⟨rb, 2, none⟩ (.string (S ++ (⟨#[32]⟩ : BA)))) rb V nv vv [.bool false, .int .i64 0, .string (S ++ (⟨#[32]⟩ : BA))]) := HD5.out.set 2 _
                have r26 := HD6.out.r.cell (k := 2) rfl
                have fr6 := HD6.out.r.frozen 2
                have c16 := HCT.out _ HD6.out.bel 1 _ rfl
                clear r2 fr2 c0 c1
                obtain ⟨W6, hW6⟩ : ∃ W6, W6 = w5.setCell ⟨rb, 2, none⟩ (.string (S ++ (⟨#[32]⟩ : BA))) := ⟨_, rfl⟩
                rw [← hW6] at HD6 r26 fr6 c16 ⊢
                generalize S ++ (⟨#[32]⟩ : BA) = S2 at *
                clear hW6 HD5
                go_region_with (first
                  | (go_at_call 76; refine (HGE.out _ ?_).mono ?_; exact ⟨_, HD6.out.below (Below.refl _ _).drew⟩; rintro e w6 ⟨rfl, rfl⟩)
                  | (go_at_call 57; refine (HDE.out _).mono ?_; rintro e w7 ⟨rfl, hb7⟩; have HD7 : Hid (DRun w w7 rb V nv vv [.bool false, .int .i64 0, .string S2]) := HD6.out.below ((Below.refl _ _).drew.trans hb7); have r27 := HD7.out.r.cell (k := 2) rfl; have fr7 := HD7.out.r.frozen 2; clear hb7))
                all_goals go_wp2_with fail
                all_goals go_roundg f1
                all_goals (first | omega | exact ⟨f1, i + 1, b, r, V, tr ++ [Y], nv, vv, rfl, rfl, by go_num, hVf, by omega, hb1k, by rw [hdl.out]; omega, htf2, (by show DRun _ _ _ _ _ _ _; rw [HTN.out]; exact HD7.out.set 2 _), hnl, hnx⟩)
            · obtain ⟨y0, a, n, rfl, hle, hnext, qe, qo, qg, qi⟩ := hW.goes hw
              have hnN : n < bl.length := (hls.out.leads l (by simp) n (by rw [hle]; simp)).1
              have HPN : Hid (PhisIn T (bl.getD n 0 + 1) (phisAt bs n) b) := (hls.out.leads l (by simp) n (by rw [hle]; simp)).2
              rw [hle] at HLD1
              have hnx : Hid (R = runF (bs.map renB) f1 (meetG V (phisAt (bs.map renB) n) b) n (linesAt (bs.map renB) n) tr) := by
                show _ = _
                rw [hrun.out]
                conv => lhs; unfold runF
                rw [if_neg (by omega), if_pos (.inl hw), hnext]
              obtain ⟨q, hq⟩ : ∃ q, q = bl[n] := ⟨_, rfl⟩
              have hPn : Hid (PhisIn T (q + 1) (phisAt bs n) b) := by
                have h1 := HPN.out
                rw [List.getD_eq_getElem?_getD, List.getElem?_eq_getElem hnN, Option.getD_some, ← hq] at h1
                exact h1
              have hL1 : Hid (LsF T bl U bs n (q + 1 + (phisAt bs n).length) (linesAt (bs.map renB) n)) := by rw [hq]; exact (HBL.out n hnN).2.1
              have hUS : Hid (∀ p ∈ phisAt bs n, rho p.sets ∈ U) := (HBL.out n hnN).2.2
              have hq1 : q + (phisAt bs n).length ≤ 1000 := by rw [hq]; exact (HBL.out n hnN).1
              have hKM : Hid (KeysIn (meetG V (phisAt (bs.map renB) n) b) U) := by rw [phisAt_ren]; exact hVf.out.meet hUS.out b
              have HPQ : Hid (∀ W rc, DRun w W rb V nv vv rc → Calls Tryz.prog 75 #[.pointer (some ⟨tb, 0, none⟩), .pointer (some ⟨w.heap.size + 1, 0, none⟩), .int .i64 ((q : Int) + 1), .int .i64 (b : Int)] W fun e w' => e = .returned (.int .i64 ((q + 1 + (phisAt bs n).length : Nat) : Int)) ∧ ∃ nv' vv', DRun w w' rb (meetG V (phisAt (bs.map renB) n) b) nv' vv' rc) := fun W rc h => HPH.out W rb V nv vv rc q n b h (by omega) hb1k hPn.out
              have HBQ : Hid (∀ W, Below w.heap.size w W → Calls Tryz.prog 77 #[.pointer (some ⟨tb, 0, none⟩), .int .i64 (i : Int)] W fun e w' => e = .returned (.int .i64 (b : Int)) ∧ w' = W) := fun W hb => HBO.out W i b hb HBI.out.2 HBI.out.1
              have hn1k : n ≤ 1000 := by have := HNB.out; omega
              have HC1 : Hid (∀ W, Below w.heap.size w W → W.cell? ⟨tb, 1, none⟩ = some (.slice (some ⟨gB, ofB, none⟩) NB cpB) ∧ W.cell? ⟨gB, ofB + n, none⟩ = some (.int .i64 (q : Int))) := fun W hb => ⟨by rw [HNB.out]; exact (HCB.out W n hnN hb).1, by rw [hq]; exact (HCB.out W n hnN hb).2⟩
              have hn1 : (n : Int) < (NB : Int) := by have := HNB.out; omega
              have hn0 : (0 : Int) ≤ (n : Int) := by omega
              have c0 := HCT.out wr hbel 0 _ rfl
              rw [Nat.add_zero] at c0
              generalize meetG V (phisAt (bs.map renB) n) b = V9 at *
              generalize (phisAt bs n).length = P9 at *
              clear hW hrun hls hok hw10 hw hbel hq hnext hle HPN hUS hPn
              go_wp2_with (first
                | (go_at_call 72; refine HLD1.out.mono ?_; rintro e w5 ⟨⟨ao5, cp5, rfl, hr5⟩, hb5⟩; have HD5 : Hid (DRun w w5 rb V nv vv [.bool false, .int .i64 0, .string (traceB tr)]) := hD.out.below hb5; have c0 := HCT.out w5 HD5.out.bel 0 _ rfl; rw [Nat.add_zero] at c0; obtain ⟨g5, o5, hao5, hc5⟩ := rdT_cells hr5 (by simp); subst hao5; have d0 := hc5 0 n rfl; rw [Nat.add_zero] at d0; obtain ⟨k1, k2⟩ := HC1.out w5 HD5.out.bel; clear hb5 hc5 hr5)
                | (go_at_call 77; refine Calls.mono (HBQ.out _ HD5.out.bel) ?_; rintro e w6 ⟨rfl, hw6⟩; rw [hw6]; clear hw6)
                | (go_at_call 75; refine Calls.mono (HPQ.out _ _ HD5.out) ?_; rintro e w7 ⟨rfl, nv7, vv7, hd7⟩; have HD7 : Hid (DRun w w7 rb V9 nv7 vv7 [.bool false, .int .i64 0, .string (traceB tr)]) := hd7; clear hd7))
              go_roundg f1
              case measure => omega
              case rel => exact ⟨f1, q + 1 + P9, n, linesAt (bs.map renB) n, V9, tr, nv7, vv7, rfl, rfl, by go_num, hKM, by omega, hn1k, by omega, htf, HD7, hL1, hnx⟩
            · obtain ⟨y0, a, bw, cw', n, m, rfl, hle, htk, hnext, qe, qo, qg, qi⟩ := hW.ifs hw
              have hnN : n < bl.length := (hls.out.leads l (by simp) n (by rw [hle]; simp)).1
              have hmN : m < bl.length := (hls.out.leads l (by simp) m (by rw [hle]; simp)).1
              have HPN0 : Hid (PhisIn T (bl.getD n 0 + 1) (phisAt bs n) b) := (hls.out.leads l (by simp) n (by rw [hle]; simp)).2
              have HPM0 : Hid (PhisIn T (bl.getD m 0 + 1) (phisAt bs m) b) := (hls.out.leads l (by simp) m (by rw [hle]; simp)).2
              rw [hle] at HLD1
              obtain ⟨Y, hY⟩ : ∃ Y, Y = getV V (a, 0) := ⟨_, rfl⟩
              have hnx : Hid (R = runF (bs.map renB) f1 (meetG V (phisAt (bs.map renB) (if Y = 0 then m else n)) b) (if Y = 0 then m else n) (linesAt (bs.map renB) (if Y = 0 then m else n)) tr) := by
                show _ = _
                rw [hrun.out]
                conv => lhs; unfold runF
                rw [if_neg (by omega), if_pos (.inr hw), hnext, show takenG V l = (Y, 0) by unfold takenG; rw [htk, hY]]
              have HGE : Hid (∀ W, (∃ rc, DRun w W rb V nv vv rc) → Calls Tryz.prog 76 #[.pointer (some ⟨w.heap.size + 1, 0, none⟩), .string a] W fun e w' => e = .returned (.int .i64 Y) ∧ w' = W) := fun W ⟨rc, h⟩ => by rw [hY]; exact h.get a
              obtain ⟨z, hz⟩ : ∃ z, z = if Y = 0 then m else n := ⟨_, rfl⟩
              have hzN : z < bl.length := by rw [hz]; split <;> assumption
              have HPN : Hid (PhisIn T (bl.getD z 0 + 1) (phisAt bs z) b) := by
                by_cases hY0 : Y = 0
                · rw [if_pos hY0] at hz
                  rw [hz]
                  exact HPM0
                · rw [if_neg hY0] at hz
                  rw [hz]
                  exact HPN0
              rw [← hz] at hnx
              obtain ⟨q, hq⟩ : ∃ q, q = bl[z] := ⟨_, rfl⟩
              have hPn : Hid (PhisIn T (q + 1) (phisAt bs z) b) := by
                have h1 := HPN.out
                rw [List.getD_eq_getElem?_getD, List.getElem?_eq_getElem hzN, Option.getD_some, ← hq] at h1
                exact h1
              have hL1 : Hid (LsF T bl U bs z (q + 1 + (phisAt bs z).length) (linesAt (bs.map renB) z)) := by rw [hq]; exact (HBL.out z hzN).2.1
              have hUS : Hid (∀ p ∈ phisAt bs z, rho p.sets ∈ U) := (HBL.out z hzN).2.2
              have hq1 : q + (phisAt bs z).length ≤ 1000 := by rw [hq]; exact (HBL.out z hzN).1
              have hKM : Hid (KeysIn (meetG V (phisAt (bs.map renB) z) b) U) := by rw [phisAt_ren]; exact hVf.out.meet hUS.out b
              have HPQ : Hid (∀ W rc, DRun w W rb V nv vv rc → Calls Tryz.prog 75 #[.pointer (some ⟨tb, 0, none⟩), .pointer (some ⟨w.heap.size + 1, 0, none⟩), .int .i64 ((q : Int) + 1), .int .i64 (b : Int)] W fun e w' => e = .returned (.int .i64 ((q + 1 + (phisAt bs z).length : Nat) : Int)) ∧ ∃ nv' vv', DRun w w' rb (meetG V (phisAt (bs.map renB) z) b) nv' vv' rc) := fun W rc h => HPH.out W rb V nv vv rc q z b h (by omega) hb1k hPn.out
              have HBQ : Hid (∀ W, Below w.heap.size w W → Calls Tryz.prog 77 #[.pointer (some ⟨tb, 0, none⟩), .int .i64 (i : Int)] W fun e w' => e = .returned (.int .i64 (b : Int)) ∧ w' = W) := fun W hb => HBO.out W i b hb HBI.out.2 HBI.out.1
              have hn1k : z ≤ 1000 := by have := HNB.out; omega
              have HC1 : Hid (∀ W, Below w.heap.size w W → W.cell? ⟨tb, 1, none⟩ = some (.slice (some ⟨gB, ofB, none⟩) NB cpB) ∧ W.cell? ⟨gB, ofB + z, none⟩ = some (.int .i64 (q : Int))) := fun W hb => ⟨by rw [HNB.out]; exact (HCB.out W z hzN hb).1, by rw [hq]; exact (HCB.out W z hzN hb).2⟩
              have hn1 : (z : Int) < (NB : Int) := by have := HNB.out; omega
              have hn0 : (0 : Int) ≤ (z : Int) := by omega
              have c0 := HCT.out wr hbel 0 _ rfl
              rw [Nat.add_zero] at c0
              generalize meetG V (phisAt (bs.map renB) z) b = V9 at *
              generalize (phisAt bs z).length = P9 at *
              clear hW hrun hls hok hw10 hw hbel hq hnext hle hY htk hnN hmN HPN hUS hPn HPN0 HPM0
              by_cases hY0 : Y = 0
              · rw [if_pos hY0] at hz
                have qY : (Y == 0) = true := by simpa using hY0
                subst hz
                clear hY0
                go_wp2_with (first
                  | (go_at_call 72; refine HLD1.out.mono ?_; rintro e w5 ⟨⟨ao5, cp5, rfl, hr5⟩, hb5⟩; have HD5 : Hid (DRun w w5 rb V nv vv [.bool false, .int .i64 0, .string (traceB tr)]) := hD.out.below hb5; have c0 := HCT.out w5 HD5.out.bel 0 _ rfl; rw [Nat.add_zero] at c0; obtain ⟨g5, o5, hao5, hc5⟩ := rdT_cells hr5 (by simp); subst hao5; have d0 := hc5 0 n rfl; rw [Nat.add_zero] at d0; have d1 := hc5 1 z rfl; have c1 := HCT.out w5 HD5.out.bel 1 _ rfl; obtain ⟨k1, k2⟩ := HC1.out w5 HD5.out.bel; clear hb5 hc5 hr5)
                  | (go_at_call 76; refine (HGE.out _ ?_).mono ?_; exact ⟨_, HD5.out⟩; rintro e w6 ⟨rfl, hw6⟩; rw [hw6]; clear hw6)
                  | (go_at_call 77; refine Calls.mono (HBQ.out _ HD5.out.bel) ?_; rintro e w6 ⟨rfl, hw6⟩; rw [hw6]; clear hw6)
                  | (go_at_call 75; refine Calls.mono (HPQ.out _ _ HD5.out) ?_; rintro e w7 ⟨rfl, nv7, vv7, hd7⟩; have HD7 : Hid (DRun w w7 rb V9 nv7 vv7 [.bool false, .int .i64 0, .string (traceB tr)]) := hd7; clear hd7))
                go_roundg f1
                case measure => omega
                case rel => exact ⟨f1, q + 1 + P9, z, linesAt (bs.map renB) z, V9, tr, nv7, vv7, rfl, rfl, by go_num, hKM, by omega, hn1k, by omega, htf, HD7, hL1, hnx⟩
              · rw [if_neg hY0] at hz
                have qY : (Y == 0) = false := by simpa using hY0
                subst hz
                clear hY0
                go_wp2_with (first
                  | (go_at_call 72; refine HLD1.out.mono ?_; rintro e w5 ⟨⟨ao5, cp5, rfl, hr5⟩, hb5⟩; have HD5 : Hid (DRun w w5 rb V nv vv [.bool false, .int .i64 0, .string (traceB tr)]) := hD.out.below hb5; have c0 := HCT.out w5 HD5.out.bel 0 _ rfl; rw [Nat.add_zero] at c0; obtain ⟨g5, o5, hao5, hc5⟩ := rdT_cells hr5 (by simp); subst hao5; have d0 := hc5 0 z rfl; rw [Nat.add_zero] at d0; have c1 := HCT.out w5 HD5.out.bel 1 _ rfl; obtain ⟨k1, k2⟩ := HC1.out w5 HD5.out.bel; clear hb5 hc5 hr5)
                  | (go_at_call 76; refine (HGE.out _ ?_).mono ?_; exact ⟨_, HD5.out⟩; rintro e w6 ⟨rfl, hw6⟩; rw [hw6]; clear hw6)
                  | (go_at_call 77; refine Calls.mono (HBQ.out _ HD5.out.bel) ?_; rintro e w6 ⟨rfl, hw6⟩; rw [hw6]; clear hw6)
                  | (go_at_call 75; refine Calls.mono (HPQ.out _ _ HD5.out) ?_; rintro e w7 ⟨rfl, nv7, vv7, hd7⟩; have HD7 : Hid (DRun w w7 rb V9 nv7 vv7 [.bool false, .int .i64 0, .string (traceB tr)]) := hd7; clear hd7))
                go_roundg f1
                case measure => omega
                case rel => exact ⟨f1, q + 1 + P9, z, linesAt (bs.map renB) z, V9, tr, nv7, vv7, rfl, rfl, by go_num, hKM, by omega, hn1k, by omega, htf, HD7, hL1, hnx⟩
            · obtain ⟨y0, a, rfl, htk, qe⟩ := hW.ended hw
              obtain ⟨Y, hY⟩ : ∃ Y, Y = getV V (a, 0) := ⟨_, rfl⟩
              have hend : Hid (R = ⟨true, Y, tr⟩) := by
                show _ = _
                rw [hrun.out]
                unfold runF
                rw [if_neg (by omega), if_neg (by omega), if_pos hw, show takenG V l = (Y, 0) by unfold takenG; rw [htk, hY]]
              have HGE : Hid (∀ W, (∃ rc, DRun w W rb V nv vv rc) → Calls Tryz.prog 76 #[.pointer (some ⟨w.heap.size + 1, 0, none⟩), .string a] W fun e w' => e = .returned (.int .i64 Y) ∧ w' = W) := fun W ⟨rc, h⟩ => by rw [hY]; exact h.get a
              have c0 := HCT.out wr hbel 0 _ rfl
              rw [Nat.add_zero] at c0
              clear hW hrun hls hok hw10 hw hbel hY htk
              go_wp2_with (first
                | (go_at_call 72; refine HLD1.out.mono ?_; rintro e w5 ⟨⟨ao5, cp5, rfl, -⟩, hb5⟩; have HD5 : Hid (DRun w w5 rb V nv vv [.bool false, .int .i64 0, .string (traceB tr)]) := hD.out.below hb5; have r0 := HD5.out.r.cell (k := 0) rfl; have fr0 := HD5.out.r.frozen 0; have c0 := HCT.out w5 HD5.out.bel 0 _ rfl; rw [Nat.add_zero] at c0; have HD6 : Hid (DRun w (w5.setCell ⟨rb, 0, none⟩ (.bool true)) rb V nv vv [.bool true, .int .i64 0, .string (traceB tr)]) := HD5.out.set 0 _; have r1 := HD6.out.r.cell (k := 1) rfl; have fr1 := HD6.out.r.frozen 1; have c1 := HCT.out _ HD6.out.bel 1 _ rfl; clear hb5)
                | (go_at_call 76; refine (HGE.out _ ?_).mono ?_; exact ⟨_, HD6.out⟩; rintro e w6 ⟨rfl, hw6⟩; rw [hw6]; clear hw6)
                | (refine wpList_load_box aggRes2 rfl _ rfl _ rfl _ rfl (HD6.out.set 1 _).r ?_)
                | (refine wpList_store_box aggRes2 rfl _ _ rfl _ rfl _ [.bool true, .int .i64 Y, .string (traceB tr)] rfl (HD6.out.set 1 _).res rfl rfl (one_res _ _ _) ?_; intro w8 hb8 hg8 hs8))
              refine bodyPost_ret (results_box1 aggRes2 Tryz.results41 rfl rfl hb8) rfl ?_
              refine ⟨?_, (HD6.out.set 1 (.int .i64 Y)).bel.trans (hg8.below (by have := (HD6.out.set 1 (.int .i64 Y)).hi; omega) (fun q hq => by omega))⟩
              rw [← HRR.out, hend.out]
              rfl
            · obtain ⟨y0, a, rest, rfl, hset, qe, qo, qg, qi⟩ := hW.sets hw
              obtain ⟨rk, hrk⟩ : ∃ rk, rk = reckonG l.word (takenG V l).1 (takenG V l).2 := ⟨_, rfl⟩
              have hrf : Hid (fits64 rk) := by show fits64 rk; rw [hrk]; exact reckon_fits l.word (taken_fits hD.out.fits hok)
              have hnx : Hid (R = runF (bs.map renB) f1 (putV V (a, 0) rk) b r tr) := by
                show _ = _
                rw [hrun.out]
                conv => lhs; unfold runF
                rw [if_neg (by omega), if_neg (by omega), if_neg (by omega), hrk, hset]
              have hnl : Hid (LsF T bl U bs b (i + 1) r) := hls.out.next (by
                unfold endsK
                rw [Bool.or_eq_false_iff, Bool.or_eq_false_iff, beq_eq_false_iff_ne, beq_eq_false_iff_ne, beq_eq_false_iff_ne]
                omega)
              have hKP : Hid (KeysIn (putV V (a, 0) rk) U) := hVf.out.put (by rw [← hset]; exact hls.out.sets l (by simp) hw) rk
              have HRE : Hid (∀ W, (∃ rc, DRun w W rb V nv vv rc) → Calls Tryz.prog 78 #[.pointer (some ⟨w.heap.size + 1, 0, none⟩), .slice (some ⟨gW, oW, none⟩) (y0 :: a :: rest).length cpW] W fun e w' => e = .returned (.int .i64 rk) ∧ w' = W) := fun W ⟨rc, h⟩ => by rw [hrk]; exact reckons_any W _ _ V nv vv _ _ l h.vars hW hw (HWI.out W h.bel)
              have HPU : Hid (∀ W rc, DRun w W rb V nv vv rc → Calls Tryz.prog 74 #[.pointer (some ⟨w.heap.size + 1, 0, none⟩), .string a, .int .i64 rk] W fun e w' => e = .returned (.tuple #[]) ∧ ∃ nv' vv', DRun w w' rb (putV V (a, 0) rk) nv' vv' rc) := fun W rc h => h.put a rk hrf.out (by omega)
              have c0 := HCT.out wr hbel 0 _ rfl
              rw [Nat.add_zero] at c0
              obtain ⟨LW, hLW⟩ : ∃ LW, LW = (y0 :: a :: rest).length := ⟨_, rfl⟩
              have hLW2 : 2 ≤ LW := by rw [hLW]; simp
              have hLW3 : (1 : Int) < (LW : Int) := by omega
              have hLW4 : (0 : Int) < (LW : Int) := by omega
              rw [← hLW] at HRE ci
              clear hW hrun hls hok hw10 hw hbel hrk hset hLW HWI
              generalize putV V (a, 0) rk = V2 at *
              go_wp2_with (first
                | (go_at_call 72; refine HLD1.out.mono ?_; rintro e w5 ⟨⟨ao5, cp5, rfl, -⟩, hb5⟩; have HD5 : Hid (DRun w w5 rb V nv vv [.bool false, .int .i64 0, .string (traceB tr)]) := hD.out.below hb5; have c0 := HCT.out w5 HD5.out.bel 0 _ rfl; rw [Nat.add_zero] at c0; have c1 := HCT.out w5 HD5.out.bel 1 _ rfl; clear hb5))
              go_region_held3 (fun w' => w'.cell? ⟨gW, oW + 1, none⟩ = some (.string a))
                (first | exact HCT.out _ HD9.out.bel 1 _ rfl | exact c1 | go_keep)
                (first
                  | (go_at_call 78; refine (HRE.out _ ?_).mono ?_; exact ⟨_, HD5.out.below (Below.refl _ _).drew⟩; rintro e w6 ⟨rfl, hw6⟩; rw [hw6]; clear hw6)
                  | (go_at_call 74; refine (HPU.out _ [.bool false, .int .i64 0, .string (traceB tr)] ?_).mono ?_; exact HD5.out.below (Below.refl _ _).drew; rintro e w9 ⟨rfl, nv9, vv9, hd9⟩; have HD9 : Hid (DRun w w9 rb V2 nv9 vv9 [.bool false, .int .i64 0, .string (traceB tr)]) := hd9; clear hd9))
              go_wp2_with fail
              go_roundg f1
              case measure => omega
              case rel => exact ⟨f1, i + 1, b, r, V2, tr, nv9, vv9, rfl, rfl, by go_num, hKP, by omega, hb1k, by omega, htf, HD9, hnl, hnx⟩

end Go.Proofs.YtbddcodljmglfaaGreatDoor
