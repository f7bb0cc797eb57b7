/- The small functions of a run. -/
import Derived.Test.YtbddcodljmglfaaGreatDoorRunSpec
import Derived.Test.YtbddcodljmglfaaGreatDoorProg1
import Derived.Test.YtbddcodljmglfaaGreatDoorBox
import Derived.Deep.RegionHeld3
set_option linter.unusedSimpArgs false
set_option linter.unusedVariables false
namespace Go.Proofs.YtbddcodljmglfaaGreatDoor
open Go.RowKit

theorem infoInt64 : (Tryz.prog.info? 2).map (fun i => (i.zero, i.size, i.bytes)) = some (some (.int .i64 0), 1, 8) := by kernel_rfl

theorem heap_alloc_new2 {w : World} {o o' : Obj} : ((w.alloc o).alloc o').heap[w.heap.size + 1]? = some o' := by
  have := heap_alloc_new (w.alloc o) o'
  simpa using this
theorem BoxIn.set {w : World} {b i : Nat} {t : TypeId} {cs : List Value} {u : Value} (h : BoxIn w b t cs) : BoxIn (w.setCell ⟨b, i, none⟩ u) b t (cs.set i u) := by
  show (w.setCell ⟨b, i, none⟩ u).heap[b]? = _
  rw [set_block h]
  simp
theorem reckon_any (w : World) (k : Nat) (y z : Int) (hk : k < 10) : Calls Tryz.prog 91 #[.int .i64 (k : Int), .int .i64 y, .int .i64 z] w fun e w' => e = .returned (.int .i64 (reckonG k y z)) ∧ w' = w := by
  rcases (by omega : k = 0 ∨ k = 1 ∨ k = 2 ∨ k = 3 ∨ k = 4 ∨ k = 5 ∨ k = 6 ∨ k = 7 ∨ k = 8 ∨ k = 9) with rfl | rfl | rfl | rfl | rfl | rfl | rfl | rfl | rfl | rfl
  all_goals go_enter Tryz.func91, Tryz.ntmps91
  all_goals go_wp2
  all_goals go_ret
  all_goals simp [reckonG, wr64, *]

set_option maxRecDepth 100000 in
theorem next_any (w : World) (x : LV) (y : Int) (h : x.ok w) (ho : LineOK x.l) (hw : x.l.word = 7 ∨ x.l.word = 8) : Calls Tryz.prog 89 #[.agg (lineCells x.l x.tv x.lv), .int .i64 y] w fun e w' => e = .returned (.int .i64 (nextG x.l y : Int)) ∧ Below w.heap.size w w' := by
  obtain ⟨⟨k, st, tk, nm, ld⟩, tv, lv⟩ := x
  obtain ⟨h1, h2, h3, h4⟩ := h
  obtain ⟨o0, o1, o2, o3, o4⟩ := ho
  simp only at *
  obtain ⟨aoL, cpL, rfl, hcL, hcl⟩ := h2.cell
  rcases hw with rfl | rfl
  · obtain ⟨a, rfl⟩ : ∃ a, ld = [a] := List.length_eq_one_iff.1 (o3 rfl)
    obtain ⟨g, off, rfl, hg, hx⟩ := hcl (by simp)
    have c0 : w.cell? ⟨g, off, none⟩ = some (.int .i64 (a : Int)) := hx 0 _ rfl
    unfold lineCells
    simp only [nextG]
    clear hcl h1 h2 hx
    go_enter Tryz.func89, Tryz.ntmps89
    go_wp2
    go_ret
    exact ⟨by simp, (Below.refl _ _).alloc (Nat.le_refl _) _⟩
  · obtain ⟨a, b, rfl⟩ : ∃ a b, ld = [a, b] := by
      match ld, o4 rfl with
      | [a, b], _ => exact ⟨a, b, rfl⟩
    obtain ⟨g, off, rfl, hg, hx⟩ := hcl (by simp)
    have c0 : w.cell? ⟨g, off, none⟩ = some (.int .i64 (a : Int)) := hx 0 _ rfl
    have c1 : w.cell? ⟨g, off + 1, none⟩ = some (.int .i64 (b : Int)) := hx 1 _ rfl
    unfold lineCells
    simp only [nextG]
    clear hcl h1 h2 hx
    by_cases hy : y = 0
    · have hy' : (y == 0) = true := by simpa using hy
      go_enter Tryz.func89, Tryz.ntmps89
      go_wp2
      go_ret
      exact ⟨by simp [hy], (Below.refl _ _).alloc (Nat.le_refl _) _⟩
    · have hy' : (y == 0) = false := by simpa using hy
      go_enter Tryz.func89, Tryz.ntmps89
      go_wp2
      go_ret
      exact ⟨by simp [hy], (Below.refl _ _).alloc (Nat.le_refl _) _⟩

set_option maxRecDepth 100000 in
theorem meet_none (w : World) (m : Nat) (pv : Value) (cp : Nat) (ao : Option Addr) (fr : Nat) (hp : pv = .slice ao 0 cp) : Calls Tryz.prog 90 #[.map (some m), pv, .int .i64 (fr : Int)] w fun e w' => e = .returned (.tuple #[]) ∧ Below w.heap.size w w' := by
  subst hp
  obtain ⟨o, hmk⟩ : ∃ o, (Instr.makeSlice 24 (.int .i64 0) (.int .i64 0)).run Tryz.prog w = .ok (.slice (some ⟨w.heap.size, 0, none⟩) 0 0) (w.alloc o) := by
    obtain ⟨i0, hi, hz0, hz1, hz2⟩ := info_parts infoInt64
    exact ⟨_, run_make (P := Tryz.prog) w 24 2 i0 _ Tryz.underlying24 hi hz0 .i64 .i64 0 0 (by omega) (Int.le_refl _) (by omega) (by omega)⟩
  go_enter Tryz.func90, Tryz.ntmps90
  go_wp2
  go_loopg [16] 0 (fun g v16 wr => v16 = .int .i64 0 ∧ wr = w.alloc o)
  case atStart => exact ⟨rfl, rfl⟩
  case round =>
    obtain ⟨rfl, rfl⟩ := hrel
    go_wp2
    go_loopg [32] 0 (fun g v32 wr => v32 = .int .i64 0 ∧ wr = w.alloc o)
    case atStart => exact ⟨rfl, rfl⟩
    case round =>
      obtain ⟨rfl, rfl⟩ := hrel
      go_wp2
      go_end0
      exact ⟨rfl, (Below.refl _ _).alloc (Nat.le_refl _) _⟩

set_option maxRecDepth 100000 in
theorem taken_any (w : World) (m : Nat) (V : List (Ver × Int)) (x : LV) (hV : VMap w m V) (h : x.ok w) (ho : LineOK x.l) : Calls Tryz.prog 87 #[.map (some m), .agg (lineCells x.l x.tv x.lv)] w fun e w' => e = .returned (.tuple #[.int .i64 (takenG V x.l).1, .int .i64 (takenG V x.l).2]) ∧ Below w.heap.size w w' := by
  obtain ⟨⟨k, st, tk, nm, ld⟩, tv, lv⟩ := x
  obtain ⟨h1, h2, h3, h4⟩ := h
  obtain ⟨o0, o1, o2, o3, o4⟩ := ho
  simp only at *
  obtain ⟨aoT, cpT, rfl, hcT, hcl⟩ := h1.cell
  unfold lineCells
  have HV : Hid (VMap w m V) := hV
  clear hV
  go_enter Tryz.func87, Tryz.ntmps87
  go_wp2
  obtain ⟨n, hn⟩ : ∃ n, n = tk.length := ⟨_, rfl⟩
  have HN : Hid (n = tk.length) := hn
  rw [← hn] at o2 hcl ⊢
  have hTK : Hid (takenG V ⟨k, st, tk, nm, ld⟩ = (if n = 0 then nm else getV V (tk.getD 0 noVer), if n ≤ 1 then 0 else getV V (tk.getD 1 noVer))) := by
    show _ = _
    rw [hn]
    unfold takenG
    match tk with
    | [] => simp
    | [a] => simp
    | a :: b :: r => simp
  clear hn h1
  go_loopg [15] n (fun g v15 wr => ∃ (i : Nat), i + g = n ∧ v15 = .int .i64 i ∧ Hid (BoxIn wr (w.heap.size + 1) 197 [.int .i64 (if i = 0 then nm else getV V (tk.getD 0 noVer)), .int .i64 (if i ≤ 1 then 0 else getV V (tk.getD 1 noVer))]) ∧ Hid (Below w.heap.size w wr))
  case atStart => exact ⟨0, by omega, rfl, heap_alloc_new2, ((Below.refl _ _).alloc (Nat.le_refl _) _).alloc (by simp) _⟩
  case round =>
    obtain ⟨i, hig, rfl, hbx, hbel⟩ := hrel
    have hsz := hbel.out.size
    by_cases hin : i < n
    · obtain ⟨gT, ofT, rfl, hgT, hx⟩ := hcl (by omega)
      obtain ⟨t, ht⟩ : ∃ t, tk[i]? = some t := ⟨_, List.getElem?_eq_getElem (by rw [← HN.out]; exact hin)⟩
      have hlt : i < tk.length := by rw [← HN.out]; exact hin
      have hte : tk[i] = t := (List.getElem?_eq_some_iff.1 ht).2
      have x0 : wr.cell? ⟨gT, ofT + i * 2, none⟩ = some (.string t.1) := (hbel.out.cell (p := ⟨gT, ofT + i * 2, none⟩) hgT).trans (hx _ _ (by rw [(vers_get hlt).1, hte]))
      have x1 : wr.cell? ⟨gT, ofT + i * 2 + 1, none⟩ = some (.int .i64 (t.2 : Int)) := (hbel.out.cell (p := ⟨gT, ofT + i * 2 + 1, none⟩) hgT).trans (by rw [Nat.add_assoc]; exact hx _ _ (by rw [(vers_get hlt).2, hte]))
      have hlk : ∀ o, (Instr.lookup 139 (.map (some m)) (.agg #[.string t.1, .int .i64 (t.2 : Int)]) false).run Tryz.prog (wr.alloc o) = .ok (.int .i64 (getV V t)) (wr.alloc o) := fun o => ((HV.out.of_block (hbel.out.block m HV.out.lt)).of_block (Below.heap_alloc wr o m (Nat.lt_of_lt_of_le HV.out.lt hsz))).lookup t
      have hi0 : (0 : Int) ≤ (i : Int) := by omega
      have hi1 : (i : Int) < (n : Int) := by omega
      have hblt := hbx.out.lt
      have hb9 : ∀ o, BoxIn (wr.alloc o) (w.heap.size + 1) 197 [.int .i64 (if i = 0 then nm else getV V (tk.getD 0 noVer)), .int .i64 (if i ≤ 1 then 0 else getV V (tk.getD 1 noVer))] := fun o => hbx.out.below ((Below.refl _ _).alloc (Nat.le_refl _) o)
      rcases (by omega : i = 0 ∨ i = 1) with rfl | rfl
      · have gc : ∀ o, (wr.alloc o).cell? ⟨w.heap.size + 1, 0, none⟩ = some (.int .i64 nm) := fun o => (hb9 o).cell rfl
        have gf : ∀ o, (wr.alloc o).frozen? ⟨w.heap.size + 1, 0, none⟩ = false := fun o => (hb9 o).frozen 0
        have ht0 : Hid (tk.getD 0 noVer = t) := by show _ = _; rw [List.getD, ht]; rfl
        have HB9 : Hid (BoxIn wr (w.heap.size + 1) 197 [.int .i64 nm, .int .i64 0]) := hbx.out
        obtain ⟨ta, tn⟩ := t
        simp only at x0 x1 hlk
        simp only [Nat.zero_mul, Nat.add_zero] at x0 x1
        clear hb9 ht hte hx
        go_wp2_with fail
        go_roundg (n - 1)
        case measure => omega
        case rel =>
          refine ⟨1, by omega, by go_num, ?_, (hbel.out.setCell (by show w.heap.size ≤ w.heap.size + 1; omega) _).alloc (by simp [World.setCell]; omega) _⟩
          show BoxIn _ _ _ _
          rw [ht0.out]
          exact (HB9.out.set).below ((Below.refl _ _).alloc (Nat.le_refl _) _)
      · have gc : ∀ o, (wr.alloc o).cell? ⟨w.heap.size + 1, 1, none⟩ = some (.int .i64 0) := fun o => (hb9 o).cell rfl
        have gf : ∀ o, (wr.alloc o).frozen? ⟨w.heap.size + 1, 1, none⟩ = false := fun o => (hb9 o).frozen 1
        have ht0 : Hid (tk.getD 1 noVer = t) := by show _ = _; rw [List.getD, ht]; rfl
        have HB9 : Hid (BoxIn wr (w.heap.size + 1) 197 [.int .i64 (getV V (tk.getD 0 noVer)), .int .i64 0]) := hbx.out
        obtain ⟨ta, tn⟩ := t
        simp only at x0 x1 hlk
        simp only [Nat.one_mul] at x0 x1
        clear hb9 ht hte hx
        go_wp2_with fail
        go_roundg (n - 2)
        case measure => omega
        case rel =>
          refine ⟨2, by omega, by go_num, ?_, (hbel.out.setCell (by show w.heap.size ≤ w.heap.size + 1; omega) _).alloc (by simp [World.setCell]; omega) _⟩
          show BoxIn _ _ _ _
          rw [ht0.out]
          exact (HB9.out.set).below ((Below.refl _ _).alloc (Nat.le_refl _) _)
    · have hie : i = n := by omega
      subst hie
      have g0 : wr.cell? ⟨w.heap.size + 1, 0, none⟩ = some (.int .i64 (if i = 0 then nm else getV V (tk.getD 0 noVer))) := hbx.out.cell rfl
      have g1 : wr.cell? ⟨w.heap.size + 1, 1, none⟩ = some (.int .i64 (if i ≤ 1 then 0 else getV V (tk.getD 1 noVer))) := hbx.out.cell rfl
      obtain ⟨ra, hra⟩ : ∃ ra, ra = (if i = 0 then nm else getV V (tk.getD 0 noVer)) := ⟨_, rfl⟩
      obtain ⟨rb, hrb⟩ : ∃ rb, rb = (if i ≤ 1 then 0 else getV V (tk.getD 1 noVer)) := ⟨_, rfl⟩
      have HQ : Hid (takenG V ⟨k, st, tk, nm, ld⟩ = (ra, rb)) := by show _ = _; rw [hTK.out, hra, hrb]
      rw [← hra] at g0
      rw [← hrb] at g1
      clear hra hrb hTK
      go_wp2_with fail
      go_region_held3 (fun w' => w'.cell? ⟨w.heap.size + 1, 0, none⟩ = some (.int .i64 ra) ∧ w'.cell? ⟨w.heap.size + 1, 1, none⟩ = some (.int .i64 rb)) (go_keep) (fail)
      go_wp2_with fail
      go_ret2
      rw [HQ.out]
      exact ⟨rfl, hbel.out.drew⟩

def ints (xs : List Int) : List Value := xs.map (.int .i64 ·)
theorem RdS.cells {w : World} {v : Value} {n : Nat} {xs : List Value} (h : RdS w 1 v n xs) : ∃ ao cap, v = .slice ao n cap ∧ (0 < n → ∃ g off, ao = some ⟨g, off, none⟩ ∧ g < w.heap.size ∧ ∀ j u, xs[j]? = some u → w.cell? ⟨g, off + j, none⟩ = some u) := by
  obtain ⟨hl, ao, cap, hv, h⟩ := h
  refine ⟨ao, cap, hv, fun hn => ?_⟩
  rcases h with h | ⟨g, off, ha, h⟩
  · omega
  · refine ⟨g, off, ha, ?_, h⟩
    have h0 := h 0 xs[0] (List.getElem?_eq_getElem (by omega))
    exact World.block_lt_of_cell? w _ h0

set_option maxRecDepth 100000 in
theorem start_any (w : World) (pb : Nat) (av bv : Value) (A : List Ver) (B : List BV) (argv : Value) (xs : List Int) (hp : w.cell? ⟨pb, 0, none⟩ = some av) (hP : ProgIn w av bv A B) (hA : A.length ≤ 1000000) (hx : RdS w 1 argv xs.length (ints xs)) :
    Calls Tryz.prog 86 #[.pointer (some ⟨pb, 0, none⟩), argv] w fun e w' => (∃ m, e = .returned (.map (some m)) ∧ w.heap.size ≤ m ∧ VMap w' m (startG A xs)) ∧ Below w.heap.size w w' := by
  obtain ⟨aoA, cpA, rfl, hcA, hcl⟩ := hP.args.cell
  obtain ⟨aoX, cpX, rfl, hxl⟩ := hx.cells
  have hpl : pb < w.heap.size := World.block_lt_of_cell? w _ hp
  clear hP hx
  have hmk : (Instr.makeMap 139 none).run Tryz.prog w = .ok (.map (some w.heap.size)) (w.alloc (.map #[] 0)) := by
    simp [Instr.makeMap, run_underlying Tryz.underlying139, Result.andThen, newObj, Sem.run]
  obtain ⟨N, hN⟩ : ∃ N, N = A.length := ⟨_, rfl⟩
  have HN : Hid (N = A.length) := hN
  obtain ⟨M, hM⟩ : ∃ M, M = xs.length := ⟨_, rfl⟩
  have HM : Hid (M = xs.length) := hM
  rw [← hN] at hp hcl hA
  rw [← hM] at hxl ⊢
  clear hN hM
  go_enter Tryz.func86, Tryz.ntmps86
  go_wp2
  clear hmk
  go_loopg [14] N (fun g v14 wr => ∃ (i : Nat), i + g = N ∧ v14 = .int .i64 i ∧ Hid (VMap wr w.heap.size (((A.zip xs).take i).foldl (fun V x => putV V x.1 x.2) [])) ∧ Hid (Below w.heap.size w wr))
  case atStart => exact ⟨0, by omega, rfl, VMap.new w, (Below.refl _ _).alloc (Nat.le_refl _) _⟩
  case round =>
    obtain ⟨i, hig, rfl, hV, hbel⟩ := hrel
    have hsz := hbel.out.size
    by_cases hiN : i < N
    · obtain ⟨gA, ofA, rfl, hgA, hx⟩ := hcl (by omega)
      have hlt : i < A.length := by rw [← HN.out]; exact hiN
      obtain ⟨t, hte⟩ : ∃ t, A[i] = t := ⟨_, rfl⟩
      have x0 : wr.cell? ⟨gA, ofA + i * 2, none⟩ = some (.string t.1) := (hbel.out.cell (p := ⟨gA, ofA + i * 2, none⟩) hgA).trans (hx _ _ (by rw [(vers_get hlt).1, hte]))
      have x1 : wr.cell? ⟨gA, ofA + i * 2 + 1, none⟩ = some (.int .i64 (t.2 : Int)) := (hbel.out.cell (p := ⟨gA, ofA + i * 2 + 1, none⟩) hgA).trans (by rw [Nat.add_assoc]; exact hx _ _ (by rw [(vers_get hlt).2, hte]))
      have hi0 : (0 : Int) ≤ (i : Int) := by omega
      have hi1 : (i : Int) < (N : Int) := by omega
      by_cases hiM : i < M
      · obtain ⟨gX, ofX, rfl, hgX, hy⟩ := hxl (by omega)
        obtain ⟨z, hz⟩ : ∃ z, xs[i]? = some z := ⟨_, List.getElem?_eq_getElem (by rw [← HM.out]; exact hiM)⟩
        have y0 : wr.cell? ⟨gX, ofX + i, none⟩ = some (.int .i64 z) := (hbel.out.cell (p := ⟨gX, ofX + i, none⟩) hgX).trans (hy _ _ (by simp [ints, hz]))
        have hi2 : (i : Int) < (M : Int) := by omega
        have hstep : Hid (((A.zip xs).take (i + 1)).foldl (fun V x => putV V x.1 x.2) [] = putV (((A.zip xs).take i).foldl (fun V x => putV V x.1 x.2) []) t z) := by
          show _ = _
          have hzip : (A.zip xs)[i]? = some (t, z) := by
            rw [List.getElem?_zip_eq_some]
            exact ⟨by rw [List.getElem?_eq_getElem hlt, hte], hz⟩
          rw [List.take_add_one, hzip, List.foldl_append]
          rfl
        obtain ⟨w9, hup, hv9, ho9, hs9, hos9, htp9, hou9⟩ := ((hV.out.of_block (w' := (wr.alloc (.cells #[.string t.1, .int .i64 (t.2 : Int)] 111)).drew) (Below.heap_alloc wr (.cells #[.string t.1, .int .i64 (t.2 : Int)] 111) w.heap.size hV.out.lt))).update t z
        unfold vkey at hup
        have HV9 : Hid (VMap w9 _ _) := hv9
        have HB9 : Hid (Below w.heap.size w w9) := (hbel.out.alloc hsz _).drew.trans ⟨hos9, htp9, hou9, Nat.le_of_eq hs9.symm, fun k hk => ho9 k (by omega)⟩
        have hVlt := hV.out.lt
        have n0 : (wr.alloc (.cells #[.string t.1, .int .i64 (t.2 : Int)] 111)).cell? ⟨wr.heap.size, 0, none⟩ = some (.string t.1) := (BoxIn.new wr 111 [.string t.1, .int .i64 (t.2 : Int)]).cell rfl
        have n1 : (wr.alloc (.cells #[.string t.1, .int .i64 (t.2 : Int)] 111)).cell? ⟨wr.heap.size, 1, none⟩ = some (.int .i64 (t.2 : Int)) := (BoxIn.new wr 111 [.string t.1, .int .i64 (t.2 : Int)]).cell rfl
        have n2 : (wr.alloc (.cells #[.string t.1, .int .i64 (t.2 : Int)] 111)).cell? ⟨gX, ofX + i, none⟩ = some (.int .i64 z) := (World.cell?_of_block (Below.heap_alloc wr _ _ (by show gX < wr.heap.size; omega))).trans y0
        have HS9 : Hid (w9.cell? ⟨wr.heap.size, 0, none⟩ = some (.string t.1) ∧ w9.cell? ⟨wr.heap.size, 1, none⟩ = some (.int .i64 (t.2 : Int)) ∧ w9.cell? ⟨gX, ofX + i, none⟩ = some (.int .i64 z)) := ⟨(World.cell?_of_block (ho9 _ (by show wr.heap.size ≠ w.heap.size; omega))).trans n0, (World.cell?_of_block (ho9 _ (by show wr.heap.size ≠ w.heap.size; omega))).trans n1, (World.cell?_of_block (ho9 _ (by show gX ≠ w.heap.size; omega))).trans n2⟩
        obtain ⟨ta, tn⟩ := t
        simp only at x0 x1 hup n0 n1 n2 HS9
        clear hx hy hz hte hv9 ho9 hs9 hos9 htp9 hou9
        go_wp2_with fail
        go_region_held3 (fun w' => w'.cell? ⟨wr.heap.size, 0, none⟩ = some (.string ta) ∧ w'.cell? ⟨wr.heap.size, 1, none⟩ = some (.int .i64 (tn : Int)) ∧ w'.cell? ⟨gX, ofX + i, none⟩ = some (.int .i64 z)) (first | exact HS9.out | exact ⟨n0, n1, n2⟩ | go_keep) (fail)
        go_wp2_with fail
        go_roundg (N - (i + 1))
        case measure => omega
        case rel => exact ⟨i + 1, by omega, by go_num, (by show VMap _ _ _; rw [hstep.out]; exact HV9.out), HB9⟩
      · have hi2 : ¬ (i : Int) < (M : Int) := by omega
        have hstep : Hid (((A.zip xs).take (i + 1)).foldl (fun V x => putV V x.1 x.2) [] = ((A.zip xs).take i).foldl (fun V x => putV V x.1 x.2) []) := by
          show _ = _
          have hlz : (A.zip xs).length ≤ i := by rw [List.length_zip, ← HM.out]; omega
          rw [List.take_of_length_le (by omega), List.take_of_length_le hlz]
        obtain ⟨ta, tn⟩ := t
        simp only at x0 x1
        clear hx hte
        go_wp2_with fail
        go_roundg (N - (i + 1))
        case measure => omega
        case rel => exact ⟨i + 1, by omega, by go_num, (by show VMap _ _ _; rw [hstep.out]; exact hV.out.of_block (Below.heap_alloc wr _ _ hV.out.lt)), hbel.out.alloc hsz _⟩
    · have hall : Hid (startG A xs = ((A.zip xs).take i).foldl (fun V x => putV V x.1 x.2) []) := by
        show _ = _
        rw [List.take_of_length_le (by rw [List.length_zip, ← HN.out]; omega)]
        rfl
      go_wp2_with fail
      go_ret
      rw [hall.out]
      exact ⟨⟨_, rfl, Nat.le_refl _, hV.out⟩, hbel.out⟩

end Go.Proofs.YtbddcodljmglfaaGreatDoor
