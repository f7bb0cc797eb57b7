/- The small functions of a run. And what follows on it. -/
import Derived.Test.YtbddcodljmglfaaGreatDoorRunA
import Derived.Test.YtbddcodljmglfaaGreatDoorReadC
import Derived.Test.YtbddcodljmglfaaGreatDoorLeafA
import Derived.Deep.RegionHeld3
import Derived.Test.YtbddcodljmglfaaGreatDoorEnv
import Derived.Test.YtbddcodljmglfaaGreatDoorLostFn
import Derived.Lib.ItoaLen
set_option linter.unusedSimpArgs false
set_option linter.unusedVariables false
namespace Go.Proofs.YtbddcodljmglfaaGreatDoor
open Go.RowKit

theorem infoInt64 : (Tryz.prog.info? 2).map (fun i => (i.zero, i.size, i.bytes)) = some (some (.int .i64 0), 1, 8) := by kernel_rfl

theorem heap_alloc_new2 {w : World} {o o' : Obj} : ((w.alloc o).alloc o').heap[w.heap.size + 1]? = some o' := by
  have := heap_alloc_new (w.alloc o) o'
  simpa using this
theorem BoxIn.set {w : World} {b i : Nat} {t : TypeId} {cs : List Value} {u : Value} (h : BoxIn w b t cs) : BoxIn (w.setCell ⟨b, i, none⟩ u) b t (cs.set i u) := by
  show (w.setCell ⟨b, i, none⟩ u).heap[b]? = _
  rw [set_block h]
  simp
theorem reckon_any (w : World) (k : Nat) (y z : Int) (hk : k < 10) : Calls Tryz.prog 91 #[.int .i64 (k : Int), .int .i64 y, .int .i64 z] w fun e w' => e = .returned (.int .i64 (reckonG k y z)) ∧ w' = w := by
  rcases (by omega : k = 0 ∨ k = 1 ∨ k = 2 ∨ k = 3 ∨ k = 4 ∨ k = 5 ∨ k = 6 ∨ k = 7 ∨ k = 8 ∨ k = 9) with rfl | rfl | rfl | rfl | rfl | rfl | rfl | rfl | rfl | rfl
  all_goals go_enter Tryz.func91, Tryz.ntmps91
  all_goals go_wp2
  all_goals go_ret
  all_goals simp [reckonG, wr64, *]

set_option maxRecDepth 100000 in
theorem next_any (w : World) (x : LV) (y : Int) (h : x.ok w) (ho : LineOK x.l) (hw : x.l.word = 7 ∨ x.l.word = 8) : Calls Tryz.prog 89 #[.agg (lineCells x.l x.tv x.lv), .int .i64 y] w fun e w' => e = .returned (.int .i64 (nextG x.l y : Int)) ∧ Below w.heap.size w w' := by
  obtain ⟨⟨k, st, tk, nm, ld⟩, tv, lv⟩ := x
  obtain ⟨h1, h2, h3, h4⟩ := h
  obtain ⟨o0, o1, o2, o3, o4⟩ := ho
  simp only at *
  obtain ⟨aoL, cpL, rfl, hcL, hcl⟩ := h2.cell
  rcases hw with rfl | rfl
  · obtain ⟨a, rfl⟩ : ∃ a, ld = [a] := List.length_eq_one_iff.1 (o3 rfl)
    obtain ⟨g, off, rfl, hg, hx⟩ := hcl (by simp)
    have c0 : w.cell? ⟨g, off, none⟩ = some (.int .i64 (a : Int)) := hx 0 _ rfl
    unfold lineCells
    simp only [nextG]
    clear hcl h1 h2 hx
    go_enter Tryz.func89, Tryz.ntmps89
    go_wp2
    go_ret
    exact ⟨by simp, (Below.refl _ _).alloc (Nat.le_refl _) _⟩
  · obtain ⟨a, b, rfl⟩ : ∃ a b, ld = [a, b] := by
      match ld, o4 rfl with
      | [a, b], _ => exact ⟨a, b, rfl⟩
    obtain ⟨g, off, rfl, hg, hx⟩ := hcl (by simp)
    have c0 : w.cell? ⟨g, off, none⟩ = some (.int .i64 (a : Int)) := hx 0 _ rfl
    have c1 : w.cell? ⟨g, off + 1, none⟩ = some (.int .i64 (b : Int)) := hx 1 _ rfl
    unfold lineCells
    simp only [nextG]
    clear hcl h1 h2 hx
    by_cases hy : y = 0
    · have hy' : (y == 0) = true := by simpa using hy
      go_enter Tryz.func89, Tryz.ntmps89
      go_wp2
      go_ret
      exact ⟨by simp [hy], (Below.refl _ _).alloc (Nat.le_refl _) _⟩
    · have hy' : (y == 0) = false := by simpa using hy
      go_enter Tryz.func89, Tryz.ntmps89
      go_wp2
      go_ret
      exact ⟨by simp [hy], (Below.refl _ _).alloc (Nat.le_refl _) _⟩

set_option maxRecDepth 100000 in
theorem taken_any (w : World) (m : Nat) (V : List (Ver × Int)) (x : LV) (hV : VMap w m V) (h : x.ok w) (ho : LineOK x.l) : Calls Tryz.prog 87 #[.map (some m), .agg (lineCells x.l x.tv x.lv)] w fun e w' => e = .returned (.tuple #[.int .i64 (takenG V x.l).1, .int .i64 (takenG V x.l).2]) ∧ Below w.heap.size w w' := by
  obtain ⟨⟨k, st, tk, nm, ld⟩, tv, lv⟩ := x
  obtain ⟨h1, h2, h3, h4⟩ := h
  obtain ⟨o0, o1, o2, o3, o4⟩ := ho
  simp only at *
  obtain ⟨aoT, cpT, rfl, hcT, hcl⟩ := h1.cell
  unfold lineCells
  have HV : Hid (VMap w m V) := hV
  clear hV
  go_enter Tryz.func87, Tryz.ntmps87
  go_wp2
  obtain ⟨n, hn⟩ : ∃ n, n = tk.length := ⟨_, rfl⟩
  have HN : Hid (n = tk.length) := hn
  rw [← hn] at o2 hcl ⊢
  have hTK : Hid (takenG V ⟨k, st, tk, nm, ld⟩ = (if n = 0 then nm else getV V (tk.getD 0 noVer), if n ≤ 1 then 0 else getV V (tk.getD 1 noVer))) := by
    show _ = _
    rw [hn]
    unfold takenG
    match tk with
    | [] => simp
    | [a] => simp
    | a :: b :: r => simp
  clear hn h1
  go_loopg [15] n (fun g v15 wr => ∃ (i : Nat), i + g = n ∧ v15 = .int .i64 i ∧ Hid (BoxIn wr (w.heap.size + 1) 197 [.int .i64 (if i = 0 then nm else getV V (tk.getD 0 noVer)), .int .i64 (if i ≤ 1 then 0 else getV V (tk.getD 1 noVer))]) ∧ Hid (Below w.heap.size w wr))
  case atStart => exact ⟨0, by omega, rfl, heap_alloc_new2, ((Below.refl _ _).alloc (Nat.le_refl _) _).alloc (by simp) _⟩
  case round =>
    obtain ⟨i, hig, rfl, hbx, hbel⟩ := hrel
    have hsz := hbel.out.size
    by_cases hin : i < n
    · obtain ⟨gT, ofT, rfl, hgT, hx⟩ := hcl (by omega)
      obtain ⟨t, ht⟩ : ∃ t, tk[i]? = some t := ⟨_, List.getElem?_eq_getElem (by rw [← HN.out]; exact hin)⟩
      have hlt : i < tk.length := by rw [← HN.out]; exact hin
      have hte : tk[i] = t := (List.getElem?_eq_some_iff.1 ht).2
      have x0 : wr.cell? ⟨gT, ofT + i * 2, none⟩ = some (.string t.1) := (hbel.out.cell (p := ⟨gT, ofT + i * 2, none⟩) hgT).trans (hx _ _ (by rw [(vers_get hlt).1, hte]))
      have x1 : wr.cell? ⟨gT, ofT + i * 2 + 1, none⟩ = some (.int .i64 (t.2 : Int)) := (hbel.out.cell (p := ⟨gT, ofT + i * 2 + 1, none⟩) hgT).trans (by rw [Nat.add_assoc]; exact hx _ _ (by rw [(vers_get hlt).2, hte]))
      have hlk : ∀ o, (Instr.lookup 139 (.map (some m)) (.agg #[.string t.1, .int .i64 (t.2 : Int)]) false).run Tryz.prog (wr.alloc o) = .ok (.int .i64 (getV V t)) (wr.alloc o) := fun o => ((HV.out.of_block (hbel.out.block m HV.out.lt)).of_block (Below.heap_alloc wr o m (Nat.lt_of_lt_of_le HV.out.lt hsz))).lookup t
      have hi0 : (0 : Int) ≤ (i : Int) := by omega
      have hi1 : (i : Int) < (n : Int) := by omega
      have hblt := hbx.out.lt
      have hb9 : ∀ o, BoxIn (wr.alloc o) (w.heap.size + 1) 197 [.int .i64 (if i = 0 then nm else getV V (tk.getD 0 noVer)), .int .i64 (if i ≤ 1 then 0 else getV V (tk.getD 1 noVer))] := fun o => hbx.out.below ((Below.refl _ _).alloc (Nat.le_refl _) o)
      rcases (by omega : i = 0 ∨ i = 1) with rfl | rfl
      · have gc : ∀ o, (wr.alloc o).cell? ⟨w.heap.size + 1, 0, none⟩ = some (.int .i64 nm) := fun o => (hb9 o).cell rfl
        have gf : ∀ o, (wr.alloc o).frozen? ⟨w.heap.size + 1, 0, none⟩ = false := fun o => (hb9 o).frozen 0
        have ht0 : Hid (tk.getD 0 noVer = t) := by show _ = _; rw [List.getD, ht]; rfl
        have HB9 : Hid (BoxIn wr (w.heap.size + 1) 197 [.int .i64 nm, .int .i64 0]) := hbx.out
        obtain ⟨ta, tn⟩ := t
        simp only at x0 x1 hlk
        simp only [Nat.zero_mul, Nat.add_zero] at x0 x1
        clear hb9 ht hte hx
        go_wp2_with fail
        go_roundg (n - 1)
        case measure => omega
        case rel =>
          refine ⟨1, by omega, by go_num, ?_, (hbel.out.setCell (by show w.heap.size ≤ w.heap.size + 1; omega) _).alloc (by simp [World.setCell]; omega) _⟩
          show BoxIn _ _ _ _
          rw [ht0.out]
          exact (HB9.out.set).below ((Below.refl _ _).alloc (Nat.le_refl _) _)
      · have gc : ∀ o, (wr.alloc o).cell? ⟨w.heap.size + 1, 1, none⟩ = some (.int .i64 0) := fun o => (hb9 o).cell rfl
        have gf : ∀ o, (wr.alloc o).frozen? ⟨w.heap.size + 1, 1, none⟩ = false := fun o => (hb9 o).frozen 1
        have ht0 : Hid (tk.getD 1 noVer = t) := by show _ = _; rw [List.getD, ht]; rfl
        have HB9 : Hid (BoxIn wr (w.heap.size + 1) 197 [.int .i64 (getV V (tk.getD 0 noVer)), .int .i64 0]) := hbx.out
        obtain ⟨ta, tn⟩ := t
        simp only at x0 x1 hlk
        simp only [Nat.one_mul] at x0 x1
        clear hb9 ht hte hx
        go_wp2_with fail
        go_roundg (n - 2)
        case measure => omega
        case rel =>
          refine ⟨2, by omega, by go_num, ?_, (hbel.out.setCell (by show w.heap.size ≤ w.heap.size + 1; omega) _).alloc (by simp [World.setCell]; omega) _⟩
          show BoxIn _ _ _ _
          rw [ht0.out]
          exact (HB9.out.set).below ((Below.refl _ _).alloc (Nat.le_refl _) _)
    · have hie : i = n := by omega
      subst hie
      have g0 : wr.cell? ⟨w.heap.size + 1, 0, none⟩ = some (.int .i64 (if i = 0 then nm else getV V (tk.getD 0 noVer))) := hbx.out.cell rfl
      have g1 : wr.cell? ⟨w.heap.size + 1, 1, none⟩ = some (.int .i64 (if i ≤ 1 then 0 else getV V (tk.getD 1 noVer))) := hbx.out.cell rfl
      obtain ⟨ra, hra⟩ : ∃ ra, ra = (if i = 0 then nm else getV V (tk.getD 0 noVer)) := ⟨_, rfl⟩
      obtain ⟨rb, hrb⟩ : ∃ rb, rb = (if i ≤ 1 then 0 else getV V (tk.getD 1 noVer)) := ⟨_, rfl⟩
      have HQ : Hid (takenG V ⟨k, st, tk, nm, ld⟩ = (ra, rb)) := by show _ = _; rw [hTK.out, hra, hrb]
      rw [← hra] at g0
      rw [← hrb] at g1
      clear hra hrb hTK
      go_wp2_with fail
      go_region_held3 (fun w' => w'.cell? ⟨w.heap.size + 1, 0, none⟩ = some (.int .i64 ra) ∧ w'.cell? ⟨w.heap.size + 1, 1, none⟩ = some (.int .i64 rb)) (go_keep) (fail)
      go_wp2_with fail
      go_ret2
      rw [HQ.out]
      exact ⟨rfl, hbel.out.drew⟩

def ints (xs : List Int) : List Value := xs.map (.int .i64 ·)
theorem RdS.cells {w : World} {v : Value} {n : Nat} {xs : List Value} (h : RdS w 1 v n xs) : ∃ ao cap, v = .slice ao n cap ∧ (0 < n → ∃ g off, ao = some ⟨g, off, none⟩ ∧ g < w.heap.size ∧ ∀ j u, xs[j]? = some u → w.cell? ⟨g, off + j, none⟩ = some u) := by
  obtain ⟨hl, ao, cap, hv, h⟩ := h
  refine ⟨ao, cap, hv, fun hn => ?_⟩
  rcases h with h | ⟨g, off, ha, h⟩
  · omega
  · refine ⟨g, off, ha, ?_, h⟩
    have h0 := h 0 xs[0] (List.getElem?_eq_getElem (by omega))
    exact World.block_lt_of_cell? w _ h0

set_option maxRecDepth 100000 in
theorem start_any (w : World) (pb : Nat) (av bv : Value) (A : List Ver) (B : List BV) (argv : Value) (xs : List Int) (hp : w.cell? ⟨pb, 0, none⟩ = some av) (hP : ProgIn w av bv A B) (hA : A.length ≤ 1000000) (hx : RdS w 1 argv xs.length (ints xs)) :
    Calls Tryz.prog 86 #[.pointer (some ⟨pb, 0, none⟩), argv] w fun e w' => (∃ m, e = .returned (.map (some m)) ∧ w.heap.size ≤ m ∧ VMap w' m (startG A xs)) ∧ Below w.heap.size w w' := by
  obtain ⟨aoA, cpA, rfl, hcA, hcl⟩ := hP.args.cell
  obtain ⟨aoX, cpX, rfl, hxl⟩ := hx.cells
  have hpl : pb < w.heap.size := World.block_lt_of_cell? w _ hp
  clear hP hx
  have hmk : (Instr.makeMap 139 none).run Tryz.prog w = .ok (.map (some w.heap.size)) (w.alloc (.map #[] 0)) := by
    simp [Instr.makeMap, run_underlying Tryz.underlying139, Result.andThen, newObj, Sem.run]
  obtain ⟨N, hN⟩ : ∃ N, N = A.length := ⟨_, rfl⟩
  have HN : Hid (N = A.length) := hN
  obtain ⟨M, hM⟩ : ∃ M, M = xs.length := ⟨_, rfl⟩
  have HM : Hid (M = xs.length) := hM
  rw [← hN] at hp hcl hA
  rw [← hM] at hxl ⊢
  clear hN hM
  go_enter Tryz.func86, Tryz.ntmps86
  go_wp2
  clear hmk
  go_loopg [14] N (fun g v14 wr => ∃ (i : Nat), i + g = N ∧ v14 = .int .i64 i ∧ Hid (VMap wr w.heap.size (((A.zip xs).take i).foldl (fun V x => putV V x.1 x.2) [])) ∧ Hid (Below w.heap.size w wr))
  case atStart => exact ⟨0, by omega, rfl, VMap.new w, (Below.refl _ _).alloc (Nat.le_refl _) _⟩
  case round =>
    obtain ⟨i, hig, rfl, hV, hbel⟩ := hrel
    have hsz := hbel.out.size
    by_cases hiN : i < N
    · obtain ⟨gA, ofA, rfl, hgA, hx⟩ := hcl (by omega)
      have hlt : i < A.length := by rw [← HN.out]; exact hiN
      obtain ⟨t, hte⟩ : ∃ t, A[i] = t := ⟨_, rfl⟩
      have x0 : wr.cell? ⟨gA, ofA + i * 2, none⟩ = some (.string t.1) := (hbel.out.cell (p := ⟨gA, ofA + i * 2, none⟩) hgA).trans (hx _ _ (by rw [(vers_get hlt).1, hte]))
      have x1 : wr.cell? ⟨gA, ofA + i * 2 + 1, none⟩ = some (.int .i64 (t.2 : Int)) := (hbel.out.cell (p := ⟨gA, ofA + i * 2 + 1, none⟩) hgA).trans (by rw [Nat.add_assoc]; exact hx _ _ (by rw [(vers_get hlt).2, hte]))
      have hi0 : (0 : Int) ≤ (i : Int) := by omega
      have hi1 : (i : Int) < (N : Int) := by omega
      by_cases hiM : i < M
      · obtain ⟨gX, ofX, rfl, hgX, hy⟩ := hxl (by omega)
        obtain ⟨z, hz⟩ : ∃ z, xs[i]? = some z := ⟨_, List.getElem?_eq_getElem (by rw [← HM.out]; exact hiM)⟩
        have y0 : wr.cell? ⟨gX, ofX + i, none⟩ = some (.int .i64 z) := (hbel.out.cell (p := ⟨gX, ofX + i, none⟩) hgX).trans (hy _ _ (by simp [ints, hz]))
        have hi2 : (i : Int) < (M : Int) := by omega
        have hstep : Hid (((A.zip xs).take (i + 1)).foldl (fun V x => putV V x.1 x.2) [] = putV (((A.zip xs).take i).foldl (fun V x => putV V x.1 x.2) []) t z) := by
          show _ = _
          have hzip : (A.zip xs)[i]? = some (t, z) := by
            rw [List.getElem?_zip_eq_some]
            exact ⟨by rw [List.getElem?_eq_getElem hlt, hte], hz⟩
          rw [List.take_add_one, hzip, List.foldl_append]
          rfl
        obtain ⟨w9, hup, hv9, ho9, hs9, hos9, htp9, hou9⟩ := ((hV.out.of_block (w' := (wr.alloc (.cells #[.string t.1, .int .i64 (t.2 : Int)] 111)).drew) (Below.heap_alloc wr (.cells #[.string t.1, .int .i64 (t.2 : Int)] 111) w.heap.size hV.out.lt))).update t z
        unfold vkey at hup
        have HV9 : Hid (VMap w9 _ _) := hv9
        have HB9 : Hid (Below w.heap.size w w9) := (hbel.out.alloc hsz _).drew.trans ⟨hos9, htp9, hou9, Nat.le_of_eq hs9.symm, fun k hk => ho9 k (by omega)⟩
        have hVlt := hV.out.lt
        have n0 : (wr.alloc (.cells #[.string t.1, .int .i64 (t.2 : Int)] 111)).cell? ⟨wr.heap.size, 0, none⟩ = some (.string t.1) := (BoxIn.new wr 111 [.string t.1, .int .i64 (t.2 : Int)]).cell rfl
        have n1 : (wr.alloc (.cells #[.string t.1, .int .i64 (t.2 : Int)] 111)).cell? ⟨wr.heap.size, 1, none⟩ = some (.int .i64 (t.2 : Int)) := (BoxIn.new wr 111 [.string t.1, .int .i64 (t.2 : Int)]).cell rfl
        have n2 : (wr.alloc (.cells #[.string t.1, .int .i64 (t.2 : Int)] 111)).cell? ⟨gX, ofX + i, none⟩ = some (.int .i64 z) := (World.cell?_of_block (Below.heap_alloc wr _ _ (by show gX < wr.heap.size; omega))).trans y0
        have HS9 : Hid (w9.cell? ⟨wr.heap.size, 0, none⟩ = some (.string t.1) ∧ w9.cell? ⟨wr.heap.size, 1, none⟩ = some (.int .i64 (t.2 : Int)) ∧ w9.cell? ⟨gX, ofX + i, none⟩ = some (.int .i64 z)) := ⟨(World.cell?_of_block (ho9 _ (by show wr.heap.size ≠ w.heap.size; omega))).trans n0, (World.cell?_of_block (ho9 _ (by show wr.heap.size ≠ w.heap.size; omega))).trans n1, (World.cell?_of_block (ho9 _ (by show gX ≠ w.heap.size; omega))).trans n2⟩
        obtain ⟨ta, tn⟩ := t
        simp only at x0 x1 hup n0 n1 n2 HS9
        clear hx hy hz hte hv9 ho9 hs9 hos9 htp9 hou9
        go_wp2_with fail
        go_region_held3 (fun w' => w'.cell? ⟨wr.heap.size, 0, none⟩ = some (.string ta) ∧ w'.cell? ⟨wr.heap.size, 1, none⟩ = some (.int .i64 (tn : Int)) ∧ w'.cell? ⟨gX, ofX + i, none⟩ = some (.int .i64 z)) (first | exact HS9.out | exact ⟨n0, n1, n2⟩ | go_keep) (fail)
        go_wp2_with fail
        go_roundg (N - (i + 1))
        case measure => omega
        case rel => exact ⟨i + 1, by omega, by go_num, (by show VMap _ _ _; rw [hstep.out]; exact HV9.out), HB9⟩
      · have hi2 : ¬ (i : Int) < (M : Int) := by omega
        have hstep : Hid (((A.zip xs).take (i + 1)).foldl (fun V x => putV V x.1 x.2) [] = ((A.zip xs).take i).foldl (fun V x => putV V x.1 x.2) []) := by
          show _ = _
          have hlz : (A.zip xs).length ≤ i := by rw [List.length_zip, ← HM.out]; omega
          rw [List.take_of_length_le (by omega), List.take_of_length_le hlz]
        obtain ⟨ta, tn⟩ := t
        simp only at x0 x1
        clear hx hte
        go_wp2_with fail
        go_roundg (N - (i + 1))
        case measure => omega
        case rel => exact ⟨i + 1, by omega, by go_num, (by show VMap _ _ _; rw [hstep.out]; exact hV.out.of_block (Below.heap_alloc wr _ _ hV.out.lt)), hbel.out.alloc hsz _⟩
    · have hall : Hid (startG A xs = ((A.zip xs).take i).foldl (fun V x => putV V x.1 x.2) []) := by
        show _ = _
        rw [List.take_of_length_le (by rw [List.length_zip, ← HN.out]; omega)]
        rfl
      go_wp2_with fail
      go_ret
      rw [hall.out]
      exact ⟨⟨_, rfl, Nat.le_refl _, hV.out⟩, hbel.out⟩

end Go.Proofs.YtbddcodljmglfaaGreatDoor

namespace Go.Proofs.YtbddcodljmglfaaGreatDoor
open Go.RowKit

/-- A trace in memory: its numbers, in digits. -/
def digs (tr : List Int) : List BA := tr.map fun n => ⟨(Lib.itoa n).toArray⟩
def traceB (tr : List Int) : BA := ⟨(Lib.join (tr.map Lib.itoa) [32]).toArray⟩
def resCells (r : RunR) : List Value := [.bool r.ended, .int .i64 r.value, .string (traceB r.trace)]
def resV (r : RunR) : Value := .agg (resCells r).toArray
theorem aggRes : AggT 30 3 [.bool false, .int .i64 0, .string ⟨#[]⟩] := ⟨⟨_, Tryz.underlying30, rfl⟩, by kernel_rfl, by kernel_rfl, rfl⟩

theorem one_res (a : Bool) (b : Int) (c : BA) : ([Value.bool a, .int .i64 b, .string c].toArray.all (·.oneCell')) = true := by simp [Value.oneCell']
structure RunIn (w wr : World) (H m : Nat) (V : List (Ver × Int)) (tv : Value) (tr : List Int) : Prop where
  res : BoxIn wr H 30 [.bool false, .int .i64 0, .string ⟨#[]⟩]
  map : VMap wr m V
  lo : H + 1 ≤ m
  trace : OwnS wr (H + 1) 9 1 tv tr.length (strs (digs tr))
  bel : Below H w wr
  fits : FitV V
  tfits : ∀ n ∈ tr, fits64 n

section
variable {w wr w' : World} {H m : Nat} {V : List (Ver × Int)} {tv : Value} {tr : List Int}
theorem RunIn.hi (h : RunIn w wr H m V tv tr) : H + 1 ≤ wr.heap.size := h.res.lt
theorem RunIn.below (h : RunIn w wr H m V tv tr) (hb : Below wr.heap.size wr w') : RunIn w w' H m V tv tr :=
  ⟨h.res.below hb, h.map.below hb, h.lo, h.trace.of_block fun k hk => hb.block k (h.trace.lt k hk).2, h.bel.trans (hb.mono (by have := h.hi; omega)), h.fits, h.tfits⟩
/-- The map's block is not the trace's row. -/
theorem RunIn.apart (h : RunIn w wr H m V tv tr) : tv.ownBlock ≠ some m := by
  intro e
  obtain ⟨es, c, hm, -⟩ := h.map
  rcases h.trace.2 with ⟨h1, -⟩ | ⟨g, off, cap, cur, h1, -, h2, -⟩
  · rw [h1] at e; simp [Value.ownBlock] at e
  · rw [h1] at e
    simp [Value.ownBlock] at e
    subst e
    rw [hm] at h2
    cases h2
/-- A variable is set. -/
theorem RunIn.update (h : RunIn w wr H m V tv tr) {V' : List (Ver × Int)} (hm : VMap w' m V') (hf : FitV V') (ho : ∀ k, k ≠ m → w'.heap[k]? = wr.heap[k]?) (hs : w'.heap.size = wr.heap.size) (h1 : w'.os = wr.os) (h2 : w'.tape = wr.tape) (h3 : w'.output = wr.output) : RunIn w w' H m V' tv tr := by
  have hlo := h.lo
  have hhi := h.hi
  refine ⟨h.res.of_block (ho _ (by omega)), hm, h.lo, h.trace.of_block fun k hk => ho k (fun e => h.apart (by rw [← e]; exact hk)), h.bel.trans ⟨h1, h2, h3, Nat.le_of_eq hs.symm, fun k hk => ho k (by omega)⟩, hf, h.tfits⟩
/-- A number is put out. -/
theorem RunIn.put (h : RunIn w wr H m V tv tr) {o : Obj} {tv' : Value} {n : Int} (ho : OwnS w' (H + 1) 9 1 tv' (tr.length + 1) (strs (digs tr) ++ [.string ⟨(Lib.itoa n).toArray⟩])) (hg : (wr.alloc o).grownBy w' tv.ownBlock) (hn : fits64 n) : RunIn w w' H m V tv' (tr ++ [n]) := by
  have hhi := h.hi
  have hb : Below (H + 1) wr w' := grown_below h.trace hg (by omega)
  refine ⟨h.res.of_block (hb.block _ (by omega)), ?_, h.lo, ?_, h.bel.trans (hb.mono (by omega)), h.fits, fun x hx => ?_⟩
  · refine h.map.of_block ?_
    rw [hg.block m (by simp; have := h.map.lt; omega) (fun e => h.apart e.symm), Below.heap_alloc wr o m h.map.lt]
  · have : strs (digs (tr ++ [n])) = strs (digs tr) ++ [.string ⟨(Lib.itoa n).toArray⟩] := by simp [strs, digs]
    rw [this, List.length_append]
    exact ho
  · rcases List.mem_append.1 hx with hx | hx
    · exact h.tfits x hx
    · rw [List.mem_singleton] at hx; subst hx; exact hn
end

theorem digs_join (tr : List Int) : (digs tr).map (·.data.toList) = tr.map Lib.itoa := by
  simp [digs]
theorem lens_le (tr : List Int) (h : ∀ n ∈ tr, fits64 n) : Lib.lens (tr.map Lib.itoa) ≤ 21 * tr.length := by
  induction tr with
  | nil => simp [Lib.lens]
  | cons a r ih =>
    have h1 := Lib.itoa_length_le a (h a (by simp)).1 (h a (by simp)).2
    have h2 := ih fun n hn => h n (List.mem_cons_of_mem _ hn)
    simp only [List.map_cons, Lib.lens, List.length_cons, List.sum_cons] at *
    omega
theorem join_any (W : World) (base : Nat) (tv : Value) (tr : List Int) (hl : tr.length ≤ 1000000) (hf : ∀ n ∈ tr, fits64 n) (h : OwnS W base 9 1 tv tr.length (strs (digs tr))) :
    Calls Tryz.prog 66 #[tv, .string ⟨#[32]⟩] W fun e w' => e = .returned (.string (traceB tr)) ∧ Below W.heap.size W w' := by
  obtain ⟨ao, cp, rfl, hcp, hc⟩ := h.rdT.cell
  by_cases h0 : tr.length = 0
  · obtain rfl := List.eq_nil_of_length_eq_zero h0
    refine (Tryz.strings_Join_none ao cp ⟨#[32]⟩ W).mono ?_
    rintro e w' ⟨rfl, rfl⟩
    exact ⟨rfl, Below.refl _ _⟩
  · obtain ⟨g, off, rfl, hg, hx⟩ := hc (by omega)
    have hd : (digs tr).length = tr.length := by simp [digs]
    have := Tryz.strings_Join g off cp (digs tr) ⟨#[32]⟩ W (fun j x hx' => hx j _ (by simp [strs, hx'])) hg (by omega) (by omega) (by
      rw [digs_join]
      have hl2 := lens_le tr hf
      cases tr with
      | nil => simp at h0
      | cons a r =>
        rw [List.map_cons, Lib.join_length]
        simp only [List.length_map, List.length_cons, List.map_cons] at *
        show 1 * _ + _ ≤ _
        omega)
    rw [hd] at this
    refine this.mono ?_
    rintro e w' ⟨rfl, hb⟩
    refine ⟨?_, hb⟩
    rw [digs_join]
    rfl

end Go.Proofs.YtbddcodljmglfaaGreatDoor
