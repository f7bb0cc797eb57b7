/- The document's variables: get and put. -/
import Derived.Test.YtbddcodljmglfaaGreatDoorRT13
import Derived.Test.YtbddcodljmglfaaGreatDoorRunFns
set_option linter.unusedSimpArgs false
set_option linter.unusedVariables false
namespace Go.Proofs.YtbddcodljmglfaaGreatDoor
open Go.RowKit

/-- The document's variables in memory: V, all with the number 0. -/
structure VarsIn (base : Nat) (w : World) (vb : Nat) (V : List (Ver × Int)) (nv vv : Value) : Prop where
  box : BoxIn w vb 126 [nv, vv]
  names : OwnS w base 9 1 nv V.length (strs (V.map (·.1.1)))
  values : OwnS w base 2 1 vv V.length (ints (V.map (·.2)))
  zero : ∀ x ∈ V, x.1.2 = 0
  lo : base ≤ vb
  few : V.length ≤ 1000000

theorem getV_step {V : List (Ver × Int)} {p : Ver} : ∀ (k : Nat) (hk : k < V.length), (∀ j (hj : j < V.length), j < k → V[j].1 ≠ p) → V[k].1 = p → getV V p = V[k].2 := by
  intro k
  induction k generalizing V with
  | zero =>
    intro hk _ he
    cases V with
    | nil => simp at hk
    | cons x r => simp at he; simp [getV, he]
  | succ k ih =>
    intro hk hn he
    cases V with
    | nil => simp at hk
    | cons x r =>
      have h0 : x.1 ≠ p := hn 0 (by simp) (by omega)
      have h0' : ¬ p = x.1 := fun h => h0 h.symm
      have : getV (x :: r) p = getV r p := by simp [getV, h0']
      rw [this, List.getElem_cons_succ]
      exact ih (by simpa using hk) (fun j hj hlt => hn (j + 1) (by simpa using hj) (by omega)) (by simpa using he)
theorem name_eq {V : List (Ver × Int)} (hz : ∀ x ∈ V, x.1.2 = 0) {k : Nat} (hk : k < V.length) (x : BA) : V[k].1 = (x, 0) ↔ ByteArray.toList V[k].1.1 = ByteArray.toList x := by
  have := hz _ (List.getElem_mem hk)
  constructor
  · intro h; rw [h]
  · intro h; exact Prod.ext (ba_ext h) this

set_option maxRecDepth 100000 in
set_option maxHeartbeats 4000000 in
theorem get_any (w : World) (base vb : Nat) (V : List (Ver × Int)) (nv vv : Value) (x : BA) (h : VarsIn base w vb V nv vv) :
    Calls Tryz.prog 76 #[.pointer (some ⟨vb, 0, none⟩), .string x] w fun e w' => e = .returned (.int .i64 (getV V (x, 0))) ∧ w' = w := by
  obtain ⟨ao, cp, rfl, hcp, hcl⟩ := h.names.rdT.cell
  obtain ⟨ao2, cp2, rfl, hcp2, hcl2⟩ := h.values.rdT.cell
  have T0 : w.cell? ⟨vb, 0, none⟩ = some (.slice ao V.length cp) := h.box.cell rfl
  have T1 : w.cell? ⟨vb, 1, none⟩ = some (.slice ao2 V.length cp2) := h.box.cell rfl
  have HZ : Hid (∀ x ∈ V, x.1.2 = 0) := h.zero
  have hfew := h.few
  obtain ⟨N, hN⟩ : ∃ N, N = V.length := ⟨_, rfl⟩
  have HN : Hid (N = V.length) := hN
  rw [← hN] at T0 T1 hcl hcl2 hfew
  clear hN h
  go_enter Tryz.func76, Tryz.ntmps76
  go_wp2_with fail
  go_loopg [5] N (fun g v5 wr => ∃ k : Nat, k + g = N ∧ v5 = .int .i64 k ∧ wr = w ∧ Hid (∀ j (hj : j < V.length), j < k → V[j].1 ≠ (x, 0)))
  case atStart => exact ⟨0, by omega, rfl, rfl, fun j hj h => absurd h (by omega)⟩
  case round =>
    obtain ⟨k, hkg, rfl, hwr, hno⟩ := hrel
    subst hwr
    by_cases hkN : k < N
    · have hlt : k < V.length := by rw [← HN.out]; exact hkN
      obtain ⟨g, off, rfl, hg, hx⟩ := hcl (by omega)
      obtain ⟨g2, off2, rfl, hg2, hx2⟩ := hcl2 (by omega)
      have c1 : wr.cell? ⟨g, off + k, none⟩ = some (.string V[k].1.1) := hx k _ (by simp [strs, hlt])
      have c2 : wr.cell? ⟨g2, off2 + k, none⟩ = some (.int .i64 V[k].2) := hx2 k _ (by simp [ints, hlt])
      have hk0 : (0 : Int) ≤ (k : Int) := by omega
      have hk1 : (k : Int) < (N : Int) := by omega
      have hiff := name_eq HZ.out hlt x
      by_cases he : ByteArray.toList V[k].1.1 = ByteArray.toList x
      · have hb : (ByteArray.toList V[k].1.1 == ByteArray.toList x) = true := by simpa using he
        have HG : Hid (getV V (x, 0) = V[k].2) := getV_step k hlt hno.out (hiff.2 he)
        generalize V[k].1.1 = nm at *
        generalize V[k].2 = val at *
        clear hiff hx hx2 he
        go_wp2_with fail
        go_ret
        rw [HG.out]
        exact ⟨rfl, rfl⟩
      · have hb : (ByteArray.toList V[k].1.1 == ByteArray.toList x) = false := by simpa using he
        have HNO : Hid (∀ j (hj : j < V.length), j < k + 1 → V[j].1 ≠ (x, 0)) := by
          intro j hj hlt2
          rcases Nat.lt_or_eq_of_le (Nat.le_of_lt_succ hlt2) with h | h
          · exact hno.out j hj h
          · subst h; exact fun e => he (hiff.1 e)
        generalize V[k].1.1 = nm at c1 hb
        clear hiff hx hx2 he hno c2
        go_wp2_with fail
        go_roundg (N - (k + 1))
        case measure => omega
        case rel => exact ⟨k + 1, by omega, by go_num, rfl, HNO⟩
    · have HG : Hid (getV V (x, 0) = 0) := by
        apply getV_none
        intro hm
        obtain ⟨y, hy, he⟩ := List.mem_map.1 hm
        obtain ⟨j, hj, rfl⟩ := List.getElem_of_mem hy
        exact hno.out j hj (by have := HN.out; omega) he
      clear hno
      go_wp2_with fail
      go_ret
      rw [HG.out]
      exact ⟨rfl, rfl⟩

theorem own_frozen {w : World} {base : Nat} {e : TypeId} {g off n cap : Nat} {xs : List Value} (h : OwnS w base e 1 (.slice (some ⟨g, off, none⟩) n cap) n xs) (k : Nat) : w.frozen? ⟨g, k, none⟩ = false := by
  rcases h.2 with ⟨h1, -⟩ | ⟨g', off', cap', cur, h1, h2, h3, -⟩
  · cases h1
  · injection h1 with h1
    injection h1 with h1
    injection h1 with h1 _ _
    subst h1
    unfold World.frozen?
    rw [h3]
    simp
theorem OwnS.setAt {w : World} {base : Nat} {e : TypeId} {g off n cap : Nat} {xs : List Value} (h : OwnS w base e 1 (.slice (some ⟨g, off, none⟩) n cap) n xs) {k : Nat} (hk : k < n) (u : Value) : OwnS (w.setCell ⟨g, off + k, none⟩ u) base e 1 (.slice (some ⟨g, off, none⟩) n cap) n (xs.set k u) := by
  obtain ⟨hl, h⟩ := h
  refine ⟨by simpa using hl, ?_⟩
  rcases h with ⟨h1, -⟩ | ⟨g', off', cap', cur, h1, h2, h3, h4, h5, h6, h7⟩
  · cases h1
  · injection h1 with h1 _ h8
    injection h1 with h1
    injection h1 with h1 h9 _
    subst h1 h9 h8
    refine .inr ⟨g, off, cap, cur.setIfInBounds (off + k) u, rfl, h2, set_block h3 u, h4, h5, by simpa using h6, fun j y hj => ?_⟩
    have hkl : k < xs.length := by omega
    by_cases hjk : j = k
    · subst hjk
      rw [List.getElem?_set_self hkl] at hj
      injection hj with hj
      subst hj
      have := h7 j xs[j] (List.getElem?_eq_getElem hkl)
      have hlt : off + j < cur.size := by
        rcases Nat.lt_or_ge (off + j) cur.size with hh | hh
        · exact hh
        · rw [Array.getElem?_eq_none hh] at this; cases this
      rw [Array.getElem?_setIfInBounds_self_of_lt hlt]
    · rw [List.getElem?_set_ne (fun e => hjk e.symm)] at hj
      rw [Array.getElem?_setIfInBounds_ne (by omega)]
      exact h7 j y hj

theorem set_keeps {w : World} {b i : Nat} {c : Array Value} {t t' : TypeId} {fr : Nat × Nat} (h : w.heap[b]? = some (.cells c t fr)) (hne : t ≠ t') (u : Value) : Keeps t' w (w.setCell ⟨b, i, none⟩ u) := by
  intro g cur fr' hg
  rw [Below.heap_setCell _ _ _ _ ?_]
  · exact hg
  · show g ≠ b
    rintro rfl
    rw [h] at hg
    injection hg with hg
    injection hg with _ h2 _
    exact hne h2
/-- What put does to the list. -/
theorem putV_at {V : List (Ver × Int)} {p : Ver} {n : Int} (hn : (V.map (·.1)).Nodup) {k : Nat} (hk : k < V.length) (he : V[k].1 = p) : putV V p n = V.set k (p, n) := by
  have hm : hasV V p = true := hasV_iff.2 (List.mem_map.2 ⟨V[k], List.getElem_mem hk, he⟩)
  unfold putV
  rw [if_pos hm]
  apply List.ext_getElem?
  intro i
  rw [List.getElem?_map]
  by_cases hik : k = i
  · subst hik
    rw [List.getElem?_set_self hk, List.getElem?_eq_getElem hk]
    simp [he]
  · rw [List.getElem?_set_ne hik]
    cases hi : V[i]? with
    | none => rfl
    | some y =>
      have hy : y.1 ≠ p := by
        intro e
        obtain ⟨hi1, hi2⟩ := List.getElem?_eq_some_iff.1 hi
        have a1 : (V.map (·.1))[i]'(by simpa using hi1) = (V.map (·.1))[k]'(by simpa using hk) := by simp [hi2, e, he]
        exact hik ((List.getElem_inj (h₀ := by simpa using hi1) (h₁ := by simpa using hk) hn).1 a1).symm
      simp [hy]
theorem putV_new {V : List (Ver × Int)} {p : Ver} {n : Int} (h : p ∉ V.map (·.1)) : putV V p n = V ++ [(p, n)] := by
  unfold putV
  rw [if_neg (fun e => h (hasV_iff.1 e))]

set_option maxRecDepth 100000 in
set_option maxHeartbeats 4000000 in
theorem put_any (w : World) (base vb : Nat) (V : List (Ver × Int)) (nv vv : Value) (x : BA) (n : Int) (h : VarsIn base w vb V nv vv) (hnd : (V.map (·.1)).Nodup) (hb : base ≤ w.heap.size) (hfew : V.length ≤ 999999) :
    Calls Tryz.prog 74 #[.pointer (some ⟨vb, 0, none⟩), .string x, .int .i64 n] w fun e w' => e = .returned (.tuple #[]) ∧ (∃ nv' vv', VarsIn base w' vb (putV V (x, 0) n) nv' vv') ∧ Below base w w' ∧ Keeps 44 w w' := by
  obtain ⟨ao, cp, rfl, hcp, hcl⟩ := h.names.rdT.cell
  obtain ⟨ao2, cp2, rfl, hcp2, hcl2⟩ := h.values.rdT.cell
  have T0 : w.cell? ⟨vb, 0, none⟩ = some (.slice ao V.length cp) := h.box.cell rfl
  have T1 : w.cell? ⟨vb, 1, none⟩ = some (.slice ao2 V.length cp2) := h.box.cell rfl
  have HZ : Hid (∀ x ∈ V, x.1.2 = 0) := h.zero
  have HND : Hid ((V.map (·.1)).Nodup) := hnd
  have HV : Hid (VarsIn base w vb V (.slice ao V.length cp) (.slice ao2 V.length cp2)) := h
  obtain ⟨N, hN⟩ : ∃ N, N = V.length := ⟨_, rfl⟩
  have HN : Hid (N = V.length) := hN
  rw [← hN] at T0 T1 hcl hcl2 hfew
  clear hN h hnd
  go_enter Tryz.func74, Tryz.ntmps74
  go_wp2_with fail
  go_loopg [6] N (fun g v6 wr => ∃ k : Nat, k + g = N ∧ v6 = .int .i64 k ∧ wr = w ∧ Hid (∀ j (hj : j < V.length), j < k → V[j].1 ≠ (x, 0)))
  case atStart => exact ⟨0, by omega, rfl, rfl, fun j hj h => absurd h (by omega)⟩
  case round =>
    obtain ⟨k, hkg, rfl, hwr, hno⟩ := hrel
    subst hwr
    by_cases hkN : k < N
    · have hlt : k < V.length := by rw [← HN.out]; exact hkN
      obtain ⟨g, off, rfl, hg, hx⟩ := hcl (by omega)
      obtain ⟨g2, off2, rfl, hg2, hx2⟩ := hcl2 (by omega)
      have c1 : wr.cell? ⟨g, off + k, none⟩ = some (.string V[k].1.1) := hx k _ (by simp [strs, hlt])
      have c2 : wr.cell? ⟨g2, off2 + k, none⟩ = some (.int .i64 V[k].2) := hx2 k _ (by simp [ints, hlt])
      have hk0 : (0 : Int) ≤ (k : Int) := by omega
      have hk1 : (k : Int) < (N : Int) := by omega
      have hiff := name_eq HZ.out hlt x
      by_cases he : ByteArray.toList V[k].1.1 = ByteArray.toList x
      · have hbe : (ByteArray.toList V[k].1.1 == ByteArray.toList x) = true := by simpa using he
        have HG : Hid (putV V (x, 0) n = V.set k ((x, 0), n)) := putV_at HND.out hlt (hiff.2 he)
        have f2 : wr.frozen? ⟨g2, off2 + k, none⟩ = false := own_frozen HV.out.values _
        have HKE : Hid (V[k].1 = (x, 0)) := hiff.2 he
        generalize V[k].1.1 = nm at c1 hbe
        generalize V[k].2 = val at c2
        clear hiff hx hx2 he
        go_wp2_with fail
        refine bodyPost_ret (results_none rfl _ _ _) rfl ?_
        obtain ⟨cur2, hcur2⟩ : ∃ cur, wr.heap[g2]? = some (.cells cur 2 (0, 0)) := by
          rcases HV.out.values.2 with ⟨h1, -⟩ | ⟨g', off', cap', cur, h1, h2, h3, -⟩
          · cases h1
          · injection h1 with h1
            injection h1 with h1
            injection h1 with h1 _ _
            subst h1
            exact ⟨cur, h3⟩
        refine ⟨rfl, ⟨.slice (some ⟨g, off, none⟩) V.length cp, .slice (some ⟨g2, off2, none⟩) V.length cp2, ?_⟩, (Below.refl _ _).setCell (HV.out.values.lt g2 rfl).1 _, set_keeps hcur2 (by decide) _⟩
        have hl : (V.set k ((x, 0), n)).length = V.length := by simp
        have hval : ints ((V.set k ((x, 0), n)).map (·.2)) = (ints (V.map (·.2))).set k (.int .i64 n) := by simp [ints, List.map_set]
        have hnam : (V.set k ((x, 0), n)).map (·.1.1) = V.map (·.1.1) := by
          apply List.ext_getElem?
          intro i
          rw [List.getElem?_map, List.getElem?_map]
          by_cases hik : k = i
          · subst hik
            rw [List.getElem?_set_self hlt, List.getElem?_eq_getElem hlt]
            simp [HKE.out]
          · rw [List.getElem?_set_ne hik]
        rw [HG.out]
        have hbox := HV.out.box
        refine ⟨hbox.of_block (Below.heap_setCell _ _ _ _ ?_), ?_, ?_, fun y hy => ?_, HV.out.lo, by rw [hl]; exact HV.out.few⟩
        · show vb ≠ g2
          rintro rfl
          rw [show wr.heap[vb]? = _ from hbox] at hcur2
          simp at hcur2
        · rw [hl, hnam]
          exact HV.out.names.set_other hcur2 (by decide) _
        · rw [hl, hval]
          exact HV.out.values.setAt hlt _
        · rcases List.mem_or_eq_of_mem_set hy with h | h
          · exact HZ.out y h
          · rw [h]
      · have hbe : (ByteArray.toList V[k].1.1 == ByteArray.toList x) = false := by simpa using he
        have HNO : Hid (∀ j (hj : j < V.length), j < k + 1 → V[j].1 ≠ (x, 0)) := by
          intro j hj hlt2
          rcases Nat.lt_or_eq_of_le (Nat.le_of_lt_succ hlt2) with h | h
          · exact hno.out j hj h
          · subst h; exact fun e => he (hiff.1 e)
        generalize V[k].1.1 = nm at c1 hbe
        clear hiff hx hx2 he hno c2
        go_wp2_with fail
        go_roundg (N - (k + 1))
        case measure => omega
        case rel => exact ⟨k + 1, by omega, by go_num, rfl, HNO⟩
    · have hnm : Hid ((x, 0) ∉ V.map (·.1)) := by
        intro hm
        obtain ⟨y, hy, he⟩ := List.mem_map.1 hm
        obtain ⟨j, hj, rfl⟩ := List.getElem_of_mem hy
        exact hno.out j hj (by have := HN.out; omega) he
      clear hno
      obtain ⟨i0, hi, hz0, hz1, hz2⟩ := info_parts infoString
      obtain ⟨j0, hj, hy0, hy1, hy2⟩ := info_parts infoInt64
      have hval := HV.out.values
      have hnam := HV.out.names
      rw [← HN.out] at hval hnam
      have HVA : Hid (OwnS wr base 2 1 (.slice ao2 N cp2) N (ints (V.map (·.2)))) := hval
      have HNA : Hid (OwnS wr base 9 1 (.slice ao N cp) N (strs (V.map (·.1.1)))) := hnam
      have HBX : Hid (BoxIn wr vb 126 [.slice ao N cp, .slice ao2 N cp2]) := by have := HV.out.box; rw [← HN.out] at this; exact this
      have hlo := HV.out.lo
      clear hval hnam
      go_wp2_with (first
        | (at_builtin; refine wpList_append_ownS _ rfl _ _ 62 rfl base 9 i0 (.string ByteArray.empty) 1 16 Tryz.underlying62 hi hz0 hz1 hz2 rfl (by decide) _ _ _ rfl (HNA.out.alloc _) ⟨wr.heap.size, 0, none⟩ 1 1 [.string x] rfl rfl (cell_newL _ [_] _ _ rfl) (one1 rfl) (by decide) (by unfold maxLen; omega) (by omega) (by simp; omega) ?_; intro g' off' cap' w7 hown7 hgrow7 hloc7 hlt7; have hb7 := grown_box HNA.out hgrow7 HBX.out (by decide); have c70 := BoxIn.cell hb7 (k := 0) rfl; have f70 := BoxIn.frozen hb7 0; have HB7 : Hid (BoxIn w7 vb _ _) := hb7; have HO7 : Hid (OwnS w7 base 9 1 (.slice (some ⟨g', off', none⟩) (N + 1) cap') (N + 1) (strs (V.map (·.1.1)) ++ [.string x])) := hown7; have HV7 : Hid (OwnS w7 base 2 1 (.slice ao2 N cp2) N (ints (V.map (·.2)))) := grown_own HNA.out hgrow7 HVA.out (by decide); have HL7 : Hid (Below base wr w7) := grown_below HNA.out hgrow7 hb; have HK7 : Hid (Keeps 44 wr w7) := grown_keeps HNA.out hgrow7 (by decide); have c71 : ∀ u, (w7.setCell ⟨vb, 0, none⟩ u).cell? ⟨vb, 1, none⟩ = some (.slice ao2 N cp2) := (fun u => (by rw [World.cell?_setCell_other _ _ _ _ (by simp)]; exact BoxIn.cell HB7.out (k := 1) rfl)); clear hown7 hgrow7 hloc7 hb7)
        | (at_builtin; refine wpList_append_ownS _ rfl _ _ 24 rfl base 2 j0 (.int .i64 0) 1 8 Tryz.underlying24 hj hy0 hy1 hy2 rfl (by decide) _ _ _ rfl ((HV7.out.set_other HB7.out (by decide) _).alloc _) ⟨w7.heap.size, 0, none⟩ 1 1 [.int .i64 n] rfl rfl (cell_newL _ [_] _ _ (by simp [World.setCell])) (one1 rfl) (by decide) (by unfold maxLen; omega) (by omega) (by have := HL7.out.size; simp [World.setCell]; omega) ?_; intro g9 off9 cap9 w9 hown9 hgrow9 hloc9 hlt9; have hb9 := grown_box (HV7.out.set_other HB7.out (by decide) _) hgrow9 (BoxIn.set (i := 0) (u := .slice (some ⟨g', off', none⟩) (N + 1) cap') HB7.out) (by decide); have c91 := BoxIn.cell hb9 (k := 1) rfl; have f91 := BoxIn.frozen hb9 1; have HB9 : Hid (BoxIn w9 vb 126 [.slice (some ⟨g', off', none⟩) (N + 1) cap', .slice ao2 N cp2]) := hb9; have HO9 : Hid (OwnS w9 base 2 1 (.slice (some ⟨g9, off9, none⟩) (N + 1) cap9) (N + 1) (ints (V.map (·.2)) ++ [.int .i64 n])) := hown9; have HN9 : Hid (OwnS w9 base 9 1 (.slice (some ⟨g', off', none⟩) (N + 1) cap') (N + 1) (strs (V.map (·.1.1)) ++ [.string x])) := grown_own (HV7.out.set_other HB7.out (by decide) _) hgrow9 (HO7.out.set_other HB7.out (by decide) _) (by decide); have HK9 : Hid (Keeps 44 wr w9) := (HK7.out.trans (set_keeps HB7.out (by decide) _)).trans (grown_keeps (HV7.out.set_other HB7.out (by decide) _) hgrow9 (by decide)); have HL9 : Hid (Below base wr w9) := (HL7.out.setCell hlo _).trans (grown_below (HV7.out.set_other HB7.out (by decide) _) hgrow9 (by have := HL7.out.size; simp [World.setCell]; omega)); clear hown9 hgrow9 hloc9 hb9))
      go_end0
      refine ⟨rfl, ⟨.slice (some ⟨g', off', none⟩) (N + 1) cap', .slice (some ⟨g9, off9, none⟩) (N + 1) cap9, ?_⟩, HL9.out.setCell hlo _, HK9.out.trans (set_keeps HB9.out (by decide) _)⟩
      rw [putV_new hnm.out]
      refine ⟨HB9.out.set (i := 1), ?_, ?_, fun y hy => ?_, hlo, by simp; have := HN.out; omega⟩
      · rw [List.length_append, ← HN.out, List.map_append]
        have e : strs (V.map (·.1.1) ++ [((x, 0), n)].map (·.1.1)) = strs (V.map (·.1.1)) ++ [.string x] := by simp [strs]
        rw [e]
        exact HN9.out.set_other HB9.out (by decide) _
      · rw [List.length_append, ← HN.out, List.map_append]
        have e : ints (V.map (·.2) ++ [((x, (0 : Nat)), n)].map (·.2)) = ints (V.map (·.2)) ++ [.int .i64 n] := by simp [ints]
        rw [e]
        exact HO9.out.set_other HB9.out (by decide) _
      · rcases List.mem_append.1 hy with h | h
        · exact HZ.out y h
        · rw [List.mem_singleton] at h; rw [h]

end Go.Proofs.YtbddcodljmglfaaGreatDoor
