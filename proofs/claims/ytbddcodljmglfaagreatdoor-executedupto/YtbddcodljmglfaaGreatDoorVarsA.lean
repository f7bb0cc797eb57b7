/- The document's variables: get and put. And what follows on it. -/
import Derived.Test.YtbddcodljmglfaaGreatDoorTextB
import Derived.Test.YtbddcodljmglfaaGreatDoorRunB
import Derived.Laws.IdiomStrings
set_option linter.unusedSimpArgs false
set_option linter.unusedVariables false
namespace Go.Proofs.YtbddcodljmglfaaGreatDoor
open Go.RowKit

/-- The document's variables in memory: V, all with the number 0. -/
structure VarsIn (base : Nat) (w : World) (vb : Nat) (V : List (Ver × Int)) (nv vv : Value) : Prop where
  box : BoxIn w vb 126 [nv, vv]
  names : OwnS w base 9 1 nv V.length (strs (V.map (·.1.1)))
  values : OwnS w base 2 1 vv V.length (ints (V.map (·.2)))
  zero : ∀ x ∈ V, x.1.2 = 0
  lo : base ≤ vb
  few : V.length ≤ 1000000

theorem getV_step {V : List (Ver × Int)} {p : Ver} : ∀ (k : Nat) (hk : k < V.length), (∀ j (hj : j < V.length), j < k → V[j].1 ≠ p) → V[k].1 = p → getV V p = V[k].2 := by
  intro k
  induction k generalizing V with
  | zero =>
    intro hk _ he
    cases V with
    | nil => simp at hk
    | cons x r => simp at he; simp [getV, he]
  | succ k ih =>
    intro hk hn he
    cases V with
    | nil => simp at hk
    | cons x r =>
      have h0 : x.1 ≠ p := hn 0 (by simp) (by omega)
      have h0' : ¬ p = x.1 := fun h => h0 h.symm
      have : getV (x :: r) p = getV r p := by simp [getV, h0']
      rw [this, List.getElem_cons_succ]
      exact ih (by simpa using hk) (fun j hj hlt => hn (j + 1) (by simpa using hj) (by omega)) (by simpa using he)
theorem name_eq {V : List (Ver × Int)} (hz : ∀ x ∈ V, x.1.2 = 0) {k : Nat} (hk : k < V.length) (x : BA) : V[k].1 = (x, 0) ↔ ByteArray.toList V[k].1.1 = ByteArray.toList x := by
  have := hz _ (List.getElem_mem hk)
  constructor
  · intro h; rw [h]
  · intro h; exact Prod.ext (ba_ext h) this

set_option maxRecDepth 100000 in
set_option maxHeartbeats 4000000 in
theorem get_any (w : World) (base vb : Nat) (V : List (Ver × Int)) (nv vv : Value) (x : BA) (h : VarsIn base w vb V nv vv) :
    Calls Tryz.prog 76 #[.pointer (some ⟨vb, 0, none⟩), .string x] w fun e w' => e = .returned (.int .i64 (getV V (x, 0))) ∧ w' = w := by
  obtain ⟨ao, cp, rfl, hcp, hcl⟩ := h.names.rdT.cell
  obtain ⟨ao2, cp2, rfl, hcp2, hcl2⟩ := h.values.rdT.cell
  have T0 : w.cell? ⟨vb, 0, none⟩ = some (.slice ao V.length cp) := h.box.cell rfl
  have T1 : w.cell? ⟨vb, 1, none⟩ = some (.slice ao2 V.length cp2) := h.box.cell rfl
  have HZ : Hid (∀ x ∈ V, x.1.2 = 0) := h.zero
  have hfew := h.few
  obtain ⟨N, hN⟩ : ∃ N, N = V.length := ⟨_, rfl⟩
  have HN : Hid (N = V.length) := hN
  rw [← hN] at T0 T1 hcl hcl2 hfew
  clear hN h
  go_enter Tryz.func76, Tryz.ntmps76
  go_wp2_with fail
  go_loopg [5] N (fun g v5 wr => ∃ k : Nat, k + g = N ∧ v5 = .int .i64 k ∧ wr = w ∧ Hid (∀ j (hj : j < V.length), j < k → V[j].1 ≠ (x, 0)))
  case atStart => exact ⟨0, by omega, rfl, rfl, fun j hj h => absurd h (by omega)⟩
  case round =>
    obtain ⟨k, hkg, rfl, hwr, hno⟩ := hrel
    subst hwr
    by_cases hkN : k < N
    · have hlt : k < V.length := by rw [← HN.out]; exact hkN
      obtain ⟨g, off, rfl, hg, hx⟩ := hcl (by omega)
      obtain ⟨g2, off2, rfl, hg2, hx2⟩ := hcl2 (by omega)
      have c1 : wr.cell? ⟨g, off + k, none⟩ = some (.string V[k].1.1) := hx k _ (by simp [strs, hlt])
      have c2 : wr.cell? ⟨g2, off2 + k, none⟩ = some (.int .i64 V[k].2) := hx2 k _ (by simp [ints, hlt])
      have hk0 : (0 : Int) ≤ (k : Int) := by omega
      have hk1 : (k : Int) < (N : Int) := by omega
      have hiff := name_eq HZ.out hlt x
      by_cases he : ByteArray.toList V[k].1.1 = ByteArray.toList x
      · have hb : (ByteArray.toList V[k].1.1 == ByteArray.toList x) = true := by simpa using he
        have HG : Hid (getV V (x, 0) = V[k].2) := getV_step k hlt hno.out (hiff.2 he)
        generalize V[k].1.1 = nm at *
        generalize V[k].2 = val at *
        clear hiff hx hx2 he
        go_wp2_with fail
        go_ret
        rw [HG.out]
        exact ⟨rfl, rfl⟩
      · have hb : (ByteArray.toList V[k].1.1 == ByteArray.toList x) = false := by simpa using he
        have HNO : Hid (∀ j (hj : j < V.length), j < k + 1 → V[j].1 ≠ (x, 0)) := by
          intro j hj hlt2
          rcases Nat.lt_or_eq_of_le (Nat.le_of_lt_succ hlt2) with h | h
          · exact hno.out j hj h
          · subst h; exact fun e => he (hiff.1 e)
        generalize V[k].1.1 = nm at c1 hb
        clear hiff hx hx2 he hno c2
        go_wp2_with fail
        go_roundg (N - (k + 1))
        case measure => omega
        case rel => exact ⟨k + 1, by omega, by go_num, rfl, HNO⟩
    · have HG : Hid (getV V (x, 0) = 0) := by
        apply getV_none
        intro hm
        obtain ⟨y, hy, he⟩ := List.mem_map.1 hm
        obtain ⟨j, hj, rfl⟩ := List.getElem_of_mem hy
        exact hno.out j hj (by have := HN.out; omega) he
      clear hno
      go_wp2_with fail
      go_ret
      rw [HG.out]
      exact ⟨rfl, rfl⟩

theorem own_frozen {w : World} {base : Nat} {e : TypeId} {g off n cap : Nat} {xs : List Value} (h : OwnS w base e 1 (.slice (some ⟨g, off, none⟩) n cap) n xs) (k : Nat) : w.frozen? ⟨g, k, none⟩ = false := by
  rcases h.2 with ⟨h1, -⟩ | ⟨g', off', cap', cur, h1, h2, h3, -⟩
  · cases h1
  · injection h1 with h1
    injection h1 with h1
    injection h1 with h1 _ _
    subst h1
    unfold World.frozen?
    rw [h3]
    simp
theorem OwnS.setAt {w : World} {base : Nat} {e : TypeId} {g off n cap : Nat} {xs : List Value} (h : OwnS w base e 1 (.slice (some ⟨g, off, none⟩) n cap) n xs) {k : Nat} (hk : k < n) (u : Value) : OwnS (w.setCell ⟨g, off + k, none⟩ u) base e 1 (.slice (some ⟨g, off, none⟩) n cap) n (xs.set k u) := by
  obtain ⟨hl, h⟩ := h
  refine ⟨by simpa using hl, ?_⟩
  rcases h with ⟨h1, -⟩ | ⟨g', off', cap', cur, h1, h2, h3, h4, h5, h6, h7⟩
  · cases h1
  · injection h1 with h1 _ h8
    injection h1 with h1
    injection h1 with h1 h9 _
    subst h1 h9 h8
    refine .inr ⟨g, off, cap, cur.setIfInBounds (off + k) u, rfl, h2, set_block h3 u, h4, h5, by simpa using h6, fun j y hj => ?_⟩
    have hkl : k < xs.length := by omega
    by_cases hjk : j = k
    · subst hjk
      rw [List.getElem?_set_self hkl] at hj
      injection hj with hj
      subst hj
      have := h7 j xs[j] (List.getElem?_eq_getElem hkl)
      have hlt : off + j < cur.size := by
        rcases Nat.lt_or_ge (off + j) cur.size with hh | hh
        · exact hh
        · rw [Array.getElem?_eq_none hh] at this; cases this
      rw [Array.getElem?_setIfInBounds_self_of_lt hlt]
    · rw [List.getElem?_set_ne (fun e => hjk e.symm)] at hj
      rw [Array.getElem?_setIfInBounds_ne (by omega)]
      exact h7 j y hj

theorem set_keeps {w : World} {b i : Nat} {c : Array Value} {t t' : TypeId} {fr : Nat × Nat} (h : w.heap[b]? = some (.cells c t fr)) (hne : t ≠ t') (u : Value) : Keeps t' w (w.setCell ⟨b, i, none⟩ u) := by
  intro g cur fr' hg
  rw [Below.heap_setCell _ _ _ _ ?_]
  · exact hg
  · show g ≠ b
    rintro rfl
    rw [h] at hg
    injection hg with hg
    injection hg with _ h2 _
    exact hne h2
/-- What put does to the list. -/
theorem putV_at {V : List (Ver × Int)} {p : Ver} {n : Int} (hn : (V.map (·.1)).Nodup) {k : Nat} (hk : k < V.length) (he : V[k].1 = p) : putV V p n = V.set k (p, n) := by
  have hm : hasV V p = true := hasV_iff.2 (List.mem_map.2 ⟨V[k], List.getElem_mem hk, he⟩)
  unfold putV
  rw [if_pos hm]
  apply List.ext_getElem?
  intro i
  rw [List.getElem?_map]
  by_cases hik : k = i
  · subst hik
    rw [List.getElem?_set_self hk, List.getElem?_eq_getElem hk]
    simp [he]
  · rw [List.getElem?_set_ne hik]
    cases hi : V[i]? with
    | none => rfl
    | some y =>
      have hy : y.1 ≠ p := by
        intro e
        obtain ⟨hi1, hi2⟩ := List.getElem?_eq_some_iff.1 hi
        have a1 : (V.map (·.1))[i]'(by simpa using hi1) = (V.map (·.1))[k]'(by simpa using hk) := by simp [hi2, e, he]
        exact hik ((List.getElem_inj (h₀ := by simpa using hi1) (h₁ := by simpa using hk) hn).1 a1).symm
      simp [hy]
theorem putV_new {V : List (Ver × Int)} {p : Ver} {n : Int} (h : p ∉ V.map (·.1)) : putV V p n = V ++ [(p, n)] := by
  unfold putV
  rw [if_neg (fun e => h (hasV_iff.1 e))]

set_option maxRecDepth 100000 in
set_option maxHeartbeats 4000000 in
theorem put_any (w : World) (base vb : Nat) (V : List (Ver × Int)) (nv vv : Value) (x : BA) (n : Int) (h : VarsIn base w vb V nv vv) (hnd : (V.map (·.1)).Nodup) (hb : base ≤ w.heap.size) (hfew : V.length ≤ 999999) :
    Calls Tryz.prog 74 #[.pointer (some ⟨vb, 0, none⟩), .string x, .int .i64 n] w fun e w' => e = .returned (.tuple #[]) ∧ (∃ nv' vv', VarsIn base w' vb (putV V (x, 0) n) nv' vv') ∧ Below base w w' ∧ Keeps 44 w w' := by
  obtain ⟨ao, cp, rfl, hcp, hcl⟩ := h.names.rdT.cell
  obtain ⟨ao2, cp2, rfl, hcp2, hcl2⟩ := h.values.rdT.cell
  have T0 : w.cell? ⟨vb, 0, none⟩ = some (.slice ao V.length cp) := h.box.cell rfl
  have T1 : w.cell? ⟨vb, 1, none⟩ = some (.slice ao2 V.length cp2) := h.box.cell rfl
  have HZ : Hid (∀ x ∈ V, x.1.2 = 0) := h.zero
  have HND : Hid ((V.map (·.1)).Nodup) := hnd
  have HV : Hid (VarsIn base w vb V (.slice ao V.length cp) (.slice ao2 V.length cp2)) := h
  obtain ⟨N, hN⟩ : ∃ N, N = V.length := ⟨_, rfl⟩
  have HN : Hid (N = V.length) := hN
  rw [← hN] at T0 T1 hcl hcl2 hfew
  clear hN h hnd
  go_enter Tryz.func74, Tryz.ntmps74
  go_wp2_with fail
  go_loopg [6] N (fun g v6 wr => ∃ k : Nat, k + g = N ∧ v6 = .int .i64 k ∧ wr = w ∧ Hid (∀ j (hj : j < V.length), j < k → V[j].1 ≠ (x, 0)))
  case atStart => exact ⟨0, by omega, rfl, rfl, fun j hj h => absurd h (by omega)⟩
  case round =>
    obtain ⟨k, hkg, rfl, hwr, hno⟩ := hrel
    subst hwr
    by_cases hkN : k < N
    · have hlt : k < V.length := by rw [← HN.out]; exact hkN
      obtain ⟨g, off, rfl, hg, hx⟩ := hcl (by omega)
      obtain ⟨g2, off2, rfl, hg2, hx2⟩ := hcl2 (by omega)
      have c1 : wr.cell? ⟨g, off + k, none⟩ = some (.string V[k].1.1) := hx k _ (by simp [strs, hlt])
      have c2 : wr.cell? ⟨g2, off2 + k, none⟩ = some (.int .i64 V[k].2) := hx2 k _ (by simp [ints, hlt])
      have hk0 : (0 : Int) ≤ (k : Int) := by omega
      have hk1 : (k : Int) < (N : Int) := by omega
      have hiff := name_eq HZ.out hlt x
      by_cases he : ByteArray.toList V[k].1.1 = ByteArray.toList x
      · have hbe : (ByteArray.toList V[k].1.1 == ByteArray.toList x) = true := by simpa using he
        have HG : Hid (putV V (x, 0) n = V.set k ((x, 0), n)) := putV_at HND.out hlt (hiff.2 he)
        have f2 : wr.frozen? ⟨g2, off2 + k, none⟩ = false := own_frozen HV.out.values _
        have HKE : Hid (V[k].1 = (x, 0)) := hiff.2 he
        generalize V[k].1.1 = nm at c1 hbe
        generalize V[k].2 = val at c2
        clear hiff hx hx2 he
        go_wp2_with fail
        refine bodyPost_ret (results_none rfl _ _ _) rfl ?_
        obtain ⟨cur2, hcur2⟩ : ∃ cur, wr.heap[g2]? = some (.cells cur 2 (0, 0)) := by
          rcases HV.out.values.2 with ⟨h1, -⟩ | ⟨g', off', cap', cur, h1, h2, h3, -⟩
          · cases h1
          · injection h1 with h1
            injection h1 with h1
            injection h1 with h1 _ _
            subst h1
            exact ⟨cur, h3⟩
        refine ⟨rfl, ⟨.slice (some ⟨g, off, none⟩) V.length cp, .slice (some ⟨g2, off2, none⟩) V.length cp2, ?_⟩, (Below.refl _ _).setCell (HV.out.values.lt g2 rfl).1 _, set_keeps hcur2 (by decide) _⟩
        have hl : (V.set k ((x, 0), n)).length = V.length := by simp
        have hval : ints ((V.set k ((x, 0), n)).map (·.2)) = (ints (V.map (·.2))).set k (.int .i64 n) := by simp [ints, List.map_set]
        have hnam : (V.set k ((x, 0), n)).map (·.1.1) = V.map (·.1.1) := by
          apply List.ext_getElem?
          intro i
          rw [List.getElem?_map, List.getElem?_map]
          by_cases hik : k = i
          · subst hik
            rw [List.getElem?_set_self hlt, List.getElem?_eq_getElem hlt]
            simp [HKE.out]
          · rw [List.getElem?_set_ne hik]
        rw [HG.out]
        have hbox := HV.out.box
        refine ⟨hbox.of_block (Below.heap_setCell _ _ _ _ ?_), ?_, ?_, fun y hy => ?_, HV.out.lo, by rw [hl]; exact HV.out.few⟩
        · show vb ≠ g2
          rintro rfl
          rw [show wr.heap[vb]? = _ from hbox] at hcur2
          simp at hcur2
        · rw [hl, hnam]
          exact HV.out.names.set_other hcur2 (by decide) _
        · rw [hl, hval]
          exact HV.out.values.setAt hlt _
        · rcases List.mem_or_eq_of_mem_set hy with h | h
          · exact HZ.out y h
          · rw [h]
      · have hbe : (ByteArray.toList V[k].1.1 == ByteArray.toList x) = false := by simpa using he
        have HNO : Hid (∀ j (hj : j < V.length), j < k + 1 → V[j].1 ≠ (x, 0)) := by
          intro j hj hlt2
          rcases Nat.lt_or_eq_of_le (Nat.le_of_lt_succ hlt2) with h | h
          · exact hno.out j hj h
          · subst h; exact fun e => he (hiff.1 e)
        generalize V[k].1.1 = nm at c1 hbe
        clear hiff hx hx2 he hno c2
        go_wp2_with fail
        go_roundg (N - (k + 1))
        case measure => omega
        case rel => exact ⟨k + 1, by omega, by go_num, rfl, HNO⟩
    · have hnm : Hid ((x, 0) ∉ V.map (·.1)) := by
        intro hm
        obtain ⟨y, hy, he⟩ := List.mem_map.1 hm
        obtain ⟨j, hj, rfl⟩ := List.getElem_of_mem hy
        exact hno.out j hj (by have := HN.out; omega) he
      clear hno
      obtain ⟨i0, hi, hz0, hz1, hz2⟩ := info_parts infoString
      obtain ⟨j0, hj, hy0, hy1, hy2⟩ := info_parts infoInt64
      have hval := HV.out.values
      have hnam := HV.out.names
      rw [← HN.out] at hval hnam
      have HVA : Hid (OwnS wr base 2 1 (.slice ao2 N cp2) N (ints (V.map (·.2)))) := hval
      have HNA : Hid (OwnS wr base 9 1 (.slice ao N cp) N (strs (V.map (·.1.1)))) := hnam
      have HBX : Hid (BoxIn wr vb 126 [.slice ao N cp, .slice ao2 N cp2]) := by have := HV.out.box; rw [← HN.out] at this; exact this
      have hlo := HV.out.lo
      clear hval hnam
      go_wp2_with (first
        | (at_builtin; refine wpList_append_ownS _ rfl _ _ 62 rfl base 9 i0 (.string ByteArray.empty) 1 16 Tryz.underlying62 hi hz0 hz1 hz2 rfl (by decide) _ _ _ rfl (HNA.out.alloc _) ⟨wr.heap.size, 0, none⟩ 1 1 [.string x] rfl rfl (cell_newL _ [_] _ _ rfl) (one1 rfl) (by decide) (by unfold maxLen; omega) (by omega) (by simp; omega) ?_; intro g' off' cap' w7 hown7 hgrow7 hloc7 hlt7; have hb7 := grown_box HNA.out hgrow7 HBX.out (by decide); have c70 := BoxIn.cell hb7 (k := 0) rfl; have f70 := BoxIn.frozen hb7 0; have HB7 : Hid (BoxIn w7 vb _ _) := hb7; have HO7 : Hid (OwnS w7 base 9 1 (.slice (some ⟨g', off', none⟩) (N + 1) cap') (N + 1) (strs (V.map (·.1.1)) ++ [.string x])) := hown7; have HV7 : Hid (OwnS w7 base 2 1 (.slice ao2 N cp2) N (ints (V.map (·.2)))) := grown_own HNA.out hgrow7 HVA.out (by decide); have HL7 : Hid (Below base wr w7) := grown_below HNA.out hgrow7 hb; have HK7 : Hid (Keeps 44 wr w7) := grown_keeps HNA.out hgrow7 (by decide); have c71 : ∀ u, (w7.setCell ⟨vb, 0, none⟩ u).cell? ⟨vb, 1, none⟩ = some (.slice ao2 N cp2) := (fun u => (by rw [World.cell?_setCell_other _ _ _ _ (by simp)]; exact BoxIn.cell HB7.out (k := 1) rfl)); clear hown7 hgrow7 hloc7 hb7)
        | (at_builtin; refine wpList_append_ownS _ rfl _ _ 24 rfl base 2 j0 (.int .i64 0) 1 8 Tryz.underlying24 hj hy0 hy1 hy2 rfl (by decide) _ _ _ rfl ((HV7.out.set_other HB7.out (by decide) _).alloc _) ⟨w7.heap.size, 0, none⟩ 1 1 [.int .i64 n] rfl rfl (cell_newL _ [_] _ _ (by simp [World.setCell])) (one1 rfl) (by decide) (by unfold maxLen; omega) (by omega) (by have := HL7.out.size; simp [World.setCell]; omega) ?_; intro g9 off9 cap9 w9 hown9 hgrow9 hloc9 hlt9; have hb9 := grown_box (HV7.out.set_other HB7.out (by decide) _) hgrow9 (BoxIn.set (i := 0) (u := .slice (some ⟨g', off', none⟩) (N + 1) cap') HB7.out) (by decide); have c91 := BoxIn.cell hb9 (k := 1) rfl; have f91 := BoxIn.frozen hb9 1; have HB9 : Hid (BoxIn w9 vb 126 [.slice (some ⟨g', off', none⟩) (N + 1) cap', .slice ao2 N cp2]) := hb9; have HO9 : Hid (OwnS w9 base 2 1 (.slice (some ⟨g9, off9, none⟩) (N + 1) cap9) (N + 1) (ints (V.map (·.2)) ++ [.int .i64 n])) := hown9; have HN9 : Hid (OwnS w9 base 9 1 (.slice (some ⟨g', off', none⟩) (N + 1) cap') (N + 1) (strs (V.map (·.1.1)) ++ [.string x])) := grown_own (HV7.out.set_other HB7.out (by decide) _) hgrow9 (HO7.out.set_other HB7.out (by decide) _) (by decide); have HK9 : Hid (Keeps 44 wr w9) := (HK7.out.trans (set_keeps HB7.out (by decide) _)).trans (grown_keeps (HV7.out.set_other HB7.out (by decide) _) hgrow9 (by decide)); have HL9 : Hid (Below base wr w9) := (HL7.out.setCell hlo _).trans (grown_below (HV7.out.set_other HB7.out (by decide) _) hgrow9 (by have := HL7.out.size; simp [World.setCell]; omega)); clear hown9 hgrow9 hloc9 hb9))
      go_end0
      refine ⟨rfl, ⟨.slice (some ⟨g', off', none⟩) (N + 1) cap', .slice (some ⟨g9, off9, none⟩) (N + 1) cap9, ?_⟩, HL9.out.setCell hlo _, HK9.out.trans (set_keeps HB9.out (by decide) _)⟩
      rw [putV_new hnm.out]
      refine ⟨HB9.out.set (i := 1), ?_, ?_, fun y hy => ?_, hlo, by simp; have := HN.out; omega⟩
      · rw [List.length_append, ← HN.out, List.map_append]
        have e : strs (V.map (·.1.1) ++ [((x, 0), n)].map (·.1.1)) = strs (V.map (·.1.1)) ++ [.string x] := by simp [strs]
        rw [e]
        exact HN9.out.set_other HB9.out (by decide) _
      · rw [List.length_append, ← HN.out, List.map_append]
        have e : ints (V.map (·.2) ++ [((x, (0 : Nat)), n)].map (·.2)) = ints (V.map (·.2)) ++ [.int .i64 n] := by simp [ints]
        rw [e]
        exact HO9.out.set_other HB9.out (by decide) _
      · rcases List.mem_append.1 hy with h | h
        · exact HZ.out y h
        · rw [List.mem_singleton] at h; rw [h]

end Go.Proofs.YtbddcodljmglfaaGreatDoor

namespace Go.Proofs.YtbddcodljmglfaaGreatDoor
open Go.RowKit

def ofD (l : List UInt8) : BA := ⟨l.toArray⟩

theorem ofD_cons (b : UInt8) (l : List UInt8) : ofD (b :: l) = (⟨#[b]⟩ : BA) ++ ofD l := by
  apply ba_ext
  rw [ByteArray.toList_eq, ByteArray.toList_eq]
  simp [ofD]
theorem ofNat_add48 (d : Nat) : UInt8.ofNat (48 + d) = 48 + UInt8.ofNat d := by simp
theorem conv_byte (w : World) (d : Nat) (hd : d < 10) : (convert 155 9 (.slice (some ⟨w.heap.size, 0, none⟩) 1 1)).run Tryz.prog (w.alloc (.cells #[.int .u8 (48 + (d : Int))] 5)) = .ok (.string ⟨#[UInt8.ofNat (48 + d)]⟩) (w.alloc (.cells #[.int .u8 (48 + (d : Int))] 5)) := by
  have hb : ((UInt8.ofNat (48 + d)).toNat : Int) = 48 + (d : Int) := by
    rw [UInt8.toNat_ofNat']
    omega
  have := run_convert_bytes_back (P := Tryz.prog) (w.alloc (.cells #[.int .u8 (48 + (d : Int))] 5)) 155 9 5 ⟨w.heap.size, 0, none⟩ 1 [UInt8.ofNat (48 + d)] Tryz.underlying155 Tryz.underlying5 Tryz.underlying9 (fun j hj => by
    have hj0 : j = 0 := by simpa using hj
    subst hj0
    rw [Addr.add_lit]
    have := (BoxIn.new w 5 [.int .u8 (48 + (d : Int))]).cell (k := 0) rfl
    simp only [List.getElem_cons_zero, hb]
    exact this)
  exact this

set_option maxRecDepth 100000 in
set_option maxHeartbeats 4000000 in
theorem dec_pos (w : World) (u : Nat) (hu : (u : Int) ≤ 9223372036854775807) : Calls Tryz.prog 57 #[.int .i64 (u : Int)] w fun e w' => e = .returned (.string (ofD (Lib.decDigits u))) ∧ Below w.heap.size w w' := by
  have h1 : ((u : Int) == -9223372036854775808) = false := by rw [beq_eq_false_iff_ne]; omega
  have h2 : ¬ (u : Int) < 0 := by omega
  go_enter Tryz.func57, Tryz.ntmps57
  have hlen : (Lib.decDigits u).length ≤ 21 := by
    have := Lib.itoa_length_le (u : Int) (by omega) hu
    unfold Lib.itoa at this
    rw [if_neg h2] at this
    simpa using this
  go_wp2_with fail
  go_loopg [0, 3] u (fun g v0 v3 wr => ∃ (k : Nat) (l : List UInt8), g = k ∧ v0 = .int .i64 k ∧ v3 = .string (ofD l) ∧ k ≤ u ∧ l.length ≤ 21 ∧ Hid (Lib.decDigits u = Lib.decDigits k ++ l) ∧ Hid (Below w.heap.size w wr))
  case atStart => exact ⟨u, [], rfl, rfl, rfl, Nat.le_refl _, by simp, by show _ = _; simp, Below.refl _ _⟩
  case round =>
    obtain ⟨k, l, hgk, rfl, rfl, hku, hll, hdd, hbel⟩ := hrel
    have hsz := hbel.out.size
    have hls : (ofD l).size = l.length := by simp [ofD, ByteArray.size]
    by_cases hk9 : 9 < k
    · have hk9' : (9 : Int) < (k : Int) := by omega
      have hcv := conv_byte wr (k % 10) (by omega)
      rw [show (((k % 10 : Nat)) : Int) = (k : Int) % 10 by omega] at hcv
      have hnx : Hid (Lib.decDigits u = Lib.decDigits (k / 10) ++ ((48 + UInt8.ofNat (k % 10)) :: l)) := by
        show _ = _
        rw [hdd.out]
        conv => lhs; rw [Lib.decDigits, dif_neg (show ¬ k < 10 by omega)]
        rw [ofNat_add48]
        simp
      have hl2 : l.length + 1 ≤ 21 := by
        have := congrArg List.length hnx.out
        simp at this
        omega
      go_wp2_with fail
      go_roundg (k / 10)
      case measure => omega
      case rel => exact ⟨k / 10, (48 + UInt8.ofNat (k % 10)) :: l, rfl, by go_num, by rw [ofD_cons], by omega, by simpa using hl2, hnx, hbel.out.alloc hsz _⟩
    · have hk9' : ¬ (9 : Int) < (k : Int) := by omega
      have hcv := conv_byte wr k (by omega)
      have hend : Hid (Lib.decDigits u = (48 + UInt8.ofNat k) :: l) := by
        show _ = _
        rw [hdd.out, Lib.decDigits_one (by omega), ofNat_add48]
        rfl
      go_wp2_with fail
      go_ret
      rw [hend.out]
      exact ⟨by rw [← ofD_cons]; rfl, hbel.out.alloc hsz _⟩

set_option maxRecDepth 100000 in
set_option maxHeartbeats 4000000 in
theorem dec_neg (w : World) (u : Nat) (hu : 0 < u) (hu2 : (u : Int) ≤ 9223372036854775807) (ds : BA) (hlen : ds.size ≤ 21) (HD : Hid (Calls Tryz.prog 57 #[.int .i64 (u : Int)] w fun e w' => e = .returned (.string ds) ∧ Below w.heap.size w w')) :
    Calls Tryz.prog 57 #[.int .i64 (-(u : Int))] w fun e w' => e = .returned (.string ((⟨#[45]⟩ : BA) ++ ds)) ∧ Below w.heap.size w w' := by
  have hb : (-(u : Int) == -9223372036854775808) = false := by rw [beq_eq_false_iff_ne]; omega
  have hneg : -(u : Int) < 0 := by omega
  go_enter Tryz.func57, Tryz.ntmps57
  go_wp2_with (first | (go_at_call 57; refine HD.out.mono ?_; rintro e w1 ⟨rfl, hb1⟩; have HB1 : Hid (Below w.heap.size w w1) := hb1; clear hb1))
  go_ret
  exact ⟨rfl, HB1.out⟩

set_option maxRecDepth 100000 in
set_option maxHeartbeats 4000000 in
theorem dec_min (w : World) : Calls Tryz.prog 57 #[.int .i64 (-9223372036854775808)] w fun e w' => e = .returned (.string ⟨#[45, 57, 50, 50, 51, 51, 55, 50, 48, 51, 54, 56, 53, 52, 55, 55, 53, 56, 48, 56]⟩) ∧ w' = w := by
  go_enter Tryz.func57, Tryz.ntmps57
  go_wp2_with fail
  go_ret
  exact ⟨rfl, rfl⟩

theorem dd_step (u : Nat) (h : ¬ u < 10) : Lib.decDigits u = Lib.decDigits (u / 10) ++ [UInt8.ofNat (48 + u % 10)] := by
  rw [Lib.decDigits, dif_neg h]
theorem itoa_neg (u : Nat) (hu : 0 < u) : Lib.itoa (-(u : Int)) = 45 :: Lib.decDigits u := by
  unfold Lib.itoa
  rw [if_pos (by omega), Int.natAbs_neg, Int.natAbs_natCast]
theorem dd_min : Lib.decDigits 9223372036854775808 = [57, 50, 50, 51, 51, 55, 50, 48, 51, 54, 56, 53, 52, 55, 55, 53, 56, 48, 56] := by
  iterate 18 (rw [dd_step _ (by decide)]; simp only [Nat.reduceDiv, Nat.reduceMod, Nat.reduceAdd])
  rw [Lib.decDigits_one (by decide)]
  simp

theorem decimal_any (w : World) (n : Int) (hn : fits64 n) : Calls Tryz.prog 57 #[.int .i64 n] w fun e w' => e = .returned (.string (ofD (Lib.itoa n))) ∧ Below w.heap.size w w' := by
  rcases (by omega : 0 ≤ n ∨ n < 0) with h0 | h0
  · obtain ⟨u, rfl⟩ : ∃ u : Nat, n = u := ⟨n.toNat, by omega⟩
    have e : Lib.itoa (u : Int) = Lib.decDigits u := by
      unfold Lib.itoa
      rw [if_neg (by omega), Int.toNat_natCast]
    rw [e]
    exact dec_pos w u hn.2
  · obtain ⟨u, rfl⟩ : ∃ u : Nat, n = -(u : Int) := ⟨n.natAbs, by omega⟩
    have hu : 0 < u := by omega
    rw [itoa_neg u hu, ofD_cons]
    by_cases hm : u = 9223372036854775808
    · rw [hm, dd_min]
      refine (dec_min w).mono ?_
      rintro e w' ⟨rfl, rfl⟩
      exact ⟨by rw [← ofD_cons]; rfl, Below.refl _ _⟩
    · have hlt : (u : Int) ≤ 9223372036854775807 := by have := hn.1; omega
      have hl : (Lib.decDigits u).length ≤ 21 := by
        have := Lib.itoa_length_le (u : Int) (by omega) hlt
        unfold Lib.itoa at this
        rw [if_neg (by omega)] at this
        simpa using this
      exact dec_neg w u hu hlt (ofD (Lib.decDigits u)) (by simpa [ofD, ByteArray.size] using hl) (dec_pos w u hlt)

end Go.Proofs.YtbddcodljmglfaaGreatDoor

namespace Go.Proofs.YtbddcodljmglfaaGreatDoor
open Go.RowKit

/-- A program's line, by its words. -/
inductive LineW : List BA → LineG → Prop
  | set (x0 a b : BA) (v : Int) (h0 : kindOf x0 = some 0) (hb : numB b = some v) : LineW [x0, a, b] ⟨0, (a, 0), [], v, []⟩
  | copy (x0 a b : BA) (h0 : kindOf x0 = some 1) : LineW [x0, a, b] ⟨1, (a, 0), [(b, 0)], 0, []⟩
  | two (k : Nat) (x0 a b c : BA) (h0 : kindOf x0 = some k) (hk : k = 2 ∨ k = 3 ∨ k = 4 ∨ k = 5) : LineW [x0, a, b, c] ⟨k, (a, 0), [(b, 0), (c, 0)], 0, []⟩
  | one (k : Nat) (x0 a : BA) (h0 : kindOf x0 = some k) (hk : k = 6 ∨ k = 9) : LineW [x0, a] ⟨k, noVer, [(a, 0)], 0, []⟩
  | go (x0 a : BA) (n : Nat) (h0 : kindOf x0 = some 7) (ha : blkB a = some n) : LineW [x0, a] ⟨7, noVer, [], 0, [n]⟩
  | cond (x0 a b c : BA) (n m : Nat) (h0 : kindOf x0 = some 8) (hb : blkB b = some n) (hc : blkB c = some m) : LineW [x0, a, b, c] ⟨8, noVer, [(a, 0)], 0, [n, m]⟩

/-- What a word's number tells of its letters. -/
theorem kind_word {x : BA} {k : Nat} (h : kindOf x = some k) : ByteArray.toList x = [[115, 101, 116], [99, 111, 112, 121], [97, 100, 100], [115, 117, 98], [109, 117, 108], [108, 101, 115, 115], [111, 117, 116], [103, 111, 116, 111], [105, 102], [101, 110, 100]].getD k [] := by
  unfold kindOf at h
  repeat' split at h
  all_goals first | (injection h with h; subst h; rename_i hx; simpa using hx) | cases h

set_option maxRecDepth 100000 in
set_option maxHeartbeats 4000000 in
theorem reckons_any (w : World) (base vb : Nat) (V : List (Ver × Int)) (nv vv wv : Value) (ws : List BA) (l : LineG) (hV : VarsIn base w vb V nv vv) (hl : LineW ws l) (hw : l.word < 6) (hws : WordsIn w wv (hd ws) ws) :
    Calls Tryz.prog 78 #[.pointer (some ⟨vb, 0, none⟩), wv] w fun e w' => e = .returned (.int .i64 (reckonG l.word (takenG V l).1 (takenG V l).2)) ∧ w' = w := by
  have HG : Hid (∀ x, Calls Tryz.prog 76 #[.pointer (some ⟨vb, 0, none⟩), .string x] w fun e w' => e = .returned (.int .i64 (getV V (x, 0))) ∧ w' = w) := fun x => get_any w base vb V nv vv x hV
  have hsm := hws.small
  obtain ⟨ao, cp, rfl, hcp, hcl⟩ := hws.row.cell
  obtain ⟨g, off, rfl, hg, hx⟩ := hcl hws.pos
  clear hV hws hcl
  cases hl with
  | set x0 a b v h0 hb =>
    have hk := kind_word h0
    have c0 : w.cell? ⟨g, off, none⟩ = some (.string x0) := hx 0 _ rfl
    have c2 : w.cell? ⟨g, off + 2, none⟩ = some (.string b) := hx 2 _ rfl
    have hbs : b.size ≤ 4294967280 := hsm b (by simp)
    have q0 : (ByteArray.toList x0 == [115, 101, 116]) = true := by rw [hk]; rfl
    have HNB : Hid (∀ W, Calls Tryz.prog 94 #[.string b, .int .i64 (-1000000000), .int .i64 1000000000] W fun e w' => e = .returned (.tuple #[.int .i64 v, .bool true]) ∧ w' = W) := fun W => (rNumber_any W b _ _ hbs (by omega) (by omega) (by omega) (by omega)).mono (by
      rintro e w' ⟨n, h1, h3, h2⟩
      rw [← numB_eq, hb] at h1 h3
      have := h3 _ rfl
      subst this
      exact ⟨h1, h2⟩)
    clear hx hk
    go_enter Tryz.func78, Tryz.ntmps78
    go_wp2_with (first | (go_at_call 94; refine (HNB.out _).mono ?_; rintro e w1 ⟨rfl, hw1⟩; rw [hw1]; clear hw1))
    go_ret
    exact ⟨by simp [reckonG, takenG], rfl⟩
  | copy x0 a b h0 =>
    have hk := kind_word h0
    have c0 : w.cell? ⟨g, off, none⟩ = some (.string x0) := hx 0 _ rfl
    have c2 : w.cell? ⟨g, off + 2, none⟩ = some (.string b) := hx 2 _ rfl
    have q0 : (ByteArray.toList x0 == [115, 101, 116]) = false := by rw [hk]; rfl
    have q1 : (ByteArray.toList x0 == [99, 111, 112, 121]) = true := by rw [hk]; rfl
    have HGB : Hid (Calls Tryz.prog 76 #[.pointer (some ⟨vb, 0, none⟩), .string b] w fun e w' => e = .returned (.int .i64 (getV V (b, 0))) ∧ w' = w) := HG.out b
    clear hx hk HG
    go_enter Tryz.func78, Tryz.ntmps78
    go_wp2_with (first | (go_at_call 76; refine HGB.out.mono ?_; rintro e w1 ⟨rfl, hw1⟩; rw [hw1]; clear hw1))
    go_ret
    exact ⟨by simp [reckonG, takenG], rfl⟩
  | two k x0 a b c h0 hk =>
    have hkw := kind_word h0
    have c0 : w.cell? ⟨g, off, none⟩ = some (.string x0) := hx 0 _ rfl
    have c2 : w.cell? ⟨g, off + 2, none⟩ = some (.string b) := hx 2 _ rfl
    have c3 : w.cell? ⟨g, off + 3, none⟩ = some (.string c) := hx 3 _ rfl
    have HGB : Hid (Calls Tryz.prog 76 #[.pointer (some ⟨vb, 0, none⟩), .string b] w fun e w' => e = .returned (.int .i64 (getV V (b, 0))) ∧ w' = w) := HG.out b
    have HGC : Hid (Calls Tryz.prog 76 #[.pointer (some ⟨vb, 0, none⟩), .string c] w fun e w' => e = .returned (.int .i64 (getV V (c, 0))) ∧ w' = w) := HG.out c
    have hT : Hid (takenG V ⟨k, (a, 0), [(b, 0), (c, 0)], 0, []⟩ = (getV V (b, 0), getV V (c, 0))) := rfl
    obtain ⟨y, hy⟩ : ∃ y, y = getV V (b, 0) := ⟨_, rfl⟩
    obtain ⟨z, hz⟩ : ∃ z, z = getV V (c, 0) := ⟨_, rfl⟩
    rw [← hy] at HGB hT
    rw [← hz] at HGC hT
    clear hx HG hy hz
    have q0 : (ByteArray.toList x0 == [115, 101, 116]) = false := by rw [hkw]; rcases hk with rfl | rfl | rfl | rfl <;> rfl
    have q1 : (ByteArray.toList x0 == [99, 111, 112, 121]) = false := by rw [hkw]; rcases hk with rfl | rfl | rfl | rfl <;> rfl
    have q2 : (ByteArray.toList x0 == [97, 100, 100]) = decide (k = 2) := by rw [hkw]; rcases hk with rfl | rfl | rfl | rfl <;> rfl
    have q3 : (ByteArray.toList x0 == [115, 117, 98]) = decide (k = 3) := by rw [hkw]; rcases hk with rfl | rfl | rfl | rfl <;> rfl
    have q4 : (ByteArray.toList x0 == [109, 117, 108]) = decide (k = 4) := by rw [hkw]; rcases hk with rfl | rfl | rfl | rfl <;> rfl
    clear hkw h0
    rcases hk with rfl | rfl | rfl | rfl
    all_goals simp only [Nat.reduceEqDiff, decide_true, decide_false] at q2 q3 q4
    all_goals go_enter Tryz.func78, Tryz.ntmps78
    all_goals go_wp2_with (first
      | (go_at_call_of 76 (Value.string b); refine HGB.out.mono ?_; rintro e w1 ⟨rfl, hw1⟩; rw [hw1]; clear hw1)
      | (go_at_call_of 76 (Value.string c); refine HGC.out.mono ?_; rintro e w1 ⟨rfl, hw1⟩; rw [hw1]; clear hw1))
    all_goals go_ret
    all_goals rw [hT.out]
    all_goals exact ⟨by simp [reckonG, wr64, *], rfl⟩
  | one k x0 a h0 hk => rcases hk with rfl | rfl <;> simp at hw
  | go x0 a n h0 ha => simp at hw
  | cond x0 a b c n m h0 hb hc => simp at hw

end Go.Proofs.YtbddcodljmglfaaGreatDoor
