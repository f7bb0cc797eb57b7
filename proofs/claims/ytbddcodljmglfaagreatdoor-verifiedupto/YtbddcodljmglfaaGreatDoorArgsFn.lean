/- lines.ReadArgs. -/
import Derived.Test.YtbddcodljmglfaaGreatDoorReadA
set_option linter.unusedSimpArgs false
set_option linter.unusedVariables false
namespace Go.Proofs.YtbddcodljmglfaaGreatDoor
open Go.RowKit

def IsSl (v : Value) : Prop := ∃ ao n cp, v = .slice ao n cp
theorem argsOf_cutsN (tg : Nat) (s : BA) : argsOf tg (cutsN 32 6 s) = argsOf tg (cuts 32 s) := by
  by_cases h : (cuts 32 s).length ≤ 6
  · rw [cutsN_eq 32 6 s (by omega) h]
  · have h1 := cutsN_few 32 6 s (by omega) (by omega)
    have no : ∀ ws : List BA, 6 ≤ ws.length → argsOf tg ws = none := by
      intro ws hw
      cases ws with
      | nil => simp at hw
      | cons x r =>
        simp only [argsOf]
        rw [if_neg]
        simp at hw
        omega
    rw [no _ (by omega), no _ (by omega)]

set_option maxRecDepth 100000 in
set_option maxHeartbeats 8000000 in
theorem args_some (w : World) (base0 : Nat) (tg : Nat) (htg : tg = 0 ∨ tg = 1) (s : BA) (hs : s.size ≤ 4294967280) (hE : Env base0 w) (x0 : BA) (L' : List BA) (hL : cutsN 32 6 s = x0 :: L') (hx0 : ByteArray.toList x0 = [97, 114, 103, 115]) (h4 : L'.length ≤ 4) :
    Calls Tryz.prog 126 #[.string s, .int .i64 (tg : Int)] w fun e w' => (∃ v, e = .returned (.tuple #[v, .bool (argsGo tg [] L').isSome]) ∧ IsSl v ∧ ∀ A, argsGo tg [] L' = some A → OwnS w' w.heap.size 111 2 v A.length (vers A) ∧ (A = [] → v = .slice none 0 0)) ∧ Below w.heap.size w w' := by
  have HE : Hid (Env base0 w) := hE
  have hsz0 := cutsN_size 6 s
  rw [hL] at hsz0
  have HSZ : Hid (∀ x ∈ L', x.size ≤ 4294967280) := fun x hx => Nat.le_trans (hsz0 x (by simp [hx])) hs
  obtain ⟨N, hN⟩ : ∃ N, N = L'.length := ⟨_, rfl⟩
  have HN : Hid (N = L'.length) := hN
  have HC : Hid (∀ w1, Env base0 w1 → Calls Tryz.prog 158 #[.string s, .int .i64 4] w1 fun e w' => ∃ cap, e = .returned (.slice (some ⟨w1.heap.size, 0, none⟩) (N + 1) cap) ∧ RdT w' 9 1 (.slice (some ⟨w1.heap.size, 0, none⟩) (N + 1) cap) (N + 1) (strs (x0 :: L')) ∧ Below w1.heap.size w1 w' ∧ w1.heap.size < w'.heap.size) := by
    intro w1 h
    have := split_words w1 base0 s 4 (by omega) hs h
    rw [show 4 + 2 = 6 from rfl, hL, List.length_cons, ← hN] at this
    exact this
  have hN4 : N ≤ 4 := by omega
  clear hL hE hN hsz0 h4
  go_enter Tryz.func126, Tryz.ntmps126
  go_wp2_with (first
    | (go_at_call 158; refine (HC.out _ HE.out).mono ?_; rintro e w1 ⟨cap, rfl, hrd0, hb0, hlt0⟩; have hrd : Hid (RdT w1 9 1 (.slice (some ⟨w.heap.size, 0, none⟩) (N + 1) cap) (N + 1) (strs (x0 :: L'))) := hrd0; have hbel1 : Hid (Below w.heap.size w w1) := hb0; have hsz1 := hb0.size; obtain ⟨ao9, cap9, e9, hcap, hcl⟩ := hrd0.cell; injection e9 with e91 e92 e93; subst e93; obtain ⟨g9, off9, e94, hg9, hcl⟩ := hcl (by omega); injection (e91.trans e94) with e95; injection e95 with e96 e97; subst e96; subst e97; have c0 : w1.cell? ⟨w.heap.size, 0, none⟩ = some (.string x0) := hcl 0 _ rfl; clear hrd0 hb0 hcl hg9 e91 e94))
  · go_loopg [7, 26] N (fun g v7 v26 wr => ∃ (i : Nat) (A : List Ver), i + g = N ∧ v26 = .int .i64 i ∧ Hid (OwnS wr w.heap.size 111 2 v7 A.length (vers A)) ∧ Hid (A = [] → v7 = .slice none 0 0) ∧ A.length ≤ i ∧ Hid (argsGo tg [] L' = argsGo tg A (L'.drop i)) ∧ Hid (Below w.heap.size w wr) ∧ Hid (Keeps 9 w1 wr))
    case atStart => exact ⟨0, [], by omega, rfl, OwnS.nil _ _ _ _, fun _ => rfl, by simp, rfl, hbel1, Keeps.refl _ _⟩
    case round =>
      obtain ⟨i, A, hig, rfl, hown, hnil, hA, hgo, hbel, hkeep⟩ := hrel
      have hszr := hbel.out.size
      by_cases hiN : i < N
      · exfalso
        omega
      · have hend : Hid (argsGo tg [] L' = some A) := by
          show _ = _
          rw [hgo.out, List.drop_eq_nil_of_le (by have := HN.out; omega)]
          rfl
        go_wp2_with fail
        go_ret2
        exact ⟨⟨_, by rw [hend.out]; rfl, (by obtain ⟨ao, cp, h⟩ := hown.out.len; exact ⟨ao, _, cp, h⟩), fun A' h => by rw [hend.out] at h; injection h with h; subst h; exact ⟨hown.out, hnil.out⟩⟩, hbel.out⟩
  · go_loopg [7, 26] N (fun g v7 v26 wr => ∃ (i : Nat) (A : List Ver), i + g = N ∧ v26 = .int .i64 i ∧ Hid (OwnS wr w.heap.size 111 2 v7 A.length (vers A)) ∧ Hid (A = [] → v7 = .slice none 0 0) ∧ A.length ≤ i ∧ Hid (argsGo tg [] L' = argsGo tg A (L'.drop i)) ∧ Hid (Below w.heap.size w wr) ∧ Hid (Keeps 9 w1 wr))
    case atStart => exact ⟨0, [], by omega, rfl, OwnS.nil _ _ _ _, fun _ => rfl, by simp, rfl, hbel1, Keeps.refl _ _⟩
    case round =>
      obtain ⟨i, A, hig, rfl, hown, hnil, hA, hgo, hbel, hkeep⟩ := hrel
      have hszr := hbel.out.size
      by_cases hiN : i < N
      · have hlt' : i < L'.length := HN.out ▸ hiN
        obtain ⟨x, hx⟩ : ∃ x, L'[i] = x := ⟨_, rfl⟩
        have cx : wr.cell? ⟨w.heap.size, 1 + i, none⟩ = some (.string x) := by
          obtain ⟨ao9, cap9, e9, hcap9, hcl⟩ := (hrd.out.keep hkeep.out).cell
          obtain ⟨g9, off9, e94, hg9, hcl⟩ := hcl (by omega)
          injection e9 with e91 e92 e93
          rw [← e91] at e94
          injection e94 with e95
          injection e95 with e96 e97
          subst e96
          subst e97
          have := hcl (1 + i) (.string x) (by rw [Nat.add_comm]; simp [strs, hlt', hx])
          rw [Nat.zero_add] at this
          exact this
        have hxs : x.size ≤ 4294967280 := HSZ.out x (by rw [← hx]; exact List.getElem_mem hlt')
        have hdrop : L'.drop i = x :: L'.drop (i + 1) := by rw [List.drop_eq_getElem_cons hlt', hx]
        have hstep : Hid (argsGo tg [] L' = match readVer tg x with | some v => if v.2 = 0 ∧ verHas A v = false then argsGo tg (A ++ [v]) (L'.drop (i + 1)) else none | none => none) := by
          show _ = _
          rw [hgo.out, hdrop]
          rfl
        have HT : Hid (∀ w2, Env base0 w2 → Calls Tryz.prog 159 #[.int .i64 (tg : Int), .string x] w2 fun e w' => (∃ (a : BA) (n : Int), e = .returned (.tuple #[.agg #[.string a, .int .i64 n], .bool (readVer tg x).isSome]) ∧ ∀ v, readVer tg x = some v → a = v.1 ∧ n = (v.2 : Int)) ∧ Below w2.heap.size w2 w') := fun w2 h => tongue_any w2 base0 tg htg x hxs h
        have HER : Hid (Env base0 wr) := HE.out.keep (hbel.out.mono HE.out.size)
        have hi1 : (0 : Int) ≤ (i : Int) := by omega
        have hi2 : (i : Int) < (N : Int) := by omega
        clear hx hdrop hgo
        cases hv : readVer tg x with
        | none =>
          have hno : Hid (argsGo tg [] L' = none) := by
            show _ = _
            rw [hstep.out, hv]
          rw [hv] at HT
          go_wp2_with (first | (go_at_call 159; refine (HT.out _ HER.out).mono ?_; rintro e w5 ⟨⟨a, n, rfl, -⟩, hb5⟩; have hb : Hid _ := hb5; clear hb5))
          go_ret2
          exact ⟨⟨_, by rw [hno.out]; rfl, ⟨_, _, _, rfl⟩, fun A' h => by rw [hno.out] at h; cases h⟩, (hbel.out.trans (hb.out.mono hszr)).alloc (by have := hb.out.size; omega) _⟩
        | some v =>
          obtain ⟨va, vn⟩ := v
          rw [hv] at HT
          by_cases hvn : vn = 0
          · subst hvn
            have HCC : Hid (∀ w2 v7, RdT w2 111 2 v7 A.length (vers A) → Calls Tryz.prog 84 #[v7, .agg #[.string va, .int .i64 ((0 : Nat) : Int)]] w2 fun e w' => e = .returned (.bool (verHas A (va, 0))) ∧ Below w2.heap.size w2 w') := fun w2 v7 h => contains_any w2 v7 A (va, 0) h (by omega)
            obtain ⟨ao7, cp7, rfl⟩ := hown.out.len
            cases hcon : verHas A (va, 0) with
            | true =>
              rw [hcon] at HCC
              have hno : Hid (argsGo tg [] L' = none) := by
                show _ = _
                rw [hstep.out, hv]
                simp [hcon]
              go_wp2_with (first
                | (go_at_call 159; refine (HT.out _ HER.out).mono ?_; rintro e w5 ⟨⟨a, n, rfl, ha⟩, hb5⟩; obtain ⟨rfl, rfl⟩ := ha _ rfl; have hb : Hid (Below wr.heap.size wr w5) := hb5; clear hb5 ha)
                | (go_at_call 84; refine (HCC.out _ _ ((hown.out.of_block (fun k hk => hb.out.block _ (hown.out.lt k hk).2)).alloc _).rdT).mono ?_; rintro e w6 ⟨rfl, hb6⟩; have hbb : Hid _ := hb6; clear hb6))
              go_ret2
              exact ⟨⟨_, by rw [hno.out]; rfl, ⟨_, _, _, rfl⟩, fun A' h => by rw [hno.out] at h; cases h⟩, (((hbel.out.trans (hb.out.mono hszr)).alloc (by have := hb.out.size; omega) _).trans (hbb.out.mono (by have := hb.out.size; simp; omega)))⟩
            | false =>
              rw [hcon] at HCC
              have hnext : Hid (argsGo tg [] L' = argsGo tg (A ++ [(va, 0)]) (L'.drop (i + 1))) := by
                show _ = _
                rw [hstep.out, hv]
                simp [hcon]
              obtain ⟨i0, hi, hz0, hz1, hz2⟩ := info_parts infoVersion
              go_wp2_with (first
                | (go_at_call 159; refine (HT.out _ HER.out).mono ?_; rintro e w5 ⟨⟨a, n, rfl, ha⟩, hb5⟩; obtain ⟨rfl, rfl⟩ := ha _ rfl; have hb : Hid (Below wr.heap.size wr w5) := hb5; clear hb5 ha)
                | (go_at_call 84; refine (HCC.out _ _ ((hown.out.of_block (fun k hk => hb.out.block _ (hown.out.lt k hk).2)).alloc _).rdT).mono ?_; rintro e w6 ⟨rfl, hb6⟩; obtain ⟨p0, p1, -, -, -, -, -, hs6⟩ := var2_after hb6; have hbb : Hid (Below w5.heap.size w5 w6) := ((Below.refl _ _).alloc (Nat.le_refl _) _).trans (hb6.mono (by simp)); have HO6 : Hid (OwnS w6 w.heap.size 111 2 (.slice ao7 A.length cp7) A.length (vers A)) := hown.out.of_block (fun k hk => (hbb.out.block _ (by have := (hown.out.lt k hk).2; have := hb.out.size; omega)).trans (hb.out.block _ (hown.out.lt k hk).2)); have hs5 := hb.out.size; clear hb6)
                | (at_builtin; refine wpList_append_ownS _ rfl _ _ 49 rfl w.heap.size 111 i0 _ 2 24 Tryz.underlying49 hi hz0 hz1 hz2 rfl (by decide) _ _ _ rfl (HO6.out.alloc _) ⟨w6.heap.size, 0, none⟩ 1 1 [.string a, .int .i64 0] rfl rfl (cell_newL _ [_, _] _ _ rfl) (one2 rfl rfl) (by decide) (by unfold maxLen; omega) (by omega) (by simp; omega) ?_; intro g' off' cap' w7 hown7 hgrow7 hloc7 hlt7))
              go_roundg (N - (i + 1))
              case measure => omega
              case rel =>
                refine ⟨i + 1, A ++ [(a, 0)], by omega, by go_num, ?_, (by intro h; simp at h), by simp; omega, hnext, ?_, ?_⟩
                · show OwnS _ _ _ _ _ _ _
                  rw [vers_append, List.length_append]
                  exact hown7
                · exact (hbel.out.trans (hb.out.mono hszr)).trans ((hbb.out.mono (by omega)).trans (grown_below HO6.out hgrow7 (by omega)))
                · exact (hkeep.out.trans (Keeps.of_below hb.out)).trans ((Keeps.of_below hbb.out).trans (grown_keeps HO6.out hgrow7 (by decide)))
          · have hno : Hid (argsGo tg [] L' = none) := by
              show _ = _
              rw [hstep.out, hv]
              simp [hvn]
            have hvn' : ¬ (vn : Int) = 0 := by omega
            go_wp2_with (first | (go_at_call 159; refine (HT.out _ HER.out).mono ?_; rintro e w5 ⟨⟨a, n, rfl, ha⟩, hb5⟩; obtain ⟨rfl, rfl⟩ := ha _ rfl; have hb : Hid (Below wr.heap.size wr w5) := hb5; clear hb5 ha))
            go_ret2
            exact ⟨⟨_, by rw [hno.out]; rfl, ⟨_, _, _, rfl⟩, fun A' h => by rw [hno.out] at h; cases h⟩, (hbel.out.trans (hb.out.mono hszr)).alloc (by have := hb.out.size; omega) _⟩
      · have hend : Hid (argsGo tg [] L' = some A) := by
          show _ = _
          rw [hgo.out, List.drop_eq_nil_of_le (by have := HN.out; omega)]
          rfl
        go_wp2_with fail
        go_ret2
        exact ⟨⟨_, by rw [hend.out]; rfl, (by obtain ⟨ao, cp, h⟩ := hown.out.len; exact ⟨ao, _, cp, h⟩), fun A' h => by rw [hend.out] at h; injection h with h; subst h; exact ⟨hown.out, hnil.out⟩⟩, hbel.out⟩

set_option maxRecDepth 100000 in
set_option maxHeartbeats 8000000 in
theorem args_none (w : World) (base0 : Nat) (tg : Nat) (s : BA) (hs : s.size ≤ 4294967280) (hE : Env base0 w) (x0 : BA) (L' : List BA) (hL : cutsN 32 6 s = x0 :: L') (hno : ¬ (ByteArray.toList x0 = [97, 114, 103, 115] ∧ L'.length ≤ 4)) :
    Calls Tryz.prog 126 #[.string s, .int .i64 (tg : Int)] w fun e w' => (∃ v, e = .returned (.tuple #[v, .bool false]) ∧ IsSl v) ∧ Below w.heap.size w w' := by
  have HE : Hid (Env base0 w) := hE
  have hlen := cutsN_len 6 s (by omega)
  rw [hL] at hlen
  obtain ⟨N, hN⟩ : ∃ N, N = L'.length := ⟨_, rfl⟩
  have HC : Hid (∀ w1, Env base0 w1 → Calls Tryz.prog 158 #[.string s, .int .i64 4] w1 fun e w' => ∃ cap, e = .returned (.slice (some ⟨w1.heap.size, 0, none⟩) (N + 1) cap) ∧ RdT w' 9 1 (.slice (some ⟨w1.heap.size, 0, none⟩) (N + 1) cap) (N + 1) (strs (x0 :: L')) ∧ Below w1.heap.size w1 w' ∧ w1.heap.size < w'.heap.size) := by
    intro w1 h
    have := split_words w1 base0 s 4 (by omega) hs h
    rw [show 4 + 2 = 6 from rfl, hL, List.length_cons, ← hN] at this
    exact this
  have hN5 : N ≤ 5 := by simp at hlen; omega
  rw [← hN] at hno
  clear hL hE hN hlen
  by_cases hx0 : ByteArray.toList x0 = [97, 114, 103, 115]
  · have hN' : N = 5 := by
      rcases Nat.lt_or_ge 4 N with h | h
      · omega
      · exact absurd ⟨hx0, h⟩ hno
    subst hN'
    clear hno
    go_enter Tryz.func126, Tryz.ntmps126
    go_wp2_with (first
      | (go_at_call 158; refine (HC.out _ HE.out).mono ?_; rintro e w1 ⟨cap, rfl, hrd0, hb0, hlt0⟩; have hbel1 : Hid (Below w.heap.size w w1) := hb0; obtain ⟨ao9, cap9, e9, hcap, hcl⟩ := hrd0.cell; injection e9 with e91 e92 e93; subst e93; obtain ⟨g9, off9, e94, hg9, hcl⟩ := hcl (by omega); injection (e91.trans e94) with e95; injection e95 with e96 e97; subst e96; subst e97; have c0 : w1.cell? ⟨w.heap.size, 0, none⟩ = some (.string x0) := hcl 0 _ rfl; clear hrd0 hb0 hcl hg9 e91 e94))
    go_ret2
    exact ⟨⟨_, rfl, ⟨_, _, _, rfl⟩⟩, hbel1.out⟩
  · have hx9 : (ByteArray.toList x0 == [97, 114, 103, 115]) = false := by simpa using hx0
    clear hno
    go_enter Tryz.func126, Tryz.ntmps126
    go_wp2_with (first
      | (go_at_call 158; refine (HC.out _ HE.out).mono ?_; rintro e w1 ⟨cap, rfl, hrd0, hb0, hlt0⟩; have hbel1 : Hid (Below w.heap.size w w1) := hb0; obtain ⟨ao9, cap9, e9, hcap, hcl⟩ := hrd0.cell; injection e9 with e91 e92 e93; subst e93; obtain ⟨g9, off9, e94, hg9, hcl⟩ := hcl (by omega); injection (e91.trans e94) with e95; injection e95 with e96 e97; subst e96; subst e97; have c0 : w1.cell? ⟨w.heap.size, 0, none⟩ = some (.string x0) := hcl 0 _ rfl; clear hrd0 hb0 hcl hg9 e91 e94))
    go_ret2
    exact ⟨⟨_, rfl, ⟨_, _, _, rfl⟩⟩, hbel1.out⟩

/-- An args line. -/
theorem args_any (w : World) (base0 : Nat) (tg : Nat) (htg : tg = 0 ∨ tg = 1) (s : BA) (hs : s.size ≤ 4294967280) (hE : Env base0 w) :
    Calls Tryz.prog 126 #[.string s, .int .i64 (tg : Int)] w fun e w' => (∃ v, e = .returned (.tuple #[v, .bool (argsOf tg (cuts 32 s)).isSome]) ∧ IsSl v ∧ ∀ A, argsOf tg (cuts 32 s) = some A → OwnS w' w.heap.size 111 2 v A.length (vers A) ∧ (A = [] → v = .slice none 0 0)) ∧ Below w.heap.size w w' := by
  rw [← argsOf_cutsN]
  have hlen := cutsN_len 6 s (by omega)
  cases hL : cutsN 32 6 s with
  | nil => rw [hL] at hlen; simp at hlen
  | cons x0 L' =>
    by_cases hc : ByteArray.toList x0 = [97, 114, 103, 115] ∧ L'.length ≤ 4
    · have e : argsOf tg (x0 :: L') = argsGo tg [] L' := by simp only [argsOf]; rw [if_pos hc]
      rw [e]
      exact args_some w base0 tg htg s hs hE x0 L' hL hc.1 hc.2
    · have e : argsOf tg (x0 :: L') = none := by simp only [argsOf]; rw [if_neg hc]
      rw [e]
      refine (args_none w base0 tg s hs hE x0 L' hL hc).mono ?_
      rintro e' w' ⟨⟨v, rfl, hv⟩, hb⟩
      exact ⟨⟨v, rfl, hv, fun l h => by cases h⟩, hb⟩

end Go.Proofs.YtbddcodljmglfaaGreatDoor
