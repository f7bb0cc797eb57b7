/- (kind).readAll: the walk. -/
import Derived.Test.YtbddcodljmglfaaGreatDoorReadC
set_option linter.unusedSimpArgs false
set_option linter.unusedVariables false
namespace Go.Proofs.YtbddcodljmglfaaGreatDoor
open Go.RowKit

/-- What goOn does, in one tongue. -/
def GoesOn (tg : Nat) : Prop := ∀ (w : World) (base0 c gB offB ln bl : Nat) (s : BA) (b : BV), s.size ≤ 4294967280 → Env base0 w → OpenB w c gB offB b → c ≤ w.heap.size → b.lines.length ≤ 1000000 → b.phis.length ≤ 1000000 →
  Calls Tryz.prog 127 #[.agg #[.int .i64 (ln : Int), .int .i64 (bl : Int), .int .i64 (tg : Int)], .pointer (some ⟨gB, offB, none⟩), .string s] w fun e w' =>
    (∀ b1 ends, inB tg b.g s = some (b1, ends) → e = .returned (.tuple #[.bool (!ends), .bool true]) ∧ ∃ b', b'.g = b1 ∧ Went w w' c gB offB b b') ∧
    (inB tg b.g s = none → e = .returned (.tuple #[.bool false, .bool false]) ∧ Below w.heap.size w w')

theorem RA.start (w : World) (ln bl tg : Nat) : RA w (((w.alloc (.cells #[.int .i64 (ln : Int), .int .i64 (bl : Int), .int .i64 (tg : Int)] 73)).alloc (.cells #[.slice none 0 0, .slice none 0 0] 52)).alloc (.cells #[.slice none 0 0, .slice none 0 0] 52)) w.heap.size ln bl tg [] [] none (.slice none 0 0) (.slice none 0 0) (w.heap.size + 3) := by
  refine ⟨?_, ?_, ?_, ⟨RdT.nil _ _ _, by simp [Value.ownBlock]⟩, fun _ => rfl, OwnS.nil _ _ _ _, by simp, by simp, Nat.le_refl _, by simp, (((Below.refl _ _).alloc (Nat.le_refl _) _).alloc (by simp) _).alloc (by simp; omega) _, Keeps.of_below ((((Below.refl _ _).alloc (Nat.le_refl _) _).alloc (by simp) _).alloc (by simp; omega) _)⟩
  · exact ((BoxIn.new w _ [.int .i64 (ln : Int), .int .i64 (bl : Int), .int .i64 (tg : Int)]).below ((Below.refl _ _).alloc (Nat.le_refl _) _)).below ((Below.refl _ _).alloc (Nat.le_refl _) _)
  · have := (BoxIn.new (w.alloc (.cells #[.int .i64 (ln : Int), .int .i64 (bl : Int), .int .i64 (tg : Int)] 73)) 52 [.slice none 0 0, .slice none 0 0]).below ((Below.refl _ _).alloc (Nat.le_refl _) (.cells #[.slice none 0 0, .slice none 0 0] 52))
    rw [World.size_alloc] at this
    exact this
  · have := BoxIn.new ((w.alloc (.cells #[.int .i64 (ln : Int), .int .i64 (bl : Int), .int .i64 (tg : Int)] 73)).alloc (.cells #[.slice none 0 0, .slice none 0 0] 52)) 52 [.slice none 0 0, .slice none 0 0]
    rw [World.size_alloc, World.size_alloc] at this
    exact this

abbrev zProg : List Value := [.slice none 0 0, .slice none 0 0]
theorem one_zProg : zProg.toArray.all (·.oneCell') = true := by simp [Value.oneCell']
theorem one_prog {a b c d : Nat} {x y : Option Addr} : [Value.slice x a b, Value.slice y c d].toArray.all (·.oneCell') = true := by simp [Value.oneCell']

theorem inB_count {tg : Nat} {b b1 : BlockG} {s : BA} {e : Bool} (h : inB tg b s = some (b1, e)) : b1.lines.length ≤ b.lines.length + 1 ∧ b1.phis.length ≤ b.phis.length + 1 := by
  unfold inB at h
  split at h
  · injection h with h; injection h with h h'; subst h; simp
  · split at h
    · injection h with h; injection h with h h'; subst h; simp
    · cases h

theorem one3 {a b c : Value} (h1 : a.oneCell' = true) (h2 : b.oneCell' = true) (h3 : c.oneCell' = true) : ∀ u ∈ [a, b, c], u.oneCell' = true := by
  intro u hu
  simp at hu
  rcases hu with rfl | rfl | rfl <;> assumption

def IsProg (v : Value) : Prop := ∃ (x y : Option Addr) (a b c d : Nat), v = .agg #[.slice x a b, .slice y c d]

theorem isProg_z : IsProg (.agg zProg.toArray) := ⟨_, _, _, _, _, _, rfl⟩

/-- What readAll hands back. -/
def AllOut (w w' : World) (r : Except Nat PG) (e : Ending) (N : Nat) : Prop :=
  (∀ p, r = .ok p → ∃ av bv B, e = .returned (.tuple #[.agg #[av, bv], .int .i64 (N : Int), .bool true]) ∧ ProgIn w' av bv p.args B ∧ B.map BV.g = p.closed ∧ IsProg (.agg #[av, bv])) ∧
  (∀ i, r = .error i → ∃ v, e = .returned (.tuple #[v, .int .i64 (i : Int), .bool false]) ∧ IsProg v) ∧ Below w.heap.size w w'

set_option maxRecDepth 100000 in
set_option maxHeartbeats 8000000 in
theorem readAll_any (w : World) (base0 ln bl tg : Nat) (hgo : GoesOn tg) (htg : tg = 0 ∨ tg = 1) (v : Value) (T : List BA) (hT : RdT w 9 1 v T.length (strs T)) (hTs : ∀ x ∈ T, x.size ≤ 4294967280) (hN6 : T.length ≤ 1000000) (hbl : bl ≤ 100) (hE : Env base0 w) :
    Calls Tryz.prog 80 #[.agg #[.int .i64 (ln : Int), .int .i64 (bl : Int), .int .i64 (tg : Int)], v] w fun e w' => AllOut w w' (runL tg bl 0 T ⟨[], [], none⟩) e T.length := by
  have HT : Hid (RdT w 9 1 v T.length (strs T)) := hT
  have HTS : Hid (∀ x ∈ T, x.size ≤ 4294967280) := hTs
  have HE : Hid (Env base0 w) := hE
  have HGO : Hid (GoesOn tg) := hgo
  obtain ⟨ao, cap, rfl, hcap, -⟩ := hT.cell
  obtain ⟨N, hN⟩ : ∃ N, N = T.length := ⟨_, rfl⟩
  have HN : Hid (N = T.length) := hN
  rw [← hN] at HT hcap hN6 ⊢
  clear hT hTs hE hgo hN
  go_enter Tryz.func80, Tryz.ntmps80
  go_wp2_with fail
  go_loopg [8, 14] N (fun g v8 v14 wr => ∃ (i : Nat) (A : List Ver) (B0 : List BV) (cur : Option BV) (av bv : Value) (c : Nat), i + g = N ∧ v14 = .int .i64 i ∧ v8 = .bool cur.isSome ∧ Hid (RA w wr w.heap.size ln bl tg A B0 cur av bv c) ∧ Hid (runL tg bl 0 T ⟨[], [], none⟩ = runL tg bl i (T.drop i) ⟨A, B0.map BV.g, cur.map BV.g⟩) ∧ B0.length ≤ i ∧ Hid (∀ b, cur = some b → b.lines.length ≤ i ∧ b.phis.length ≤ i) ∧ (i = 0 → A = [] ∧ B0 = [] ∧ cur = none))
  case atStart =>
    refine ⟨0, [], [], none, .slice none 0 0, .slice none 0 0, w.heap.size + 3, by omega, rfl, rfl, ?_, rfl, by simp, by simp [Hid], fun _ => ⟨rfl, rfl, rfl⟩⟩
    exact RA.start w ln bl tg
  case round =>
    obtain ⟨i, A, B0, cur, av, bv, c, hig, rfl, rfl, hRA, hrun, hB0, hcnt, hzero⟩ := hrel
    have hlo := hRA.out.lo
    have hhi := hRA.out.hi
    by_cases hiN : i < N
    · have hlt' : i < T.length := HN.out ▸ hiN
      obtain ⟨x, hx⟩ : ∃ x, T[i] = x := ⟨_, rfl⟩
      have hdrop : T.drop i = x :: T.drop (i + 1) := by rw [List.drop_eq_getElem_cons hlt', hx]
      obtain ⟨ao9, cap9, e9, -, hcl0⟩ := (HT.out.keep hRA.out.keep).cell
      obtain ⟨gT, offT, e94, hgT, hcl⟩ := hcl0 (by omega)
      clear hcl0
      injection e9 with e91 e92 e93
      subst e91
      subst e94
      subst e93
      clear e92
      have cx : wr.cell? ⟨gT, offT + i, none⟩ = some (.string x) := hcl i _ (by simp [strs, hlt', hx])
      have hxs : x.size ≤ 4294967280 := HTS.out x (by rw [← hx]; exact List.getElem_mem hlt')
      have hstep : Hid (runL tg bl 0 T ⟨[], [], none⟩ = match stepL tg bl i x ⟨A, B0.map BV.g, cur.map BV.g⟩ with | some p' => runL tg bl (i + 1) (T.drop (i + 1)) p' | none => .error i) := by
        show _ = _
        rw [hrun.out, hdrop]
        rfl
      have HER : Hid (Env base0 wr) := HE.out.below hRA.out.bel
      have hi1 : (0 : Int) ≤ (i : Int) := by omega
      have hi2 : (i : Int) < (N : Int) := by omega
      have HKB : Hid (BoxIn wr w.heap.size 73 _) := hRA.out.kb
      have HRB : Hid (BoxIn wr (w.heap.size + 1) 52 _) := hRA.out.rb
      have HPB : Hid (BoxIn wr (w.heap.size + 1 + 1) 52 _) := hRA.out.pb
      clear hx hdrop hcl hrun
      by_cases hi0 : i = 0
      · obtain ⟨rfl, rfl, rfl⟩ := hzero hi0
        subst hi0
        rw [Nat.add_zero] at cx
        have HA : Hid (∀ w1, Env base0 w1 → Calls Tryz.prog 126 #[.string x, .int .i64 (tg : Int)] w1 fun e w' => (∃ v, e = .returned (.tuple #[v, .bool (argsOf tg (cuts 32 x)).isSome]) ∧ IsSl v ∧ ∀ A, argsOf tg (cuts 32 x) = some A → OwnS w' w1.heap.size 111 2 v A.length (vers A) ∧ (A = [] → v = .slice none 0 0)) ∧ Below w1.heap.size w1 w') := fun w1 h => args_any w1 base0 tg htg x hxs h
        have ck : wr.cell? ⟨w.heap.size, 2, none⟩ = some (.int .i64 (tg : Int)) := HKB.out.cell rfl
        cases hargs : argsOf tg (cuts 32 x) with
        | none =>
          rw [hargs] at HA
          have hend : Hid (runL tg bl 0 T ⟨[], [], none⟩ = .error 0) := by
            show _ = _
            rw [hstep.out]
            simp [stepL, hargs]
          go_wp2_with (first
            | (go_at_call 126; refine (HA.out _ HER.out).mono ?_; rintro e w1 ⟨⟨_, rfl, ⟨ao5, n5, cp5, rfl⟩, -⟩, hb0⟩; have HR1 : Hid (RA w w1 w.heap.size ln bl tg [] [] none av bv c) := hRA.out.below hb0; have p0 := HR1.out.pb.cell (k := 0) rfl; have q0 := HR1.out.pb.frozen 0; clear hb0)
            | (refine wpList_store_box aggProg rfl _ _ rfl _ rfl _ zProg rfl (HR1.out.store 0 (.slice ao5 n5 cp5)).2.1 rfl rfl one_zProg ?_; intro w6 hb6 hg6 hs6))
          refine bodyPost_ret (results_box3 aggProg Tryz.results80 rfl rfl rfl rfl hb6) rfl ?_
          exact ⟨fun p h => (by rw [hend.out] at h; cases h), fun j h => (by rw [hend.out] at h; injection h with h; subst h; exact ⟨_, rfl, isProg_z⟩), (HR1.out.store 0 (.slice ao5 n5 cp5)).2.2.2.1.trans (hg6.below (by have := HR1.out.hi; simp [World.setCell]; omega) (fun k hk => by omega))⟩
        | some A1 =>
          rw [hargs] at HA
          have hnext : Hid (runL tg bl 0 T ⟨[], [], none⟩ = runL tg bl 1 (T.drop 1) ⟨A1, [], none⟩) := by
            show _ = _
            rw [hstep.out]
            simp [stepL, hargs]
          go_wp2_with (first
            | (go_at_call 126; refine (HA.out _ HER.out).mono ?_; rintro e w1 ⟨⟨_, rfl, ⟨ao5, n5, cp5, rfl⟩, hva⟩, hb0⟩; have HR1 : Hid (RA w w1 w.heap.size ln bl tg [] [] none av bv c) := hRA.out.below hb0; have HR2 : Hid (RA w (w1.setCell ⟨w.heap.size + 1 + 1, 0, none⟩ (.slice ao5 n5 cp5)) w.heap.size ln bl tg A1 [] none (.slice ao5 n5 cp5) bv w1.heap.size) := hRA.out.setArgs hb0 (hva A1 rfl).1 (hva A1 rfl).2; have p0 := HR1.out.pb.cell (k := 0) rfl; have q0 := HR1.out.pb.frozen 0; clear hva hb0))
          go_roundg (N - 1)
          case measure => omega
          case rel => exact ⟨1, A1, [], none, _, bv, _, by omega, by go_num, rfl, HR2, hnext, by simp, by simp [Hid], by simp⟩
      · cases cur with
        | none =>
          have hst : stepL tg bl i x ⟨A, B0.map BV.g, Option.map BV.g none⟩ = if ByteArray.toList x = [98, 108, 111, 99, 107] ∧ B0.length < bl then some ⟨A, B0.map BV.g, some ⟨i + 1, [], []⟩⟩ else none := by
            unfold stepL
            rw [if_neg hi0]
            simp
          have c1 : wr.cell? ⟨w.heap.size + 1 + 1, 1, none⟩ = some bv := HPB.out.cell rfl
          have ckb : wr.cell? ⟨w.heap.size, 1, none⟩ = some (.int .i64 (bl : Int)) := HKB.out.cell rfl
          have hOW : Hid (OwnS wr (w.heap.size + 3) 109 3 bv B0.length (cellsB B0)) := by
            have := hRA.out.rows
            simpa [Hid] using this
          obtain ⟨aoB, cpB, rfl⟩ := hOW.out.len
          obtain ⟨i0, hi, hz0, hz1, hz2⟩ := info_parts infoBlock
          have hi0' : ¬ (i : Int) = 0 := by omega
          by_cases hok : ByteArray.toList x = [98, 108, 111, 99, 107] ∧ B0.length < bl
          · have hnext : Hid (runL tg bl 0 T ⟨[], [], none⟩ = runL tg bl (i + 1) (T.drop (i + 1)) ⟨A, B0.map BV.g, some ⟨i + 1, [], []⟩⟩) := by
              show _ = _
              rw [hstep.out, hst, if_pos hok]
            obtain ⟨hx1, hx2⟩ := hok
            have hx2' : (B0.length : Int) < (bl : Int) := by omega
            clear hst
            go_wp2_with (first
              | (at_builtin; refine wpList_append_ownS _ rfl _ _ 50 rfl (w.heap.size + 3) 109 i0 _ 3 56 Tryz.underlying50 hi hz0 hz1 hz2 rfl (by decide) _ _ _ rfl (hOW.out.alloc _) ⟨wr.heap.size, 0, none⟩ 1 1 [.int .i64 ((i : Int) + 1), .slice none 0 0, .slice none 0 0] rfl rfl (cell_newL _ [_, _, _] _ _ rfl) (one3 rfl rfl rfl) (by decide) (by unfold maxLen; omega) (by omega) (by simp; omega) ?_; intro g' off' cap' w7 hown7 hgrow7 hloc7 hlt7; have pb7 := hRA.out.pb.of_block ((grown_below hOW.out hgrow7 (by omega)).block (w.heap.size + 1 + 1) (by omega)); have p1 := pb7.cell (k := 1) rfl; have q1 := pb7.frozen 1; rw [show ((i : Int) + 1) = ((i + 1 : Nat) : Int) by omega] at hown7; have HR7 : Hid _ := hRA.out.fresh hown7 hgrow7; clear pb7 hown7 hgrow7 hloc7 hlt7))
            go_roundg (N - (i + 1))
            case measure => omega
            case rel => exact ⟨i + 1, A, B0, _, av, _, _, by omega, by go_num, rfl, HR7, hnext, by omega, (by intro b hb; injection hb with hb; subst hb; simp), by simp⟩
          · have hend : Hid (runL tg bl 0 T ⟨[], [], none⟩ = .error i) := by
              show _ = _
              rw [hstep.out, hst, if_neg hok]
            clear hst
            by_cases hx1 : ByteArray.toList x = [98, 108, 111, 99, 107]
            · have hx2 : ¬ (B0.length : Int) < (bl : Int) := fun h => hok ⟨hx1, by omega⟩
              clear hok
              go_wp2_with (first
                | (at_builtin; refine wpList_append_ownS _ rfl _ _ 50 rfl (w.heap.size + 3) 109 i0 _ 3 56 Tryz.underlying50 hi hz0 hz1 hz2 rfl (by decide) _ _ _ rfl (hOW.out.alloc _) ⟨wr.heap.size, 0, none⟩ 1 1 [.int .i64 ((i : Int) + 1), .slice none 0 0, .slice none 0 0] rfl rfl (cell_newL _ [_, _, _] _ _ rfl) (one3 rfl rfl rfl) (by decide) (by unfold maxLen; omega) (by omega) (by simp; omega) ?_; intro g' off' cap' w7 hown7 hgrow7 hloc7 hlt7; have pb7 := hRA.out.pb.of_block ((grown_below hOW.out hgrow7 (by omega)).block (w.heap.size + 1 + 1) (by omega)); have p1 := pb7.cell (k := 1) rfl; have q1 := pb7.frozen 1; rw [show ((i : Int) + 1) = ((i + 1 : Nat) : Int) by omega] at hown7; have HR7 : Hid _ := hRA.out.fresh hown7 hgrow7; clear pb7 hown7 hgrow7 hloc7 hlt7)
                | (refine wpList_store_box aggProg rfl _ _ rfl _ rfl _ zProg rfl HR7.out.rb rfl rfl one_zProg ?_; intro w8 hb8 hg8 hs8))
              refine bodyPost_ret (results_box3 aggProg Tryz.results80 rfl rfl rfl rfl hb8) rfl ?_
              exact ⟨fun p h => (by rw [hend.out] at h; cases h), fun j h => (by rw [hend.out] at h; injection h with h; subst h; exact ⟨_, rfl, isProg_z⟩), HR7.out.bel.trans (hg8.below (by have := HR7.out.hi; have := HR7.out.lo; omega) (fun k hk => by omega))⟩
            · have hx9 : (ByteArray.toList x == [98, 108, 111, 99, 107]) = false := by simpa using hx1
              clear hok hx1
              go_wp2_with (first
                | (at_builtin; refine wpList_append_ownS _ rfl _ _ 50 rfl (w.heap.size + 3) 109 i0 _ 3 56 Tryz.underlying50 hi hz0 hz1 hz2 rfl (by decide) _ _ _ rfl (hOW.out.alloc _) ⟨wr.heap.size, 0, none⟩ 1 1 [.int .i64 ((i : Int) + 1), .slice none 0 0, .slice none 0 0] rfl rfl (cell_newL _ [_, _, _] _ _ rfl) (one3 rfl rfl rfl) (by decide) (by unfold maxLen; omega) (by omega) (by simp; omega) ?_; intro g' off' cap' w7 hown7 hgrow7 hloc7 hlt7; have pb7 := hRA.out.pb.of_block ((grown_below hOW.out hgrow7 (by omega)).block (w.heap.size + 1 + 1) (by omega)); have p1 := pb7.cell (k := 1) rfl; have q1 := pb7.frozen 1; rw [show ((i : Int) + 1) = ((i + 1 : Nat) : Int) by omega] at hown7; have HR7 : Hid _ := hRA.out.fresh hown7 hgrow7; clear pb7 hown7 hgrow7 hloc7 hlt7)
                | (refine wpList_store_box aggProg rfl _ _ rfl _ rfl _ zProg rfl HR7.out.rb rfl rfl one_zProg ?_; intro w8 hb8 hg8 hs8))
              refine bodyPost_ret (results_box3 aggProg Tryz.results80 rfl rfl rfl rfl hb8) rfl ?_
              exact ⟨fun p h => (by rw [hend.out] at h; cases h), fun j h => (by rw [hend.out] at h; injection h with h; subst h; exact ⟨_, rfl, isProg_z⟩), HR7.out.bel.trans (hg8.below (by have := HR7.out.hi; have := HR7.out.lo; omega) (fun k hk => by omega))⟩
        | some b =>
          obtain ⟨gB, off, capB, hbv, hO⟩ := hRA.out.opn b rfl
          subst hbv
          have hst : stepL tg bl i x ⟨A, B0.map BV.g, Option.map BV.g (some b)⟩ = match inB tg b.g x with | some (b', true) => some ⟨A, B0.map BV.g ++ [b'], none⟩ | some (b', false) => some ⟨A, B0.map BV.g, some b'⟩ | none => none := by
            unfold stepL
            rw [if_neg hi0]
            rfl
          have hcb := hcnt.out b rfl
          have hi0' : ¬ (i : Int) = 0 := by omega
          have HK : Hid (∀ W, Below wr.heap.size wr W → W.cell? ⟨w.heap.size, 0, none⟩ = some (.int .i64 (ln : Int)) ∧ W.cell? ⟨w.heap.size, 1, none⟩ = some (.int .i64 (bl : Int)) ∧ W.cell? ⟨w.heap.size, 2, none⟩ = some (.int .i64 (tg : Int)) ∧ W.cell? ⟨w.heap.size + 1 + 1, 1, none⟩ = some (.slice (some ⟨gB, off, none⟩) (B0.length + 1) capB)) := fun W hW => ⟨(HKB.out.below hW).cell rfl, (HKB.out.below hW).cell rfl, (HKB.out.below hW).cell rfl, (HPB.out.below hW).cell rfl⟩
          obtain ⟨k0, k1, k2, k3⟩ := HK.out wr (Below.refl _ _)
          have hwrap : IntKind.i64.wrap (B0.length : Int) = (B0.length : Int) := IntWalk.i64_in _ (by omega)
          have hj1 : (0 : Int) ≤ (B0.length : Int) := by omega
          have hj2 : (B0.length : Int) < ((B0.length : Int) + 1) := by omega
          have HGC : Hid (∀ W, Below wr.heap.size wr W → Calls Tryz.prog 127 #[.agg #[.int .i64 (ln : Int), .int .i64 (bl : Int), .int .i64 (tg : Int)], .pointer (some ⟨gB, off + B0.length * 3, none⟩), .string x] W fun e w' =>
              (∀ b1 ends, inB tg b.g x = some (b1, ends) → e = .returned (.tuple #[.bool (!ends), .bool true]) ∧ ∃ b', b'.g = b1 ∧ RA w w' w.heap.size ln bl tg A B0 (some b') av (.slice (some ⟨gB, off, none⟩) (B0.length + 1) capB) c) ∧
              (inB tg b.g x = none → e = .returned (.tuple #[.bool false, .bool false]) ∧ RA w w' w.heap.size ln bl tg A B0 (some b) av (.slice (some ⟨gB, off, none⟩) (B0.length + 1) capB) c)) := by
            intro W hW
            refine (HGO.out W base0 c gB (off + B0.length * 3) ln bl x b hxs (HER.out.below hW) (hO.below hW) (Nat.le_trans hhi hW.size) (by omega) (by omega)).mono ?_
            rintro e w' ⟨h1, h2⟩
            refine ⟨fun b1 ends h => ?_, fun h => ?_⟩
            · obtain ⟨h3, b', h4, h5⟩ := h1 b1 ends h
              exact ⟨h3, b', h4, (hRA.out.below hW).went (hO.below hW) h5⟩
            · obtain ⟨h3, h4⟩ := h2 h
              exact ⟨h3, (hRA.out.below hW).below h4⟩
          cases hin : inB tg b.g x with
          | none =>
            have hend : Hid (runL tg bl 0 T ⟨[], [], none⟩ = .error i) := by
              show _ = _
              rw [hstep.out, hst, hin]
            clear hst
            go_wp2_with fail
            go_region_held3 (fun w' => w'.cell? ⟨w.heap.size, 0, none⟩ = some (.int .i64 (ln : Int)) ∧ w'.cell? ⟨w.heap.size, 1, none⟩ = some (.int .i64 (bl : Int)) ∧ w'.cell? ⟨w.heap.size, 2, none⟩ = some (.int .i64 (tg : Int)) ∧ w'.cell? ⟨w.heap.size + 1 + 1, 1, none⟩ = some (.slice (some ⟨gB, off, none⟩) (B0.length + 1) capB))
              (first | exact HS5.out | ((refine HK.out _ ?_; (repeat (first | assumption | exact Below.refl _ _ | apply Below.drew)))))
              (first | (go_at_call 127; refine (HGC.out _ ?_).mono ?_; (repeat (first | assumption | exact Below.refl _ _ | apply Below.drew)); rintro e w5 ⟨-, h5⟩; obtain ⟨rfl, hR5⟩ := h5 hin; have HR5 : Hid _ := hR5; have HS5 : Hid (_ ∧ _ ∧ _ ∧ _) := ⟨hR5.kb.cell (k := 0) rfl, hR5.kb.cell (k := 1) rfl, hR5.kb.cell (k := 2) rfl, hR5.pb.cell (k := 1) rfl⟩; clear hR5 h5))
            go_wp2_with (first | (refine wpList_store_box aggProg rfl _ _ rfl _ rfl _ zProg rfl HR5.out.rb rfl rfl one_zProg ?_; intro w8 hb8 hg8 hs8))
            refine bodyPost_ret (results_box3 aggProg Tryz.results80 rfl rfl rfl rfl hb8) rfl ?_
            exact ⟨fun p h => (by rw [hend.out] at h; cases h), fun j h => (by rw [hend.out] at h; injection h with h; subst h; exact ⟨_, rfl, isProg_z⟩), HR5.out.bel.trans (hg8.below (by have := HR5.out.hi; have := HR5.out.lo; omega) (fun k hk => by omega))⟩
          | some bb =>
            obtain ⟨b1, ends⟩ := bb
            have hc1 : b1.lines.length ≤ i + 1 ∧ b1.phis.length ≤ i + 1 := by
              have := inB_count hin
              simp [BV.g] at this
              omega
            cases ends with
            | true =>
              have hnext : Hid (runL tg bl 0 T ⟨[], [], none⟩ = runL tg bl (i + 1) (T.drop (i + 1)) ⟨A, B0.map BV.g ++ [b1], none⟩) := by
                show _ = _
                rw [hstep.out, hst, hin]
              clear hst
              go_wp2_with fail
              go_region_held3 (fun w' => w'.cell? ⟨w.heap.size, 0, none⟩ = some (.int .i64 (ln : Int)) ∧ w'.cell? ⟨w.heap.size, 1, none⟩ = some (.int .i64 (bl : Int)) ∧ w'.cell? ⟨w.heap.size, 2, none⟩ = some (.int .i64 (tg : Int)) ∧ w'.cell? ⟨w.heap.size + 1 + 1, 1, none⟩ = some (.slice (some ⟨gB, off, none⟩) (B0.length + 1) capB))
                (first | exact HS5.out | ((refine HK.out _ ?_; (repeat (first | assumption | exact Below.refl _ _ | apply Below.drew)))))
                (first | (go_at_call 127; refine (HGC.out _ ?_).mono ?_; (repeat (first | assumption | exact Below.refl _ _ | apply Below.drew)); rintro e w5 ⟨h5, -⟩; obtain ⟨rfl, b2, hb2, hR5⟩ := h5 _ _ hin; have HR5 : Hid _ := hR5; have HS5 : Hid (_ ∧ _ ∧ _ ∧ _) := ⟨hR5.kb.cell (k := 0) rfl, hR5.kb.cell (k := 1) rfl, hR5.kb.cell (k := 2) rfl, hR5.pb.cell (k := 1) rfl⟩; have HB2 : Hid (b2.g = b1) := hb2; clear hR5 h5 hb2))
              go_wp2_with fail
              go_roundg (N - (i + 1))
              case measure => omega
              case rel => exact ⟨i + 1, A, B0 ++ [b2], none, av, _, _, by omega, by go_num, rfl, HR5.out.close, (by show _ = _; rw [hnext.out, ← HB2.out]; simp), by simp; omega, (by intro b hb; cases hb), by simp⟩
            | false =>
              have hnext : Hid (runL tg bl 0 T ⟨[], [], none⟩ = runL tg bl (i + 1) (T.drop (i + 1)) ⟨A, B0.map BV.g, some b1⟩) := by
                show _ = _
                rw [hstep.out, hst, hin]
              clear hst
              go_wp2_with fail
              go_region_held3 (fun w' => w'.cell? ⟨w.heap.size, 0, none⟩ = some (.int .i64 (ln : Int)) ∧ w'.cell? ⟨w.heap.size, 1, none⟩ = some (.int .i64 (bl : Int)) ∧ w'.cell? ⟨w.heap.size, 2, none⟩ = some (.int .i64 (tg : Int)) ∧ w'.cell? ⟨w.heap.size + 1 + 1, 1, none⟩ = some (.slice (some ⟨gB, off, none⟩) (B0.length + 1) capB))
                (first | exact HS5.out | ((refine HK.out _ ?_; (repeat (first | assumption | exact Below.refl _ _ | apply Below.drew)))))
                (first | (go_at_call 127; refine (HGC.out _ ?_).mono ?_; (repeat (first | assumption | exact Below.refl _ _ | apply Below.drew)); rintro e w5 ⟨h5, -⟩; obtain ⟨rfl, b2, hb2, hR5⟩ := h5 _ _ hin; have HR5 : Hid _ := hR5; have HS5 : Hid (_ ∧ _ ∧ _ ∧ _) := ⟨hR5.kb.cell (k := 0) rfl, hR5.kb.cell (k := 1) rfl, hR5.kb.cell (k := 2) rfl, hR5.pb.cell (k := 1) rfl⟩; have HB2 : Hid (b2.g = b1) := hb2; clear hR5 h5 hb2))
              go_wp2_with fail
              go_roundg (N - (i + 1))
              case measure => omega
              case rel => exact ⟨i + 1, A, B0, some b2, av, _, c, by omega, by go_num, rfl, HR5, (by show _ = _; rw [hnext.out, ← HB2.out]; simp), by omega, (by intro b hb; injection hb with hb; subst hb; have := HB2.out; rw [← this] at hc1; simpa [BV.g] using hc1), by simp⟩
    · have hiE : i = N := by omega
      subst hiE
      have hd : T.drop i = [] := List.drop_eq_nil_of_le (by have := HN.out; omega)
      have hend : Hid (runL tg bl 0 T ⟨[], [], none⟩ = if (Option.map BV.g cur).isNone = true ∧ (B0.map BV.g).length ≠ 0 then .ok ⟨A, B0.map BV.g, Option.map BV.g cur⟩ else .error i) := by
        show _ = _
        rw [hrun.out, hd]
        rfl
      obtain ⟨aoB, cpB, rfl⟩ := hRA.out.rows.len
      obtain ⟨aoA, cpA, hAv⟩ : ∃ ao cp, av = .slice ao A.length cp := by
        obtain ⟨-, ao, cp, h, -⟩ := hRA.out.args.1
        exact ⟨ao, cp, h⟩
      subst hAv
      have HRB : Hid (BoxIn wr (w.heap.size + 1) 52 _) := hRA.out.rb
      have HPB : Hid (BoxIn wr (w.heap.size + 1 + 1) 52 [.slice aoA A.length cpA, .slice aoB (B0 ++ cur.toList).length cpB]) := hRA.out.pb
      have c1 : wr.cell? ⟨w.heap.size + 1 + 1, 1, none⟩ = some (.slice aoB (B0 ++ cur.toList).length cpB) := HPB.out.cell rfl
      clear hrun hd
      cases cur with
      | some b =>
        simp only [Option.toList_some, List.length_append, List.length_cons, List.length_nil, Nat.zero_add] at c1 HPB
        have hlen : (0 : Int) < (B0.length : Int) + 1 := by omega
        go_wp2_with (first
          | (refine wpList_load_box aggProg rfl _ rfl _ rfl _ rfl HPB.out ?_)
          | (refine wpList_store_box aggProg rfl _ _ rfl _ rfl _ [.slice aoA A.length cpA, .slice aoB (B0.length + 1) cpB] rfl HRB.out rfl rfl one_prog ?_; intro w8 hb8 hg8 hs8))
        refine bodyPost_ret (results_box3 aggProg Tryz.results80 rfl rfl rfl rfl hb8) rfl ?_
        have he : runL tg bl 0 T ⟨[], [], none⟩ = .error i := by rw [hend.out]; simp
        exact ⟨fun p h => (by rw [he] at h; cases h), fun j h => (by rw [he] at h; injection h with h; subst h; exact ⟨_, rfl, _, _, _, _, _, _, rfl⟩), hRA.out.bel.trans (hg8.below (by omega) (fun k hk => by omega))⟩
      | none =>
        simp only [Option.toList_none, List.append_nil] at c1 HPB
        by_cases hz : B0.length = 0
        · obtain rfl : B0 = [] := List.eq_nil_of_length_eq_zero hz
          simp only [List.length_nil] at c1 HPB
          go_wp2_with (first
            | (refine wpList_load_box aggProg rfl _ rfl _ rfl _ rfl HPB.out ?_)
            | (refine wpList_store_box aggProg rfl _ _ rfl _ rfl _ [.slice aoA A.length cpA, .slice aoB 0 cpB] rfl HRB.out rfl rfl one_prog ?_; intro w8 hb8 hg8 hs8))
          refine bodyPost_ret (results_box3 aggProg Tryz.results80 rfl rfl rfl rfl hb8) rfl ?_
          have he : runL tg bl 0 T ⟨[], [], none⟩ = .error i := by rw [hend.out]; simp
          exact ⟨fun p h => (by rw [he] at h; cases h), fun j h => (by rw [he] at h; injection h with h; subst h; exact ⟨_, rfl, _, _, _, _, _, _, rfl⟩), hRA.out.bel.trans (hg8.below (by omega) (fun k hk => by omega))⟩
        · have hlen : (0 : Int) < (B0.length : Int) := by omega
          go_wp2_with (first
            | (refine wpList_load_box aggProg rfl _ rfl _ rfl _ rfl HPB.out ?_)
            | (refine wpList_store_box aggProg rfl _ _ rfl _ rfl _ [.slice aoA A.length cpA, .slice aoB B0.length cpB] rfl HRB.out rfl rfl one_prog ?_; intro w8 hb8 hg8 hs8))
          refine bodyPost_ret (results_box3 aggProg Tryz.results80 rfl rfl rfl rfl hb8) rfl ?_
          have he : runL tg bl 0 T ⟨[], [], none⟩ = .ok ⟨A, B0.map BV.g, none⟩ := by rw [hend.out]; simp [hz]
          refine ⟨fun p h => ?_, fun j h => (by rw [he] at h; cases h), hRA.out.bel.trans (hg8.below (by omega) (fun k hk => by omega))⟩
          rw [he] at h
          injection h with h
          subst h
          have keepT : ∀ t, 52 ≠ t → Keeps t wr w8 := by
            intro t ht g cr fr hg
            rw [hg8.block g (fun e => by subst e; rw [show wr.heap[w.heap.size + 1]? = _ from HRB.out] at hg; injection hg with hg; injection hg with _ hg _; exact ht hg) (blk_lt hg)]
            exact hg
          refine ⟨_, _, B0, rfl, ⟨hRA.out.args.1.keep (keepT _ (by decide)), hRA.out.anil, ?_, fun b hb => ?_⟩, rfl, _, _, _, _, _, _, rfl⟩
          · have := hRA.out.rows.rdT.keep (keepT _ (by decide))
            simpa using this
          · have h1 := hRA.out.closed b hb
            exact ⟨⟨h1.phis.1.keep (keepT _ (by decide)), fun g hg => by have := h1.phis.2 g hg; omega⟩, ⟨h1.lines.1.keep (keepT _ (by decide)), fun g hg => by have := h1.lines.2 g hg; omega⟩, fun y hy => (h1.phi y hy).keep (keepT _ (by decide)), fun y hy => (h1.line y hy).keep (keepT _ (by decide)) (keepT _ (by decide))⟩

end Go.Proofs.YtbddcodljmglfaaGreatDoor
