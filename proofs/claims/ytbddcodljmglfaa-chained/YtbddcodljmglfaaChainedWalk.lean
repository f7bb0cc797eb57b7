/- Chained, walked: whatever the numbers, it answers true. -/
import Derived.Test.YtbddcodljmglfaaEdgedFn
import Derived.BigQuiet
set_option linter.unusedSimpArgs false
set_option linter.unusedVariables false
namespace Go.Proofs.Ytbddcodljmglfaa
open Go.RowKit

def LastOk (n : Nat) (L : List (Nat × Nat)) (c : Nat) (v : Int) : Prop := ∃ H : Nat → Nat → Bool, (∀ a c, a < n → c < n → (H a c = true ↔ HeldF L a c)) ∧ v = nearestOf H n c

theorem chn_next {n : Nat} {L : List (Nat × Nat)} {b c : Nat} {l : List Nat} {v : Int} (hL : ∀ x ∈ L, x.1 < n ∧ x.2 < n) (hn : 0 < n) (h : Chn n L b l c) (hv : LastOk n L c v) :
    (v = -1 ∧ c = 0 ∧ ∀ x : Nat, x < n → (x ∈ l ↔ HeldF L x b)) ∨ ∃ a, a < n ∧ v = (a : Int) ∧ Chn n L b (l ++ [a]) a := by
  obtain ⟨H, hH, rfl⟩ := hv
  have hlt : ∀ x : Nat, HeldF L x b → x < n := by
    intro x hx
    refine Reach.ind (Held.reached hx) (fun y => y < n) (fun y hy => by rw [hy.1]; exact hn) (fun y z _ _ he => (hL _ he.1).2)
  rcases nearestOf_spec H n c with ⟨h1, h2⟩ | ⟨a, ha, h1, h2, -⟩
  · obtain ⟨h3, h4⟩ := chn_end hH hlt h hn h2
    exact .inl ⟨h1, h3, fun x _ => h4 x⟩
  · exact .inr ⟨a, ha, h1, chn_step hH hlt h ha h2⟩

theorem bool_not_of {r r2 : Bool} {P Q : Prop} (h1 : r = true ↔ P) (h2 : P ↔ ¬ Q) (h3 : r2 = true ↔ Q) : r2 = !r := by
  rw [h2, ← h3] at h1
  cases r <;> cases r2 <;> simp at h1 ⊢

theorem wrap_nat' {N : Nat} (h : N ≤ 1000000) : IntKind.i64.wrap (N : Int) = (N : Int) := by
  have e : IntKind.i64.bits = 64 := rfl
  simp [IntKind.wrap, IntKind.signed, e]
  omega

set_option maxRecDepth 100000 in
set_option maxHeartbeats 8000000 in
theorem chained_walk (w : World) (size : Int) (hsz : fits size) (ve vf : Value) (xs : List (Int × Int)) (zs : List Int) (he : RdS w 2 ve xs.length (rcells xs)) (hf : RdS w 1 vf zs.length (zs.map (Value.int .i64)))
    (hx : ∀ x ∈ xs, fits x.1 ∧ fits x.2) (hz : ∀ z ∈ zs, fits z) (hxl : xs.length ≤ 17592186044000) (hzl : zs.length ≤ 17592186044000) :
    Calls Try.prog 6 #[.int .i64 size, ve, vf] w fun e w' => e = .returned (.bool true) ∧ Below w.heap.size w w' := by
  obtain ⟨n, hn⟩ : ∃ n, n = 1 + pickN size 39 := ⟨_, rfl⟩
  have hp39 := pickN_lt size (show 0 < 39 by decide)
  have hn39 : n ≤ 39 := by omega
  have hn1 : 1 ≤ n := by omega
  have hcall1 := web_any w size hsz ve (.slice none 0 0) xs [] he ⟨by simp, none, 0, rfl, .inl rfl⟩ hx (by simp) hxl (by simp) n hn
  have HC : Hid (Calls Try.prog 9 _ w _) := hcall1
  have HV : Hid (RdS w 1 vf zs.length (zs.map (Value.int .i64))) := hf
  have HZ : Hid (∀ z ∈ zs, fits z) := hz
  obtain ⟨-, aoE, cpE, rfl, -⟩ := he
  obtain ⟨-, aoF, cpF, rfl, -⟩ := hf
  clear hcall1 hx hz hn hp39
  go_enter Try.func6, Try.ntmps6
  go_wp2_with fail
  refine HC.out.mono ?_
  rintro e w1 ⟨bw, p, m, q, ve1, vd1, rfl, hweb, hb1⟩
  have HW : Hid (WebIn w1 bw w.heap.size p m q n (webL n xs) (webD n []) (webDe n []) ve1 vd1) := hweb
  have HB1 : Hid (Below w.heap.size w w1) := hb1
  clear HC hweb hb1
  generalize webL n xs = L at HW
  generalize webD n [] = D at HW
  generalize webDe n [] = De at HW
  have h40 := HW.out.len40
  have HLT : Hid (∀ x ∈ L, x.1 < n ∧ x.2 < n) := HW.out.graph.lt
  go_wp2_with fail
  go_loopg [8] n (fun g s8 wr => ∃ b : Nat, b + g = n ∧ s8 = .int .i64 b ∧ Hid (Below w1.heap.size w1 wr))
  case atStart => exact ⟨0, by omega, rfl, Below.refl _ _⟩
  case round =>
    obtain ⟨b, hbg, rfl, hbel⟩ := hrel
    have HWR : Hid (WebIn wr bw w.heap.size p m q n L D De ve1 vd1) := HW.out.below hbel.out
    have c0 := HWR.out.c0
    have c1 := HWR.out.c1
    by_cases hbn : b < n
    · go_wp2_with fail
      refine (gLast_any wr p m q n L D HWR.out.graph b hbn).mono ?_
      rintro e w2 ⟨v, x, rfl, hans, hb2⟩
      have HA : Hid (LastAns n (Fwd L (-1) b) (fun a c => HeldF L a c) b v x) := hans
      have HB2 : Hid (Below w1.heap.size w1 w2) := hbel.out.trans (hb2.mono hbel.out.size)
      have HW2 : Hid (WebIn w2 bw w.heap.size p m q n L D De ve1 vd1) := HWR.out.below hb2
      clear hans hb2 hbel HWR c0 c1
      go_wp2_with fail
      refine (webOver_any w2 bw _ p m q n L D De ve1 vd1 HW2.out 0 b (by omega) hbn).mono ?_
      rintro e w3 ⟨r, rfl, hr, hb3⟩
      have HR : Hid (r = true ↔ Fwd L (-1) b) := hr.trans heldF_zero
      have HB3 : Hid (Below w1.heap.size w1 w3) := HB2.out.trans (hb3.mono HB2.out.size)
      clear hr hb3 HB2 HW2
      cases r
      · obtain ⟨rfl, rfl⟩ : v = 0 ∧ x = 5 := by
          rcases HA.out with ⟨-, h⟩ | ⟨hy, -, -⟩
          · exact h
          · have := HR.out.2 hy
            simp at this
        clear HA HR
        go_wp2_with fail
        go_roundg (n - (b + 1))
        case measure => omega
        case rel => exact ⟨b + 1, by omega, by go_num, HB3⟩
      · have hreach : Hid (Fwd L (-1) b) := HR.out.1 rfl
        have HLO : Hid (x = 0 ∧ LastOk n L b v) := by
          rcases HA.out with ⟨hno, -, -⟩ | ⟨-, rfl, H, hH, rfl⟩
          · exact absurd hreach.out hno
          · exact ⟨rfl, H, hH, rfl⟩
        obtain ⟨rfl, hlo⟩ := HLO.out
        have HLK : Hid (LastOk n L b v) := hlo
        have hs3 := HB3.out.size
        have HO0 : Hid (OwnS (w3.alloc (.cells #[.int .i64 b] 3)) w1.heap.size 3 1 (.slice (some ⟨w3.heap.size, 0, none⟩) 1 1) [b].length (nums [b])) := by
          refine ⟨by simp [nums], .inr ⟨w3.heap.size, 0, 1, #[.int .i64 b], rfl, hs3, heap_new rfl, by simp, by unfold maxLen; omega, by simp, ?_⟩⟩
          intro j u hj
          match j, hj with
          | 0, hj => simp [nums] at hj; subst hj; simp
          | j + 1, hj => simp [nums] at hj
        have HB4 : Hid (Below w1.heap.size w1 (w3.alloc (.cells #[.int .i64 b] 3))) := HB3.out.alloc hs3 _
        clear HA HR HLO hlo HB3
        go_wp2_with fail
        go_loopg [9, 10, 12] n (fun g s9 s10 s12 wx => ∃ (v : Int) (l : List Nat) (c N : Nat) (ao : Option Addr) (cp : Nat), N + g = n ∧ N < n ∧ s9 = .int .i64 v ∧ s10 = .int .i64 0 ∧ s12 = .slice ao (N + 1) cp ∧ Hid (l.length = N + 1) ∧ Hid (OwnS wx w1.heap.size 3 1 (.slice ao (N + 1) cp) l.length (nums l)) ∧ Hid (Chn n L b l c) ∧ Hid (l[N]? = some c) ∧ Hid (LastOk n L c v) ∧ Hid (Below w1.heap.size w1 wx))
        case atStart => exact ⟨v, [b], b, 0, _, _, by omega, by omega, rfl, rfl, rfl, rfl, HO0.out, chn_start hbn hreach.out, rfl, HLK.out, HB4.out⟩
        case round =>
          clear HO0 HB4 HLK hs3
          obtain ⟨v, l, c, N, ao, cp, hNg, hNn, rfl, rfl, rfl, HN, hown, hchn, hlast, hlo, hbel⟩ := hrel
          have HWR : Hid (WebIn wr bw w.heap.size p m q n L D De ve1 vd1) := HW.out.below hbel.out
          have c0 := HWR.out.c0
          have c1 := HWR.out.c1
          rcases chn_next HLT.out (by omega) hchn.out hlo.out with ⟨rfl, hc0, hall⟩ | ⟨a, han, rfl, hchn'⟩
          · have HALL : Hid (∀ x : Nat, x < n → (x ∈ l ↔ HeldF L x b)) := hall
            obtain ⟨hll, aoz, cpz, hfz, hr5⟩ := hown.out.rd
            simp only [Value.slice.injEq] at hfz
            obtain ⟨rfl, -, rfl⟩ := hfz
            rcases hr5 with hr5 | ⟨g5, off5, rfl, hr5⟩
            · have := HN.out
              omega
            have c5 : wr.cell? ⟨g5, off5 + N, none⟩ = some (.int .i64 0) := by
              have h1 : (nums l)[N]? = some (.int .i64 ((c : Nat) : Int)) := by
                simp only [nums, List.getElem?_map, hlast.out, Option.map_some]
              rw [hr5 _ _ h1, hc0]
              rfl
            have hwN := wrap_nat' (N := N) (by omega)
            clear hr5 hll hall hc0
            have HCR : Hid (Fwd L (-1) b) := hreach
            clear hchn hlo HWR c0 hlast
            go_wp2_with fail
            clear c5 hwN c1
            go_loopg [13] n (fun g2 s13 wy => ∃ a : Nat, a + g2 = n ∧ s13 = .int .i64 a ∧ Hid (Below w1.heap.size w1 wy) ∧ Hid (OwnS wy w1.heap.size 3 1 (.slice (some ⟨g5, off5, none⟩) (N + 1) cp) l.length (nums l)))
            case atStart => exact ⟨0, by omega, rfl, hbel, hown⟩
            case round =>
              clear hbel hown
              obtain ⟨a, hag, rfl, hbel, hown⟩ := hrel
              have HWR : Hid (WebIn wr bw w.heap.size p m q n L D De ve1 vd1) := HW.out.below hbel.out
              have c1 := HWR.out.c1
              by_cases han : a < n
              · go_wp2_with fail
                refine (webOver_any wr bw _ p m q n L D De ve1 vd1 HWR.out a b han hbn).mono ?_
                rintro e w4 ⟨r, rfl, hr, hb4⟩
                have HR : Hid (r = true ↔ HeldF L a b) := hr
                have HB4 : Hid (Below w1.heap.size w1 w4) := hbel.out.trans (hb4.mono hbel.out.size)
                have HO4 : Hid (OwnS w4 w1.heap.size 3 1 (.slice (some ⟨g5, off5, none⟩) (N + 1) cp) l.length (nums l)) := hown.out.of_block fun k hk => hb4.block _ (hown.out.lt k hk).2
                have HW4 : Hid (WebIn w4 bw w.heap.size p m q n L D De ve1 vd1) := HWR.out.below hb4
                have hdec : decide (a ∈ l) = r := by
                  rw [Bool.eq_iff_iff, HR.out, ← HALL.out a han]
                  simp
                have ham := among_any w4 l _ HO4.out.rd (by have := HN.out; omega) a
                rw [hdec] at ham
                have HAM : Hid (Calls Try.prog 12 _ w4 _) := ham
                clear hr hb4 hbel hown HWR c1 hdec ham
                go_wp2_with fail
                refine HAM.out.mono ?_
                rintro e w5 ⟨rfl, h5⟩
                replace h5 := h5.symm
                subst h5
                clear HAM
                go_wp2_with fail
                refine (webAvoids_any w4 bw _ p m q n L D De ve1 vd1 HW4.out (by omega) (by omega) a b hbn).mono ?_
                rintro e w6 ⟨r2, rfl, hr2, hb6⟩
                have hrr : r2 = !r := bool_not_of HR.out ⟨fun h => h.2, fun h => ⟨HCR.out, h⟩⟩ hr2
                subst hrr
                have HB6 : Hid (Below w1.heap.size w1 w6) := HB4.out.trans (hb6.mono HB4.out.size)
                have HO6 : Hid (OwnS w6 w1.heap.size 3 1 (.slice (some ⟨g5, off5, none⟩) (N + 1) cp) l.length (nums l)) := HO4.out.of_block fun k hk => hb6.block _ (HO4.out.lt k hk).2
                clear hr2 hb6 HR HB4 HO4 HW4
                cases r
                all_goals
                  go_wp2_with fail
                  go_roundg (n - (a + 1))
                  case measure => omega
                  case rel => exact ⟨a + 1, by omega, by go_num, HB6, HO6⟩
              · go_wp2_with fail
                go_roundg (n - (b + 1))
                case measure => omega
                case rel => exact ⟨b + 1, by omega, by go_num, hbel⟩
          · have HCH : Hid (Chn n L b (l ++ [a]) a) := hchn'
            have hle := chn_le hchn'
            simp only [List.length_append, List.length_cons, List.length_nil] at hle
            have hNl : N + 2 ≤ n := by have := HN.out; omega
            obtain ⟨i0, hi0, hz0, hz1, hz2⟩ := info_parts infoInt
            have hs := hbel.out.size
            have HO : Hid (OwnS wr w1.heap.size 3 1 (.slice ao (N + 1) cp) (N + 1) (nums l)) := by have := hown.out; rw [HN.out] at this; exact this
            clear hchn' hle hchn
            go_wp2_with (first | (at_builtin; refine wpList_append_ownS _ rfl _ _ 26 rfl w1.heap.size 3 i0 (.int .i64 0) 1 8 Try.underlying26 hi0 hz0 hz1 hz2 rfl (by decide) _ _ _ rfl (HO.out.alloc _) ⟨wr.heap.size, 0, none⟩ 1 1 [.int .i64 (a : Int)] rfl rfl (cell_new1 _ _ _) (fun u hu => nums_one u a hu) (by decide) (by unfold maxLen; omega) (by omega) (by simp; omega) ?_; intro g' off' cap' w6 hown6 hgrow6 hloc6 hlt6; have HB6 : Hid (Below w1.heap.size w1 w6) := (hbel.out.alloc hs _).grown hgrow6 (by simp; omega) (fun j hj => (HO.out.lt j hj).1); have HW6 : Hid (WebIn w6 bw w.heap.size p m q n L D De ve1 vd1) := HW.out.below HB6.out; have d0 := HW6.out.c0))
            have HO6 : Hid (OwnS w6 w1.heap.size 3 1 (.slice (some ⟨g', off', none⟩) (N + 1 + 1) cap') (N + 1 + 1) (nums (l ++ [a]))) := by
              show OwnS _ _ _ _ _ _ _
              rw [nums_append]
              simpa [nums] using hown6
            clear hown6 hgrow6 hloc6 hlt6 HO hown HWR c0 c1 hbel hlo
            refine (gLast_any w6 p m q n L D HW6.out.graph a han).mono ?_
            rintro e w7 ⟨v', x', rfl, hans, hb7⟩
            have HLO : Hid (x' = 0 ∧ LastOk n L a v') := by
              rcases hans with ⟨hno, -, -⟩ | ⟨-, rfl, H, hH, rfl⟩
              · exact absurd HCH.out.reached hno
              · exact ⟨rfl, H, hH, rfl⟩
            obtain ⟨rfl, hlo'⟩ := HLO.out
            have HLK : Hid (LastOk n L a v') := hlo'
            have HB7 : Hid (Below w1.heap.size w1 w7) := HB6.out.trans (hb7.mono HB6.out.size)
            have HO7 : Hid (OwnS w7 w1.heap.size 3 1 (.slice (some ⟨g', off', none⟩) (N + 1 + 1) cap') (N + 1 + 1) (nums (l ++ [a]))) := HO6.out.of_block fun k hk => hb7.block _ (HO6.out.lt k hk).2
            have hlen7 : Hid ((l ++ [a]).length = N + 1 + 1) := by show _ = _; have := HN.out; simp; omega
            clear hans hb7 HLO hlo' HB6 HO6 HW6 d0
            go_wp2_with fail
            go_roundg (n - (N + 1))
            case measure => omega
            case rel => exact ⟨v', l ++ [a], a, N + 1, _, _, by omega, by omega, rfl, rfl, rfl, hlen7, by show OwnS _ _ _ _ _ _ _; rw [hlen7.out]; exact HO7.out, HCH, by show _ = _; rw [List.getElem?_append_right (by have := HN.out; omega)]; have := HN.out; rw [this]; simp, HLK, HB7⟩
    · go_wp2_with fail
      refine (webEdged_any wr bw w.heap.size p m q n L D De ve1 vd1 HWR.out hn1 (by omega) _ zs (HV.out.below ?_) HZ.out hzl).mono ?_
      · exact HB1.out.trans (hbel.out.mono HB1.out.size)
      · rintro e w9 ⟨rfl, hb9⟩
        have hfin : Hid (Below w.heap.size w w9) := (HB1.out.trans (hbel.out.mono HB1.out.size)).trans (hb9.mono (Nat.le_trans HB1.out.size hbel.out.size))
        clear hb9
        go_wp2_with fail
        go_ret
        exact ⟨rfl, hfin.out⟩

end Go.Proofs.Ytbddcodljmglfaa
