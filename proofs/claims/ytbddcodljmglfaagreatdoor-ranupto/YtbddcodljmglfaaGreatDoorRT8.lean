/- The document's stands, of a program's lines. -/
import Derived.Test.YtbddcodljmglfaaGreatDoorRT7
set_option linter.unusedSimpArgs false
set_option linter.unusedVariables false
namespace Go.Proofs.YtbddcodljmglfaaGreatDoor
open Go.RowKit

def argsR (tg : Nat) (x0 : BA) (ws : List BA) : Prop := ByteArray.toList x0 = [97, 114, 103, 115] ∧ ws.length ≤ 5 ∧ ∀ i, 1 ≤ i → argOk tg ws i
def plainR (tg : Nat) (x0 : BA) (ws : List BA) : Prop := ∃ kd, kindOf x0 = some kd ∧ ws.length = (partsOf kd).length + 1 ∧ ∀ j p x, (partsOf kd)[j]? = some p → ws[j + 1]? = some x → partOk tg p x = true
/-- May line i stand there? x0: its first word; last: that of the line ahead; nb: so many blocks have begun. -/
def standsR (i nb : Nat) (x0 last : BA) (ws : List BA) : Prop :=
  if i = 0 then argsR 0 x0 ws
  else if ByteArray.toList x0 = [98, 108, 111, 99, 107] then ws.length = 1 ∧ ¬ (1 < i ∧ endsW last = false) ∧ nb < 20
  else (1 < i ∧ endsW last = false) ∧ plainR 0 x0 ws

def BoolIff (e : Ending) (P : Prop) : Prop := ∃ b : Bool, e = .returned (.bool b) ∧ (b = true ↔ P)
theorem BoolIff.mk {e : Ending} {P : Prop} (b : Bool) (h1 : e = .returned (.bool b)) (h2 : b = true ↔ P) : BoolIff e P := ⟨b, h1, h2⟩
/-- A line's words in memory. -/
structure WordsIn (w : World) (v : Value) (x0 : BA) (ws : List BA) : Prop where
  row : RdT w 9 1 v ws.length (strs ws)
  pos : 1 ≤ ws.length
  fst : ws[0]? = some x0
  len : ws.length ≤ 4294967290
  small : ∀ x ∈ ws, x.size ≤ 4294967280
theorem WordsIn.below {w w' : World} {v : Value} {x0 : BA} {ws : List BA} (h : WordsIn w v x0 ws) (hb : Below w.heap.size w w') : WordsIn w' v x0 ws := ⟨h.row.below hb, h.pos, h.fst, h.len, h.small⟩
theorem WordsIn.at {w : World} {v : Value} {x0 : BA} {ws : List BA} (h : WordsIn w v x0 ws) : ∃ g off cap, v = .slice (some ⟨g, off, none⟩) ws.length cap ∧ g < w.heap.size ∧ w.cell? ⟨g, off, none⟩ = some (.string x0) := by
  obtain ⟨ao, cap, rfl, hcap, hcl0⟩ := h.row.cell
  obtain ⟨gT, offT, rfl, hgT, hcl⟩ := hcl0 h.pos
  exact ⟨gT, offT, cap, rfl, hgT, hcl 0 _ (by simp [strs, h.fst])⟩

set_option maxRecDepth 100000 in
set_option maxHeartbeats 4000000 in
theorem stands0_any (w : World) (tb gL offL M capL i nb cb : Nat) (bo : Option Addr) (ws ls : List BA) (vw vl : Value) (x0 last : BA) (hiM : i < M) (hM : M ≤ 1000000) (hcM : M ≤ capL)
    (t0 : w.cell? ⟨tb, 0, none⟩ = some (.slice (some ⟨gL, offL, none⟩) M capL)) (t1 : w.cell? ⟨tb, 1, none⟩ = some (.slice bo nb cb)) (t2 : w.cell? ⟨tb, 2, none⟩ = some (.bool false))
    (ci : w.cell? ⟨gL, offL + i, none⟩ = some vw) (hw : WordsIn w vw x0 ws) (hlast : 0 < i → w.cell? ⟨gL, offL + (i - 1), none⟩ = some vl ∧ WordsIn w vl last ls) :
    Calls Tryz.prog 70 #[.pointer (some ⟨tb, 0, none⟩), .int .i64 (i : Int)] w fun e w' => BoolIff e (standsR i nb x0 last ws) ∧ ∃ n, w' = w.drewN n := by
  have hd : ∀ m, Below w.heap.size w (w.drewN m) := fun m => below_drewN (Below.refl _ _) m
  have hx0 : ws[0]'hw.pos = x0 := (List.getElem?_eq_some_iff.1 hw.fst).2
  have HAR : Hid (∀ m, Calls Tryz.prog 120 #[.pointer (some ⟨tb, 0, none⟩), vw] (w.drewN m) fun e w' => (∃ b : Bool, e = .returned (.bool b) ∧ (b = true ↔ argsR 0 x0 ws)) ∧ ∃ n, w' = w.drewN n) := by
    intro m
    refine (rArgs_any (w.drewN m) tb 0 (.inl rfl) vw ws (hw.row.below (hd m)) hw.pos hw.len hw.small t2).mono ?_
    rintro e w' ⟨⟨b, h1, h2⟩, n, rfl⟩
    rw [hx0] at h2
    exact ⟨⟨b, h1, h2⟩, _, World.drewN_drewN _ _ _⟩
  have HPL : Hid (∀ m, Calls Tryz.prog 122 #[.pointer (some ⟨tb, 0, none⟩), vw] (w.drewN m) fun e w' => (∃ b : Bool, e = .returned (.bool b) ∧ (b = true ↔ plainR 0 x0 ws)) ∧ ∃ n, w' = w.drewN n) := by
    intro m
    refine (rPlain_any (w.drewN m) tb 0 (.inl rfl) vw ws (hw.row.below (hd m)) hw.pos hw.len hw.small t2).mono ?_
    rintro e w' ⟨⟨b, h1, h2⟩, n, rfl⟩
    rw [hx0] at h2
    exact ⟨⟨b, h1, h2⟩, _, World.drewN_drewN _ _ _⟩
  have HEN : Hid (∀ W, Calls Tryz.prog 71 #[.string last] W fun e w' => e = .returned (.bool (endsW last)) ∧ w' = W) := fun W => rEnds_any W last
  obtain ⟨gw, ow, cw, rfl, hgw, c0⟩ := hw.at
  obtain ⟨N, hN⟩ : ∃ N, N = ws.length := ⟨_, rfl⟩
  have hN1 := hw.pos
  have hN2 := hw.len
  have HN : Hid (N = ws.length) := hN
  rw [← hN] at ci HAR HPL hN1 hN2
  have T0 : ∀ m, (w.drewN m).cell? ⟨tb, 0, none⟩ = some (.slice (some ⟨gL, offL, none⟩) M capL) := fun _ => t0
  have T1 : ∀ m, (w.drewN m).cell? ⟨tb, 1, none⟩ = some (.slice bo nb cb) := fun _ => t1
  have T2 : ∀ m, (w.drewN m).cell? ⟨tb, 2, none⟩ = some (.bool false) := fun _ => t2
  have CI : ∀ m, (w.drewN m).cell? ⟨gL, offL + i, none⟩ = some (.slice (some ⟨gw, ow, none⟩) N cw) := fun _ => ci
  have C0 : ∀ m, (w.drewN m).cell? ⟨gw, ow, none⟩ = some (.string x0) := fun _ => c0
  clear hw hx0 hN
  by_cases hi0 : i = 0
  · subst hi0
    have HS : Hid (standsR 0 nb x0 last ws = argsR 0 x0 ws) := by show _ = _; unfold standsR; rw [if_pos rfl]
    rw [Nat.add_zero] at ci CI
    clear hlast
    go_enter Tryz.func70, Tryz.ntmps70
    go_wp2_with (first
      | (go_at_call 120; refine (HAR.out 0).mono ?_; rintro e w1 ⟨⟨b, rfl, hb⟩, n1, rfl⟩))
    go_ret
    exact ⟨BoolIff.mk b rfl (by rw [HS.out]; exact hb), n1, rfl⟩
  · obtain ⟨cl, hlw⟩ := hlast (by omega)
    obtain ⟨gl, ol, cpl, rfl, hgl, cl0⟩ := hlw.at
    have CL : ∀ m, (w.drewN m).cell? ⟨gL, offL + (i - 1), none⟩ = some (.slice (some ⟨gl, ol, none⟩) ls.length cpl) := fun _ => cl
    have CL0 : ∀ m, (w.drewN m).cell? ⟨gl, ol, none⟩ = some (.string last) := fun _ => cl0
    have hl1 := hlw.pos
    have hl2 := hlw.len
    clear hlast hlw
    have HST : Hid (standsR i nb x0 last ws ↔ if ByteArray.toList x0 = [98, 108, 111, 99, 107] then N = 1 ∧ ¬ (1 < i ∧ endsW last = false) ∧ nb < 20 else (1 < i ∧ endsW last = false) ∧ plainR 0 x0 ws) := by
      show _ ↔ _
      unfold standsR
      rw [if_neg hi0, HN.out]
    go_enter Tryz.func70, Tryz.ntmps70
    go_wp2_with (first
      | (go_at_call 71; refine (HEN.out _).mono ?_; rintro e w1 ⟨rfl, hw1⟩; rw [hw1]; clear hw1)
      | (go_at_call 122; refine (HPL.out 0).mono ?_; rintro e w2 ⟨⟨b, rfl, hb⟩, n1, rfl⟩))
    all_goals go_ret
    all_goals (first | refine ⟨BoolIff.mk _ rfl ?_, 0, rfl⟩ | refine ⟨BoolIff.mk _ rfl ?_, _, rfl⟩)
    all_goals rw [HST.out]
    all_goals clear T0 T1 T2 CI C0 CL CL0 t0 t1 t2 ci c0 cl cl0 HAR HPL HEN hd HST HN
    all_goals (by_cases hz : 1 < i)
    all_goals (first | (exfalso; omega) | skip)
    all_goals (by_cases hn : N = 1)
    all_goals (first | (exfalso; omega) | skip)
    all_goals (by_cases hnb : nb < 20)
    all_goals (have hnb' := hnb; rw [← Int.ofNat_lt] at hnb')
    all_goals simp_all
    all_goals first | omega | (intros; omega) | (constructor <;> intros <;> omega)

end Go.Proofs.YtbddcodljmglfaaGreatDoor
