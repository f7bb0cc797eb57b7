/- Words one after another, and phis by them: of no program's run. And what follows on it. -/
import Derived.Test.YtbddcodljmglfaaGreatDoorMathA
import Derived.Test.YtbddcodljmglfaaGreatDoorTextA
import Derived.Lib.ItoaLen
set_option linter.unusedSimpArgs false
set_option linter.unusedVariables false
namespace Go.Proofs.YtbddcodljmglfaaGreatDoor

theorem cutAt_free {c : UInt8} {s : BA} (h : ∀ b ∈ s.data.toList, b ≠ c) : cutAt c s = none := by
  unfold cutAt
  rw [List.findIdx?_eq_none_iff]
  intro x hx
  simpa using h x hx
theorem cutAt_hit {c : UInt8} {s : BA} {a r : List UInt8} (hs : s.data.toList = a ++ c :: r) (h : ∀ b ∈ a, b ≠ c) : cutAt c s = some a.length := by
  unfold cutAt
  rw [hs, List.findIdx?_append]
  have : a.findIdx? (· == c) = none := by
    rw [List.findIdx?_eq_none_iff]
    intro x hx
    simpa using h x hx
  rw [this]
  simp [List.findIdx?_cons]
/-- The third that Cut tells. -/
theorem libCut_some (c : UInt8) (s : BA) : (Lib.cut s.data.toList [c]).2.2 = (cutAt c s).isSome := by
  rcases first_cut c s.data.toList with h | ⟨a, r, hs, h⟩
  · rw [cutAt_free h]
    have := index_miss c _ h
    simp [Lib.cut, this]
  · rw [cutAt_hit hs h]
    have := index_hit c a r h
    rw [hs]
    simp [Lib.cut, this]
/-- Words, one after another. -/
theorem cuts_cut (c : UInt8) (s : BA) : cuts c s = cutHead c s :: (if (cutAt c s).isSome = true then cuts c (cutTail c s) else []) := by
  rcases first_cut c s.data.toList with h | ⟨a, r, hs, h⟩
  · rw [cutAt_free h]
    unfold cuts cutHead
    rw [cutAt_free h, cutsB_none c _ h]
    simp [ofL_eq rfl]
  · have hat := cutAt_hit hs h
    have e1 : cutHead c s = ofL a := by
      unfold cutHead
      rw [hat]
      simp only
      symm
      apply ofL_eq
      rw [extract_list, hs]
      simp
    have e2 : (cutTail c s).data.toList = r := by
      unfold cutTail
      rw [hat]
      simp only
      rw [extract_list]
      have hsz : s.size = s.data.toList.length := by rw [Array.length_toList]; rfl
      rw [hsz, List.take_length, hs]
      rw [show a.length + 1 = (a ++ [c]).length by simp, show a ++ c :: r = (a ++ [c]) ++ r by simp, List.drop_left]
    rw [hat, e1]
    unfold cuts
    rw [e2, hs, cutsB_hit c a r h]
    simp

/-- A phi's beginning. -/
theorem prefix_words (s : BA) : (Lib.hasPrefix s.data.toList [112, 104, 105, 32] = true → ∃ t : BA, t.data.toList = Lib.trimPrefix s.data.toList [112, 104, 105, 32] ∧ t.size ≤ s.size ∧ cuts 32 s = (⟨#[112, 104, 105]⟩ : BA) :: cuts 32 t) ∧ (Lib.hasPrefix s.data.toList [112, 104, 105, 32] = false → phiOf (cuts 32 s) = none) := by
  constructor
  · intro h
    have hp : [112, 104, 105, 32] <+: s.data.toList := by simpa [Lib.hasPrefix] using h
    obtain ⟨r, hr⟩ := hp
    refine ⟨ofL r, ?_, ?_, ?_⟩
    · rw [ofL_data]
      unfold Lib.trimPrefix
      rw [h]
      simp [← hr]
    · show r.toArray.size ≤ s.data.size
      have := congrArg List.length hr
      rw [Array.length_toList] at this
      simp at this ⊢
      omega
    · have hs : s.data.toList = [112, 104, 105] ++ (32 :: r) := by rw [← hr]; rfl
      unfold cuts
      rw [hs, cutsB_hit 32 [112, 104, 105] r (by decide), ofL_data]
      rfl
  · intro h
    have hp : ¬ [112, 104, 105, 32] <+: s.data.toList := by
      intro hc
      have := List.isPrefixOf_iff_prefix.2 hc
      unfold Lib.hasPrefix at h
      rw [this] at h
      cases h
    rcases first_cut 32 s.data.toList with hf | ⟨a, r, hs, hf⟩
    · unfold cuts
      rw [cutsB_none 32 _ hf]
      rfl
    · unfold cuts
      rw [hs, cutsB_hit 32 a r hf]
      cases hc : cutsB 32 r with
      | nil => exact absurd hc (cutsB_ne 32 r)
      | cons v cs =>
        simp only [List.map_cons, phiOf]
        rw [if_neg]
        intro he
        rw [ByteArray.toList_eq, ofL_data] at he
        subst he
        exact hp ⟨r, by rw [hs]; rfl⟩

theorem choices_snoc : ∀ (L : List BA) (x : BA), choicesOf (L ++ [x]) = match choicesOf L with
    | some l => (match choiceOf x with | some c => some (l ++ [c]) | none => none)
    | none => none
  | [], x => by
    simp only [List.nil_append, choicesOf]
    cases choiceOf x <;> rfl
  | b :: r, x => by
    simp only [List.cons_append, choicesOf, choices_snoc r x]
    cases choiceOf b with
    | none => rfl
    | some c =>
      cases choicesOf r with
      | none => rfl
      | some l => cases choiceOf x <;> rfl
theorem choices_bad {L R : List BA} {x : BA} (h : choiceOf x = none) : choicesOf (L ++ x :: R) = none := by
  induction L with
  | nil => simp [choicesOf, h]
  | cons b r ih =>
    simp only [List.cons_append, choicesOf, ih]
    cases choiceOf b <;> rfl

end Go.Proofs.YtbddcodljmglfaaGreatDoor

namespace Go.Proofs.YtbddcodljmglfaaGreatDoor
open Go.RowKit

/-- Is a word of a phi a choice? -/
def phiW (x : BA) : Bool := (cutAt 58 x).isSome && (blkB (cutHead 58 x)).isSome && (readVer 1 (cutTail 58 x)).isSome
def phiB (ws : List BA) : Bool := decide (2 ≤ ws.length) && (match ws[1]? with | some x => (readVer 1 x).isSome | none => false) && (ws.drop 2).all phiW

theorem headSize (c : UInt8) (s : BA) : (cutHead c s).size ≤ s.size := by
  unfold cutHead
  split
  · simp only [ByteArray.size_extract]; omega
  · exact Nat.le_refl _

set_option maxRecDepth 100000 in
set_option maxHeartbeats 4000000 in
theorem rPhi_any (w : World) (tb : Nat) (v : Value) (ws : List BA) (hv : RdT w 9 1 v ws.length (strs ws)) (h1 : 1 ≤ ws.length) (hl : ws.length ≤ 4294967290) (hs : ∀ x ∈ ws, x.size ≤ 4294967280) (ht : w.cell? ⟨tb, 2, none⟩ = some (.bool true)) :
    Calls Tryz.prog 121 #[.pointer (some ⟨tb, 0, none⟩), v] w fun e w' => e = .returned (.bool (phiB ws)) ∧ ∃ n, w' = w.drewN n := by
  obtain ⟨ao, cap, rfl, hcap, hcl0⟩ := hv.cell
  obtain ⟨gT, offT, rfl, hgT, hcl⟩ := hcl0 h1
  have HCL : Hid (∀ j x, ws[j]? = some x → w.cell? ⟨gT, offT + j, none⟩ = some (.string x)) := fun j x hx => hcl j _ (by simp [strs, hx])
  have HS : Hid (∀ x ∈ ws, x.size ≤ 4294967280) := hs
  obtain ⟨N, hN⟩ : ∃ N, N = ws.length := ⟨_, rfl⟩
  have HN : Hid (N = ws.length) := hN
  rw [← hN] at h1 hl hcap ⊢
  clear hs hv hcl0 hcl hN
  by_cases h2 : N < 2
  · have HF : Hid (phiB ws = false) := by
      show _ = _
      unfold phiB
      rw [decide_eq_false (by have := HN.out; omega)]
      simp
    have h2' : (N : Int) < 2 := by omega
    go_enter Tryz.func121, Tryz.ntmps121
    go_wp2_with fail
    go_ret
    exact ⟨by rw [HF.out]; rfl, 0, rfl⟩
  · have h2' : ¬ (N : Int) < 2 := by omega
    obtain ⟨x1, hx1⟩ : ∃ x, ws[1]? = some x := ⟨_, List.getElem?_eq_getElem (by have := HN.out; omega)⟩
    have c1 : w.cell? ⟨gT, offT + 1, none⟩ = some (.string x1) := HCL.out 1 x1 hx1
    have hx1s : x1.size ≤ 4294967280 := HS.out x1 (List.mem_of_getElem? hx1)
    have HVA : Hid (∀ m x, x.size ≤ 4294967280 → Calls Tryz.prog 156 #[.pointer (some ⟨tb, 0, none⟩), .string x] (w.drewN m) fun e w' => e = .returned (.bool (readVer 1 x).isSome) ∧ ∃ n, w' = w.drewN n) := fun m x hx => (variable_any (w.drewN m) tb 1 (.inr rfl) x hx ht).mono (by rintro e w' ⟨h1, n, rfl⟩; exact ⟨h1, _, World.drewN_drewN _ _ _⟩)
    have HVA0 : Hid (Calls Tryz.prog 156 #[.pointer (some ⟨tb, 0, none⟩), .string x1] w fun e w' => e = .returned (.bool (readVer 1 x1).isSome) ∧ ∃ n, w' = w.drewN n) := HVA.out 0 x1 hx1s
    have HF : Hid (phiB ws = ((readVer 1 x1).isSome && (ws.drop 2).all phiW)) := by
      show _ = _
      unfold phiB
      rw [hx1, decide_eq_true (by have := HN.out; omega)]
      simp
    generalize (readVer 1 x1).isSome = b1 at *
    have hcap' : (N : Int) ≤ (cap : Int) := by omega
    go_enter Tryz.func121, Tryz.ntmps121
    go_wp2_with (first | (go_at_call 156; refine HVA0.out.mono ?_; rintro e w1 ⟨rfl, n1, rfl⟩))
    go_loopg [5, 6] (N - 2) (fun g v5 v6 wr => ∃ (k : Nat) (bb : Bool), k + g = N ∧ 2 ≤ k ∧ v5 = .bool bb ∧ Hid (bb = (b1 && ((ws.drop 2).take (k - 2)).all phiW)) ∧ v6 = .int .i64 k ∧ Hid (∃ n, wr = w.drewN n))
    case atStart => exact ⟨2, b1, by omega, by omega, rfl, (by show _ = _; simp), rfl, ⟨_, rfl⟩⟩
    case round =>
      obtain ⟨k, bb, hkg, hk2, rfl, hbb, rfl, hwr⟩ := hrel
      obtain ⟨n0, rfl⟩ := hwr.out
      clear hwr
      by_cases hkN : k < N
      · obtain ⟨x, hx⟩ : ∃ x, ws[k]? = some x := ⟨_, List.getElem?_eq_getElem (by have := HN.out; omega)⟩
        have hxs : x.size ≤ 4294967280 := HS.out x (List.mem_of_getElem? hx)
        have cx : ∀ m, (w.drewN m).cell? ⟨gT, offT + k, none⟩ = some (.string x) := fun m => HCL.out k x hx
        have hh := headSize 58 x
        have htl := cutTail_size 58 x
        have HCU : Hid (∀ W, Calls Tryz.prog 92 #[.string x, .int .u8 58] W fun e w' => e = .returned (.tuple #[.string (cutHead 58 x), .string (cutTail 58 x), .bool (cutAt 58 x).isSome]) ∧ ∃ n, w' = W.drewN n) := fun W => cut_any W x 58 hxs
        have HBL : Hid (∀ W, Calls Tryz.prog 94 #[.string (cutHead 58 x), .int .i64 0, .int .i64 1000000000] W fun e w' => ∃ n : Int, e = .returned (.tuple #[.int .i64 n, .bool (blkB (cutHead 58 x)).isSome]) ∧ w' = W) := fun W => (rNumber_any W _ _ _ (by omega) (by omega) (by omega) (by omega) (by omega)).mono (by rintro e w' ⟨n, h1, -, h2⟩; rw [numR_blk] at h1; refine ⟨n, ?_, h2⟩; rw [h1]; cases blkB (cutHead 58 x) <;> rfl)
        have HVA1 : Hid (∀ m, Calls Tryz.prog 156 #[.pointer (some ⟨tb, 0, none⟩), .string (cutTail 58 x)] (w.drewN m) fun e w' => e = .returned (.bool (readVer 1 (cutTail 58 x)).isSome) ∧ ∃ n, w' = w.drewN n) := fun m => HVA.out m _ (by omega)
        have HPW : Hid (phiW x = ((cutAt 58 x).isSome && (blkB (cutHead 58 x)).isSome && (readVer 1 (cutTail 58 x)).isSome)) := rfl
        have HALL : Hid (((ws.drop 2).take (k + 1 - 2)).all phiW = (((ws.drop 2).take (k - 2)).all phiW && phiW x)) := by
          show _ = _
          rw [show k + 1 - 2 = (k - 2) + 1 by omega, List.take_add_one]
          have : (ws.drop 2)[k - 2]? = some x := by rw [List.getElem?_drop, show 2 + (k - 2) = k by omega]; exact hx
          rw [this]
          simp
        generalize cutHead 58 x = H at *
        generalize cutTail 58 x = T at *
        generalize (cutAt 58 x).isSome = q1 at *
        generalize (blkB H).isSome = q2 at *
        generalize (readVer 1 T).isSome = q3 at *
        generalize ((ws.drop 2).take (k - 2)).all phiW = q0 at HALL hbb
        clear hh htl hx
        go_wp2_with (first
          | (go_at_call 92; refine (HCU.out _).mono ?_; rintro e w2 ⟨rfl, n2, rfl⟩; rw [World.drewN_drewN])
          | (go_at_call 94; refine (HBL.out _).mono ?_; rintro e w3 ⟨n3, rfl, hw3⟩; rw [hw3]; clear hw3)
          | (go_at_call 156; refine (HVA1.out _).mono ?_; rintro e w4 ⟨rfl, n4, rfl⟩))
        all_goals
          go_roundg (N - (k + 1))
          case measure => omega
          case rel => exact ⟨k + 1, _, by omega, by omega, rfl, (by show _ = _; rw [HALL.out, HPW.out, ← Bool.and_assoc, ← hbb.out]; simp_all), by go_num, ⟨_, rfl⟩⟩
      · have hkE : k = N := by omega
        have HALL : Hid (((ws.drop 2).take (k - 2)).all phiW = (ws.drop 2).all phiW) := by
          show _ = _
          rw [List.take_of_length_le (by simp; have := HN.out; omega)]
        go_wp2_with fail
        go_ret
        exact ⟨by rw [HF.out, ← HALL.out, ← hbb.out]; rfl, _, rfl⟩

end Go.Proofs.YtbddcodljmglfaaGreatDoor

namespace Go.Proofs.YtbddcodljmglfaaGreatDoor
open Go.RowKit

/-- May line i of a form stand there? -/
def standsF (i nb : Nat) (x0 last : BA) (ws : List BA) : Prop :=
  if i = 0 then argsR 1 x0 ws
  else if ByteArray.toList x0 = [98, 108, 111, 99, 107] then ws.length = 1 ∧ ¬ (1 < i ∧ endsW last = false) ∧ nb < 40
  else (1 < i ∧ endsW last = false) ∧ if ByteArray.toList x0 = [112, 104, 105] then phiB ws = true ∧ (ByteArray.toList last = [98, 108, 111, 99, 107] ∨ ByteArray.toList last = [112, 104, 105]) else plainR 1 x0 ws

set_option maxRecDepth 100000 in
set_option maxHeartbeats 4000000 in
theorem stands1_any (w : World) (tb gL offL M capL i nb cb : Nat) (bo : Option Addr) (ws ls : List BA) (vw vl : Value) (x0 last : BA) (hiM : i < M) (hM : M ≤ 1000000) (hcM : M ≤ capL)
    (t0 : w.cell? ⟨tb, 0, none⟩ = some (.slice (some ⟨gL, offL, none⟩) M capL)) (t1 : w.cell? ⟨tb, 1, none⟩ = some (.slice bo nb cb)) (t2 : w.cell? ⟨tb, 2, none⟩ = some (.bool true))
    (ci : w.cell? ⟨gL, offL + i, none⟩ = some vw) (hw : WordsIn w vw x0 ws) (hlast : 0 < i → w.cell? ⟨gL, offL + (i - 1), none⟩ = some vl ∧ WordsIn w vl last ls) :
    Calls Tryz.prog 70 #[.pointer (some ⟨tb, 0, none⟩), .int .i64 (i : Int)] w fun e w' => BoolIff e (standsF i nb x0 last ws) ∧ ∃ n, w' = w.drewN n := by
  have hd : ∀ m, Below w.heap.size w (w.drewN m) := fun m => below_drewN (Below.refl _ _) m
  have hx0 : ws[0]'hw.pos = x0 := (List.getElem?_eq_some_iff.1 hw.fst).2
  have HAR : Hid (∀ m, Calls Tryz.prog 120 #[.pointer (some ⟨tb, 0, none⟩), vw] (w.drewN m) fun e w' => (∃ b : Bool, e = .returned (.bool b) ∧ (b = true ↔ argsR 1 x0 ws)) ∧ ∃ n, w' = w.drewN n) := by
    intro m
    refine (rArgs_any (w.drewN m) tb 1 (.inr rfl) vw ws (hw.row.below (hd m)) hw.pos hw.len hw.small t2).mono ?_
    rintro e w' ⟨⟨b, h1, h2⟩, n, rfl⟩
    rw [hx0] at h2
    exact ⟨⟨b, h1, h2⟩, _, World.drewN_drewN _ _ _⟩
  have HPL : Hid (∀ m, Calls Tryz.prog 122 #[.pointer (some ⟨tb, 0, none⟩), vw] (w.drewN m) fun e w' => (∃ b : Bool, e = .returned (.bool b) ∧ (b = true ↔ plainR 1 x0 ws)) ∧ ∃ n, w' = w.drewN n) := by
    intro m
    refine (rPlain_any (w.drewN m) tb 1 (.inr rfl) vw ws (hw.row.below (hd m)) hw.pos hw.len hw.small t2).mono ?_
    rintro e w' ⟨⟨b, h1, h2⟩, n, rfl⟩
    rw [hx0] at h2
    exact ⟨⟨b, h1, h2⟩, _, World.drewN_drewN _ _ _⟩
  have HPH : Hid (∀ m, Calls Tryz.prog 121 #[.pointer (some ⟨tb, 0, none⟩), vw] (w.drewN m) fun e w' => e = .returned (.bool (phiB ws)) ∧ ∃ n, w' = w.drewN n) := by
    intro m
    refine (rPhi_any (w.drewN m) tb vw ws (hw.row.below (hd m)) hw.pos hw.len hw.small t2).mono ?_
    rintro e w' ⟨h1, n, rfl⟩
    exact ⟨h1, _, World.drewN_drewN _ _ _⟩
  have HEN : Hid (∀ W, Calls Tryz.prog 71 #[.string last] W fun e w' => e = .returned (.bool (endsW last)) ∧ w' = W) := fun W => rEnds_any W last
  obtain ⟨gw, ow, cw, rfl, hgw, c0⟩ := hw.at
  obtain ⟨N, hN⟩ : ∃ N, N = ws.length := ⟨_, rfl⟩
  have hN1 := hw.pos
  have hN2 := hw.len
  have HN : Hid (N = ws.length) := hN
  rw [← hN] at ci HAR HPL HPH hN1 hN2
  have T0 : ∀ m, (w.drewN m).cell? ⟨tb, 0, none⟩ = some (.slice (some ⟨gL, offL, none⟩) M capL) := fun _ => t0
  have T1 : ∀ m, (w.drewN m).cell? ⟨tb, 1, none⟩ = some (.slice bo nb cb) := fun _ => t1
  have T2 : ∀ m, (w.drewN m).cell? ⟨tb, 2, none⟩ = some (.bool true) := fun _ => t2
  have CI : ∀ m, (w.drewN m).cell? ⟨gL, offL + i, none⟩ = some (.slice (some ⟨gw, ow, none⟩) N cw) := fun _ => ci
  have C0 : ∀ m, (w.drewN m).cell? ⟨gw, ow, none⟩ = some (.string x0) := fun _ => c0
  clear hw hx0 hN
  by_cases hi0 : i = 0
  · subst hi0
    have HS : Hid (standsF 0 nb x0 last ws = argsR 1 x0 ws) := by show _ = _; unfold standsF; rw [if_pos rfl]
    rw [Nat.add_zero] at ci CI
    clear hlast
    go_enter Tryz.func70, Tryz.ntmps70
    go_wp2_with (first
      | (go_at_call 120; refine (HAR.out 0).mono ?_; rintro e w1 ⟨⟨b, rfl, hb⟩, n1, rfl⟩))
    go_ret
    exact ⟨BoolIff.mk b rfl (by rw [HS.out]; exact hb), n1, rfl⟩
  · obtain ⟨cl, hlw⟩ := hlast (by omega)
    obtain ⟨gl, ol, cpl, rfl, hgl, cl0⟩ := hlw.at
    have CL : ∀ m, (w.drewN m).cell? ⟨gL, offL + (i - 1), none⟩ = some (.slice (some ⟨gl, ol, none⟩) ls.length cpl) := fun _ => cl
    have CL0 : ∀ m, (w.drewN m).cell? ⟨gl, ol, none⟩ = some (.string last) := fun _ => cl0
    have hl1 := hlw.pos
    have hl2 := hlw.len
    clear hlast hlw
    have HST : Hid (standsF i nb x0 last ws ↔ if ByteArray.toList x0 = [98, 108, 111, 99, 107] then N = 1 ∧ ¬ (1 < i ∧ endsW last = false) ∧ nb < 40 else (1 < i ∧ endsW last = false) ∧ if ByteArray.toList x0 = [112, 104, 105] then phiB ws = true ∧ (ByteArray.toList last = [98, 108, 111, 99, 107] ∨ ByteArray.toList last = [112, 104, 105]) else plainR 1 x0 ws) := by
      show _ ↔ _
      unfold standsF
      rw [if_neg hi0, HN.out]
    generalize phiB ws = pb at *
    go_enter Tryz.func70, Tryz.ntmps70
    go_wp2_with (first
      | (go_at_call 121; refine (HPH.out 0).mono ?_; rintro e w2 ⟨rfl, n1, rfl⟩)
      | (go_at_call 71; refine (HEN.out _).mono ?_; rintro e w1 ⟨rfl, hw1⟩; rw [hw1]; clear hw1)
      | (go_at_call 122; refine (HPL.out 0).mono ?_; rintro e w2 ⟨⟨b, rfl, hb⟩, n1, rfl⟩))
    all_goals go_ret
    all_goals (first | refine ⟨BoolIff.mk _ rfl ?_, 0, rfl⟩ | refine ⟨BoolIff.mk _ rfl ?_, _, rfl⟩)
    all_goals rw [HST.out]
    all_goals clear T0 T1 T2 CI C0 CL CL0 t0 t1 t2 ci c0 cl cl0 HAR HPL HPH HEN hd HST HN
    all_goals (by_cases hz : 1 < i)
    all_goals (first | (exfalso; omega) | skip)
    all_goals (by_cases hn : N = 1)
    all_goals (first | (exfalso; omega) | skip)
    all_goals (by_cases hnb : nb < 40)
    all_goals (have hnb' := hnb; rw [← Int.ofNat_lt] at hnb')
    all_goals simp_all
    all_goals first | omega | (intros; omega) | (constructor <;> intros <;> omega)

end Go.Proofs.YtbddcodljmglfaaGreatDoor

namespace Go.Proofs.YtbddcodljmglfaaGreatDoor

theorem num_word {t : BA} {n : Int} (h : numB t = some n) : t.data.toList = Lib.itoa n := by
  unfold numB at h
  split at h
  · split at h
    · rename_i v hv hc
      injection h with h
      subst h
      rw [← hc.1]
    · cases h
  · cases h
theorem num_empty : numB ByteArray.empty = none := by rw [numB_eq]; kernel_rfl
theorem num_zero : numB ⟨#[48]⟩ = some 0 := by rw [numB_eq]; kernel_rfl
theorem cut_parts {c : UInt8} {s : BA} (h : (cutAt c s).isSome = true) : s.data.toList = (cutHead c s).data.toList ++ c :: (cutTail c s).data.toList := by
  rcases first_cut c s.data.toList with hf | ⟨a, r, hs, hf⟩
  · rw [cutAt_free hf] at h; cases h
  · have hat := cutAt_hit hs hf
    have hsz : s.size = s.data.toList.length := by rw [Array.length_toList]; rfl
    have e1 : (cutHead c s).data.toList = a := by
      unfold cutHead
      rw [hat]
      simp only
      rw [extract_list, hs]
      simp
    have e2 : (cutTail c s).data.toList = r := by
      unfold cutTail
      rw [hat]
      simp only
      rw [extract_list, hsz, List.take_length, hs]
      rw [show a.length + 1 = (a ++ [c]).length by simp, show a ++ c :: r = (a ++ [c]) ++ r by simp, List.drop_left]
    rw [e1, e2]
    exact hs
theorem tail_none {c : UInt8} {s : BA} (h : (cutAt c s).isSome = false) : cutTail c s = ByteArray.empty := by
  unfold cutTail
  cases hq : cutAt c s with
  | none => rfl
  | some i => rw [hq] at h; cases h
/-- A version's word. -/
theorem ver_parts {s : BA} {v : Ver} (h : readVer 1 s = some v) : (cutAt 46 s).isSome = true ∧ cutHead 46 s = v.1 ∧ numB (cutTail 46 s) = some (v.2 : Int) := by
  unfold readVer at h
  rw [if_neg (by decide)] at h
  cases hq : (cutAt 46 s).isSome with
  | false =>
    rw [tail_none hq, num_empty] at h
    cases h
  | true =>
    cases hn : numB (cutTail 46 s) with
    | none => rw [hn] at h; cases h
    | some n =>
      rw [hn] at h
      simp only at h
      split at h
      · rename_i hc
        injection h with h
        subst h
        refine ⟨rfl, rfl, ?_⟩
        simp only
        rw [Int.toNat_of_nonneg hc.2.1]
      · cases h
theorem ver_inj {x y : BA} {v : Ver} (hx : readVer 1 x = some v) (hy : readVer 1 y = some v) : x = y := by
  obtain ⟨a1, a2, a3⟩ := ver_parts hx
  obtain ⟨b1, b2, b3⟩ := ver_parts hy
  apply ba_ext
  rw [ByteArray.toList_eq, ByteArray.toList_eq, cut_parts a1, cut_parts b1, a2, b2, num_word a3, num_word b3]
theorem ver_zero {x : BA} {v : Ver} (hx : readVer 1 x = some v) : zeroV x = true ↔ v.2 = 0 := by
  obtain ⟨-, -, a3⟩ := ver_parts hx
  unfold zeroV
  rw [beq_iff_eq, ByteArray.toList_eq]
  constructor
  · intro h
    have : numB (cutTail 46 x) = some 0 := by
      have e : cutTail 46 x = ⟨#[48]⟩ := by apply ba_ext; rw [ByteArray.toList_eq, ByteArray.toList_eq, h]
      rw [e]
      exact num_zero
    rw [this] at a3
    injection a3 with a3
    omega
  · intro h
    rw [h] at a3
    have h1 := num_word a3
    have h2 := num_word num_zero
    rw [h1]
    exact h2.symm
theorem ver_name {x : BA} {v : Ver} (hx : readVer 1 x = some v) : isNm v.1 = true := by
  have hx0 := hx
  obtain ⟨-, a2, -⟩ := ver_parts hx
  unfold readVer at hx0
  rw [if_neg (by decide)] at hx0
  split at hx0
  · split at hx0
    · rename_i hc; rw [← a2]; exact hc.1
    · cases hx0
  · cases hx0

end Go.Proofs.YtbddcodljmglfaaGreatDoor

namespace Go.Proofs.YtbddcodljmglfaaGreatDoor

theorem argsGo1 : ∀ (bs : List BA) (acc : List Ver),
    ((argsGo 1 acc bs).isSome = true ↔ ∀ (k : Nat) (b : BA), bs[k]? = some b → (∃ v, readVer 1 b = some v ∧ v.2 = 0 ∧ v ∉ acc) ∧ ∀ (j : Nat) (c : BA), j < k → bs[j]? = some c → c ≠ b) ∧ ∀ A, argsGo 1 acc bs = some A → ∃ vs : List Ver, A = acc ++ vs ∧ bs.map (readVer 1) = vs.map some
  | [], acc => by
    refine ⟨by simp [argsGo], fun A h => ⟨[], ?_, rfl⟩⟩
    simp [argsGo] at h
    simp [h]
  | x :: r, acc => by
    unfold argsGo
    cases hv : readVer 1 x with
    | none =>
      refine ⟨?_, fun A h => by cases h⟩
      constructor
      · intro h; cases h
      · intro h
        obtain ⟨⟨v, h1, -⟩, -⟩ := h 0 x (by simp)
        rw [hv] at h1
        cases h1
    | some v =>
      simp only
      by_cases hh : v.2 = 0 ∧ verHas acc v = false
      · rw [if_pos hh]
        have hmem : v ∉ acc := fun h => by rw [verHas_iff.2 h] at hh; exact absurd hh.2 (by decide)
        obtain ⟨h1, h2⟩ := argsGo1 r (acc ++ [v])
        refine ⟨?_, fun A h => ?_⟩
        · rw [h1]
          constructor
          · intro h k b hk
            cases k with
            | zero =>
              simp at hk
              subst hk
              exact ⟨⟨v, hv, hh.1, hmem⟩, fun j c hj => absurd hj (by omega)⟩
            | succ k =>
              obtain ⟨⟨u, a0, a1, a2⟩, a3⟩ := h k b (by simpa using hk)
              refine ⟨⟨u, a0, a1, fun hm => a2 (List.mem_append_left _ hm)⟩, fun j c hj hc => ?_⟩
              cases j with
              | zero =>
                simp at hc
                subst hc
                intro e
                subst e
                rw [hv] at a0
                injection a0 with a0
                subst a0
                exact a2 (by simp)
              | succ j => exact a3 j c (by omega) (by simpa using hc)
          · intro h k b hk
            obtain ⟨⟨u, a0, a1, a2⟩, a3⟩ := h (k + 1) b (by simpa using hk)
            refine ⟨⟨u, a0, a1, ?_⟩, fun j c hj hc => a3 (j + 1) c (by omega) (by simpa using hc)⟩
            intro hm
            rcases List.mem_append.1 hm with hm | hm
            · exact a2 hm
            · simp at hm
              subst hm
              exact a3 0 x (by omega) (by simp) (ver_inj hv a0)
        · obtain ⟨vs, h3, h4⟩ := h2 A h
          exact ⟨v :: vs, by rw [h3]; simp, by simp [hv, h4]⟩
      · rw [if_neg hh]
        refine ⟨?_, fun A h => by cases h⟩
        constructor
        · intro h; cases h
        · intro h
          obtain ⟨⟨u, h1, h2, h3⟩, -⟩ := h 0 x (by simp)
          rw [hv] at h1
          injection h1 with h1
          subst h1
          exact absurd ⟨h2, by cases hq : verHas acc v with | false => rfl | true => exact absurd (verHas_iff.1 hq) h3⟩ hh

theorem args_bridge1 (x0 : BA) (bs : List BA) : argsR 1 x0 (x0 :: bs) ↔ (argsOf 1 (x0 :: bs)).isSome = true := by
  unfold argsR
  rw [argsOf_cons]
  by_cases h0 : ByteArray.toList x0 = [97, 114, 103, 115] ∧ bs.length ≤ 4
  · rw [if_pos h0, (argsGo1 bs []).1]
    constructor
    · rintro ⟨-, -, h⟩ k b hk
      obtain ⟨a1, a2, a3⟩ := h (k + 1) (by omega) b (by simpa using hk)
      obtain ⟨v, hv⟩ := Option.isSome_iff_exists.1 a1
      exact ⟨⟨v, hv, (ver_zero hv).1 (a2 rfl), by simp⟩, fun j c hj hc => a3 (j + 1) c (by omega) (by omega) (by simpa using hc)⟩
    · intro h
      refine ⟨h0.1, by simp; omega, fun i hi x hx => ?_⟩
      obtain ⟨k, rfl⟩ : ∃ k, i = k + 1 := ⟨i - 1, by omega⟩
      obtain ⟨⟨v, a0, a1, -⟩, a3⟩ := h k x (by simpa using hx)
      refine ⟨by rw [a0]; rfl, fun _ => (ver_zero a0).2 a1, fun j y h1 h2 hy => ?_⟩
      obtain ⟨m, rfl⟩ : ∃ m, j = m + 1 := ⟨j - 1, by omega⟩
      exact a3 m y (by omega) (by simpa using hy)
  · rw [if_neg h0]
    constructor
    · rintro ⟨h1, h2, -⟩
      exact absurd ⟨h1, by simp at h2; omega⟩ h0
    · intro h; cases h

theorem plain_bridge1 (x0 : BA) (bs : List BA) : plainR 1 x0 (x0 :: bs) ↔ (lineOf 1 (x0 :: bs)).isSome = true := by
  unfold plainR
  rw [lineOf_cons]
  cases hk : kindOf x0 with
  | none => simp
  | some kd =>
    simp only []
    rw [fillG_ok]
    constructor
    · rintro ⟨kd', h, h1, h2⟩
      injection h with h
      subst h
      exact ⟨by simpa using h1, fun j p x hp hx => h2 j p x hp (by simpa using hx)⟩
    · rintro ⟨h1, h2⟩
      exact ⟨kd, rfl, by simp [h1], fun j p x hp hx => h2 j p x hp (by simpa using hx)⟩

def isPhi (x : BA) : Bool := ByteArray.toList x == [112, 104, 105]
theorem choice_some (x : BA) : (choiceOf x).isSome = phiW x := by
  unfold choiceOf phiW
  cases hq : (cutAt 58 x).isSome with
  | false =>
    have hr : readVer 1 (cutTail 58 x) = none := by
      cases hv : readVer 1 (cutTail 58 x) with
      | none => rfl
      | some v =>
        rw [tail_none hq] at hv
        have := (ver_parts hv).1
        exact absurd this (by decide)
    rw [hr]
    cases blkB (cutHead 58 x) <;> rfl
  | true =>
    cases blkB (cutHead 58 x) with
    | none => rfl
    | some n => cases readVer 1 (cutTail 58 x) <;> rfl
theorem choices_some : ∀ L : List BA, (choicesOf L).isSome = L.all phiW
  | [] => rfl
  | b :: r => by
    have h1 := choice_some b
    have h2 := choices_some r
    simp only [choicesOf, List.all_cons]
    cases hb : choiceOf b with
    | none => rw [hb] at h1; rw [← h1]; rfl
    | some c =>
      rw [hb] at h1
      cases hr : choicesOf r with
      | none => rw [hr] at h2; rw [← h1, ← h2]; rfl
      | some l => rw [hr] at h2; rw [← h1, ← h2]; rfl
theorem phi_bridge {x0 : BA} (h0 : isPhi x0 = true) (bs : List BA) : phiB (x0 :: bs) = (phiOf (x0 :: bs)).isSome := by
  have h0' : ByteArray.toList x0 = [112, 104, 105] := by simpa [isPhi] using h0
  cases bs with
  | nil => rfl
  | cons v cs =>
    unfold phiB
    simp only [phiOf]
    rw [if_pos h0']
    have h2 := choices_some cs
    simp only [List.length_cons, List.getElem?_cons_succ, List.getElem?_cons_zero, List.drop_succ_cons, List.drop_zero]
    rw [← h2, decide_eq_true (by omega)]
    cases readVer 1 v with
    | none => rfl
    | some sv => cases choicesOf cs <;> rfl
theorem phi_other {x0 : BA} (h0 : isPhi x0 = false) (bs : List BA) : phiOf (x0 :: bs) = none := by
  have h0' : ¬ ByteArray.toList x0 = [112, 104, 105] := by simpa [isPhi] using h0
  cases bs with
  | nil => rfl
  | cons v cs =>
    simp only [phiOf]
    rw [if_neg h0']
theorem kind_phi {x : BA} (h : isPhi x = true) : kindOf x = none := by
  have : ByteArray.toList x = [112, 104, 105] := by simpa [isPhi] using h
  unfold kindOf
  rw [this]
  rfl
theorem phi_noblock {x : BA} (h : isPhi x = true) : isBlock x = false := by
  have : ByteArray.toList x = [112, 104, 105] := by simpa [isPhi] using h
  unfold isBlock
  rw [this]
  rfl

/-- May line i of a form stand there? -/
def standsFB (i nb : Nat) (last : BA) (ws : List BA) : Bool :=
  if i = 0 then (argsOf 1 ws).isSome
  else if isBlock (hd ws) = true then decide (ws.length = 1) && !(decide (1 < i) && !endsW last) && decide (nb < 40)
  else (decide (1 < i) && !endsW last) && (if isPhi (hd ws) = true then (phiOf ws).isSome && (isBlock last || isPhi last) else (lineOf 1 ws).isSome)
theorem standsFB_iff (i nb : Nat) (x0 last : BA) (bs : List BA) : standsFB i nb last (x0 :: bs) = true ↔ standsF i nb x0 last (x0 :: bs) := by
  unfold standsFB standsF
  by_cases hi : i = 0
  · rw [if_pos hi, if_pos hi, args_bridge1]
  · rw [if_neg hi, if_neg hi]
    by_cases hb : ByteArray.toList x0 = [98, 108, 111, 99, 107]
    · rw [if_pos (by simpa [isBlock, hd] using hb), if_pos hb]
      have e1 : (x0 :: bs).length = 1 ↔ bs = [] := by simp
      by_cases h1 : bs = [] <;> by_cases h2 : 1 < i <;> by_cases h3 : nb < 40 <;> cases endsW last <;> simp [h1, h2, h3] <;> omega
    · rw [if_neg (by simpa [isBlock, hd] using hb), if_neg hb]
      by_cases hp : ByteArray.toList x0 = [112, 104, 105]
      · have hp' : isPhi x0 = true := by simpa [isPhi] using hp
        rw [if_pos (by simpa [hd] using hp'), if_pos hp, ← phi_bridge hp']
        unfold isBlock isPhi
        cases endsW last <;> cases phiB (x0 :: bs) <;> simp
      · rw [if_neg (by simpa [isPhi, hd] using hp), if_neg hp, plain_bridge1]
        cases endsW last <;> simp

/-- The document's loop over a form's lines. -/
def docLF : Nat → Nat → BA → List BA → Except Nat Nat
  | i, nb, last, [] => if endsW last = true then .ok nb else .error i
  | i, nb, last, s :: r => if standsFB i nb last (cuts 32 s) = true then docLF (i + 1) (if isBlock (hd (cuts 32 s)) = true then nb + 1 else nb) (hd (cuts 32 s)) r else .error i

end Go.Proofs.YtbddcodljmglfaaGreatDoor

namespace Go.Proofs.YtbddcodljmglfaaGreatDoor

theorem addPart_what1 {p : Nat} {b : BA} {l l' : LineG} (h : addPart 1 p b l = some l') :
    l'.word = l.word ∧ (if p = 1 then readVer 1 b = some l'.sets else l'.sets = l.sets) ∧ (if p = 2 then ∃ v, readVer 1 b = some v ∧ l'.takes = l.takes ++ [v] else l'.takes = l.takes) ∧ l'.leads = l.leads ++ (if p = 1 ∨ p = 2 ∨ p = 3 then [] else [(blkB b).getD 0]) := by
  unfold addPart at h
  by_cases h1 : p = 1
  · subst h1
    simp only [if_true] at h
    cases hv : readVer 1 b with
    | none => rw [hv] at h; cases h
    | some v => rw [hv] at h; simp at h; subst h; simp
  · rw [if_neg h1] at h
    by_cases h2 : p = 2
    · subst h2
      simp only [if_true] at h
      cases hv : readVer 1 b with
      | none => rw [hv] at h; cases h
      | some v => rw [hv] at h; simp at h; subst h; simp
    · rw [if_neg h2] at h
      by_cases h3 : p = 3
      · subst h3
        simp only [if_true] at h
        cases hb : numB b with
        | none => rw [hb] at h; cases h
        | some v => rw [hb] at h; simp at h; subst h; simp
      · rw [if_neg h3] at h
        cases hb : blkB b with
        | none => rw [hb] at h; cases h
        | some v => rw [hb] at h; simp at h; subst h; simp [h1, h2, h3]

theorem fillG_what1 : ∀ (ps : List Nat) (bs : List BA) (l l' : LineG), (∀ p ∈ ps, p = 1 ∨ p = 2 ∨ p = 3 ∨ p = 4) → fillG 1 ps bs l = some l' → l'.word = l.word ∧ (∃ vs : List Ver, l'.takes = l.takes ++ vs ∧ (takesG ps bs).map (readVer 1) = vs.map some) ∧ l'.leads = l.leads ++ leadsG ps bs
  | [], [], l, l', _, h => by simp [fillG] at h; subst h; simp [takesG, leadsG]
  | [], _ :: _, l, l', _, h => by simp [fillG] at h
  | _ :: _, [], l, l', _, h => by simp [fillG] at h
  | p :: ps, b :: bs, l, l', hp, h => by
    unfold fillG at h
    split at h
    · rename_i m hm
      obtain ⟨a1, -, a3, a4⟩ := addPart_what1 hm
      obtain ⟨b1, ⟨vs, b2, b3⟩, b4⟩ := fillG_what1 ps bs m l' (fun q hq => hp q (List.mem_cons_of_mem _ hq)) h
      refine ⟨b1.trans a1, ?_, ?_⟩
      · by_cases h2 : p = 2
        · rw [if_pos h2] at a3
          obtain ⟨v, hv, e⟩ := a3
          exact ⟨v :: vs, by rw [b2, e]; simp, by simp [takesG, h2, hv, b3]⟩
        · rw [if_neg h2] at a3
          exact ⟨vs, by rw [b2, a3], by simp [takesG, h2, b3]⟩
      · rw [b4, a4]
        rcases hp p (by simp) with rfl | rfl | rfl | rfl <;> simp [leadsG]
    · cases h
theorem fillG_sets1 : ∀ (ps : List Nat) (bs : List BA) (l l' : LineG), (∀ p ∈ ps, p ≠ 1) → fillG 1 ps bs l = some l' → l'.sets = l.sets
  | [], [], l, l', _, h => by simp [fillG] at h; subst h; rfl
  | [], _ :: _, l, l', _, h => by simp [fillG] at h
  | _ :: _, [], l, l', _, h => by simp [fillG] at h
  | p :: ps, b :: bs, l, l', hp, h => by
    unfold fillG at h
    split at h
    · rename_i m hm
      have := (addPart_what1 hm).2.1
      rw [if_neg (hp p (by simp))] at this
      rw [fillG_sets1 ps bs m l' (fun q hq => hp q (List.mem_cons_of_mem _ hq)) h, this]
    · cases h
/-- What a line of a form says, against its words. -/
theorem line_what1 {x0 : BA} {bs : List BA} {l : LineG} (h : lineOf 1 (x0 :: bs) = some l) : kindOf x0 = some l.word ∧ (takesR x0 (x0 :: bs)).map (readVer 1) = l.takes.map some ∧ l.leads = leadsR x0 (x0 :: bs) := by
  rw [lineOf_cons] at h
  unfold takesR leadsR
  cases hk : kindOf x0 with
  | none => rw [hk] at h; cases h
  | some kd =>
    rw [hk] at h
    obtain ⟨h1, ⟨vs, h2, h3⟩, h4⟩ := fillG_what1 _ _ _ _ (parts_range ⟨kd, kindOf_lt hk⟩) h
    simp at h2
    subst h2
    exact ⟨by rw [h1], by simpa using h3, by simpa using h4⟩
/-- What a line sets: nothing, on both sides, or a version by its word. -/
theorem line_sets1 {x0 : BA} {bs : List BA} {l : LineG} (h : lineOf 1 (x0 :: bs) = some l) : (setsR x0 (x0 :: bs) = ByteArray.empty ∧ l.sets = noVer) ∨ readVer 1 (setsR x0 (x0 :: bs)) = some l.sets := by
  rw [lineOf_cons] at h
  unfold setsR
  cases hk : kindOf x0 with
  | none => rw [hk] at h; cases h
  | some kd =>
    rw [hk] at h
    simp only at h
    have hkd := kindOf_lt hk
    have ht := parts_tail ⟨kd, hkd⟩
    have hpos := parts_pos ⟨kd, hkd⟩
    simp only at ht hpos
    show ((if (partsOf kd)[0]? = some 1 then (x0 :: bs).getD 1 ByteArray.empty else ByteArray.empty) = ByteArray.empty ∧ l.sets = noVer) ∨ readVer 1 (if (partsOf kd)[0]? = some 1 then (x0 :: bs).getD 1 ByteArray.empty else ByteArray.empty) = some l.sets
    obtain ⟨ps, hps⟩ : ∃ ps, ps = partsOf kd := ⟨_, rfl⟩
    rw [← hps] at ht hpos h ⊢
    clear hps
    cases ps with
    | nil => simp at hpos
    | cons p ps =>
      cases bs with
      | nil => simp [fillG] at h
      | cons b bs =>
        unfold fillG at h
        split at h
        · rename_i m hm
          have h1 := fillG_sets1 ps bs m l (by simpa using ht) h
          have h2 := (addPart_what1 hm).2.1
          by_cases hp : p = 1
          · rw [if_pos hp] at h2
            right
            rw [h1]
            simpa [hp] using h2
          · rw [if_neg hp] at h2
            left
            rw [h1, h2]
            simp [hp]
        · cases h

/-- What the two have in common ahead of line i of a form. -/
structure RelF (i : Nat) (p : PG) (nb : Nat) (last : BA) : Prop where
  cnt : nb = p.closed.length + (if p.cur.isSome = true then 1 else 0)
  start : i ≤ 1 → p.closed = [] ∧ p.cur = none
  ends : i = 1 → endsW last = false
  cur : 1 < i → (p.cur.isSome = true ↔ endsW last = false)
  some1 : 1 < i → 1 ≤ nb
  here : ∀ b, p.cur = some b → b.first + b.phis.length + b.lines.length = i ∧ (b.lines.length = 0 ↔ (isBlock last = true ∨ isPhi last = true))

theorem relF_end {i nb : Nat} {p : PG} {last : BA} (h : RelF i p nb last) (hi : 0 < i) : (p.cur.isNone = true ∧ p.closed.length ≠ 0) ↔ endsW last = true := by
  by_cases h1 : i = 1
  · rw [h.ends h1, (h.start (by omega)).1]
    simp
  · have h2 := h.cur (by omega)
    have h3 := h.some1 (by omega)
    have h4 := h.cnt
    cases hc : p.cur with
    | none =>
      rw [hc] at h2 h4
      simp at h2 h4
      simp [h2]
      intro hq
      rw [hq] at h4
      simp at h4
      omega
    | some b =>
      rw [hc] at h2
      simp at h2
      simp [h2]
theorem kind_noblock {x : BA} {k : Nat} (h : kindOf x = some k) : isBlock x = false ∧ isPhi x = false := by
  constructor
  · cases hq : isBlock x with
    | false => rfl
    | true => rw [kind_block hq] at h; cases h
  · cases hq : isPhi x with
    | false => rfl
    | true => rw [kind_phi hq] at h; cases h

theorem relF_step {i nb : Nat} {p : PG} {last : BA} (h : RelF i p nb last) (s : BA) :
    (∀ p', stepL 1 40 i s p = some p' → standsFB i nb last (cuts 32 s) = true ∧ RelF (i + 1) p' (if isBlock (hd (cuts 32 s)) = true then nb + 1 else nb) (hd (cuts 32 s))) ∧ (stepL 1 40 i s p = none → standsFB i nb last (cuts 32 s) = false) := by
  obtain ⟨x0, bs, hc⟩ := cuts_cons s
  rw [hc]
  have hhd : hd (x0 :: bs) = x0 := rfl
  rw [hhd]
  unfold stepL standsFB
  rw [hc, hhd]
  by_cases hi : i = 0
  · rw [if_pos hi, if_pos hi]
    cases ha : argsOf 1 (x0 :: bs) with
    | none => exact ⟨fun p' h => (by cases h), fun _ => rfl⟩
    | some a =>
      refine ⟨fun p' hp => ?_, fun hp => (by cases hp)⟩
      injection hp with hp
      subst hp
      have hx : ByteArray.toList x0 = [97, 114, 103, 115] := by
        rw [argsOf_cons] at ha
        split at ha
        · rename_i hq; exact hq.1
        · cases ha
      have hb : isBlock x0 = false := by unfold isBlock; rw [hx]; rfl
      have he : endsW x0 = false := by unfold endsW kindOf; rw [hx]; rfl
      have hst := h.start (by omega)
      refine ⟨rfl, ?_, fun _ => hst, fun _ => he, fun h1 => absurd h1 (by omega), fun h1 => absurd h1 (by omega), fun b hb => (by rw [show _ = none from hst.2] at hb; cases hb)⟩
      rw [hb]
      exact h.cnt
  · rw [if_neg hi, if_neg hi]
    cases hcur : p.cur with
    | some b =>
      have hi1 : 1 < i := by
        by_cases h1 : i ≤ 1
        · have := (h.start h1).2; rw [hcur] at this; cases this
        · omega
      have hlast : endsW last = false := (h.cur hi1).1 (by rw [hcur]; rfl)
      obtain ⟨hhere, hlines⟩ := h.here b hcur
      have hnb := h.cnt
      rw [hcur] at hnb
      simp at hnb
      by_cases hb : isBlock x0 = true
      · have hl : lineOf 1 (x0 :: bs) = none := by rw [lineOf_cons, kind_block hb]
        have hp : isPhi x0 = false := by
          cases hq : isPhi x0 with
          | false => rfl
          | true => rw [phi_noblock hq] at hb; cases hb
        have hin : inB 1 b s = none := by
          unfold inB
          rw [hc, phi_other hp, hl]
          simp
        simp only [hin]
        rw [if_pos hb]
        exact ⟨fun p' h => (by cases h), fun _ => by simp [hi1, hlast]⟩
      · rw [if_neg hb]
        by_cases hp : isPhi x0 = true
        · have hl : lineOf 1 (x0 :: bs) = none := by rw [lineOf_cons, kind_phi hp]
          have he : endsW x0 = false := by unfold endsW; rw [kind_phi hp]
          rw [if_pos hp]
          by_cases h0 : b.lines.length = 0
          · have hlo : (isBlock last || isPhi last) = true := by
              rcases hlines.1 h0 with h | h <;> simp [h]
            have hin : inB 1 b s = match phiOf (x0 :: bs) with | some ph => some ({ b with phis := b.phis ++ [ph] }, false) | none => none := by
              unfold inB
              rw [hc, if_pos ⟨rfl, h0⟩, hl]
              cases phiOf (x0 :: bs) <;> rfl
            simp only [hin]
            cases hq : phiOf (x0 :: bs) with
            | none => exact ⟨fun p' h => (by cases h), fun _ => by simp⟩
            | some ph =>
              refine ⟨fun p' hp' => ⟨by simp [hi1, hlast, hlo], ?_⟩, fun hp' => (by cases hp')⟩
              simp at hp'
              subst hp'
              rw [if_neg hb]
              exact ⟨by simp [hnb], fun h1 => absurd h1 (by omega), fun h1 => absurd h1 (by omega), fun _ => by simp [he], fun _ => by omega, fun c hcc => by injection hcc with hcc; subst hcc; exact ⟨by simp; omega, ⟨fun _ => .inr hp, fun _ => h0⟩⟩⟩
          · have hlo : (isBlock last || isPhi last) = false := by
              cases h1 : isBlock last with
              | true => exact absurd (hlines.2 (.inl h1)) h0
              | false =>
                cases h2 : isPhi last with
                | true => exact absurd (hlines.2 (.inr h2)) h0
                | false => rfl
            have hin : inB 1 b s = none := by
              unfold inB
              rw [hc, if_neg (fun hh => h0 hh.2), hl]
            simp only [hin]
            exact ⟨fun p' h => (by cases h), fun _ => by simp [hlo]⟩
        · have hp' : isPhi x0 = false := by simpa using hp
          rw [if_neg hp]
          have hin : inB 1 b s = match lineOf 1 (x0 :: bs) with | some l => some ({ b with lines := b.lines ++ [l] }, endsK l.word) | none => none := by
            unfold inB
            rw [hc, phi_other hp']
            simp only [ite_self]
            cases lineOf 1 (x0 :: bs) <;> rfl
          simp only [hin]
          cases hl : lineOf 1 (x0 :: bs) with
          | none => exact ⟨fun p' h => (by cases h), fun _ => by simp⟩
          | some l =>
            have hw := (line_what1 hl).1
            have he : endsW x0 = endsK l.word := by unfold endsW; rw [hw]
            refine ⟨fun p' hp => ⟨by simp [hi1, hlast], ?_⟩, fun hp => ?_⟩
            · rw [if_neg hb]
              cases hk : endsK l.word with
              | true =>
                rw [hk] at he
                simp [hk] at hp
                subst hp
                exact ⟨by simp [hnb], fun h1 => absurd h1 (by omega), fun h1 => absurd h1 (by omega), fun _ => by simp [he], fun _ => by omega, fun c hcc => by cases hcc⟩
              | false =>
                rw [hk] at he
                simp [hk] at hp
                subst hp
                exact ⟨by simp [hnb], fun h1 => absurd h1 (by omega), fun h1 => absurd h1 (by omega), fun _ => by simp [he], fun _ => by omega, fun c hcc => by injection hcc with hcc; subst hcc; exact ⟨by simp; omega, by simp [kind_noblock hw]⟩⟩
            · cases hk : endsK l.word with
              | true => simp [hk] at hp
              | false => simp [hk] at hp
    | none =>
      have hnin : (decide (1 < i) && !endsW last) = false := by
        by_cases h1 : 1 < i
        · have := h.cur h1
          rw [hcur] at this
          simp at this
          simp [this]
        · simp [h1]
      have hnb := h.cnt
      rw [hcur] at hnb
      simp at hnb
      rw [hnin]
      simp only
      by_cases hb : isBlock x0 = true
      · rw [if_pos hb, if_pos hb]
        have hbx : ByteArray.toList x0 = [98, 108, 111, 99, 107] := by simpa [isBlock] using hb
        by_cases hq : ByteArray.toList s = [98, 108, 111, 99, 107] ∧ p.closed.length < 40
        · rw [if_pos hq]
          have hone := cuts_block hq.1
          rw [hc] at hone
          obtain ⟨-, h2⟩ := List.cons.inj hone
          subst h2
          refine ⟨fun p' hp => ?_, fun hp => (by cases hp)⟩
          injection hp with hp
          subst hp
          refine ⟨by simp [hnb, hq.2], ⟨by simp [hnb], fun h1 => absurd h1 (by omega), fun h1 => absurd h1 (by omega), fun _ => by simp [ends_block hb], fun _ => by omega, fun c hcc => by injection hcc with hcc; subst hcc; exact ⟨by simp, ⟨fun _ => .inl hb, fun _ => rfl⟩⟩⟩⟩
        · rw [if_neg hq]
          refine ⟨fun p' hp => (by cases hp), fun _ => ?_⟩
          by_cases hlen : bs = []
          · subst hlen
            have hxs : x0 = s := cuts_one hc
            subst hxs
            have : ¬ p.closed.length < 40 := fun h => hq ⟨hbx, h⟩
            simp [hnb, this]
          · have : ¬ (x0 :: bs).length = 1 := by
              intro h
              simp at h
              exact hlen h
            simp [this]
            intro h
            exact absurd h hlen
      · rw [if_neg hb]
        have hq : ¬ (ByteArray.toList s = [98, 108, 111, 99, 107] ∧ p.closed.length < 40) := by
          rintro ⟨hq, -⟩
          have hone := cuts_block hq
          rw [hc] at hone
          obtain ⟨h1, -⟩ := List.cons.inj hone
          subst h1
          exact hb (by simpa [isBlock] using hq)
        rw [if_neg hq]
        exact ⟨fun p' hp => (by cases hp), fun _ => by simp⟩

theorem docLF_run : ∀ (T : List BA) (i nb : Nat) (p : PG) (last : BA), RelF i p nb last → 0 < i + T.length →
    (∀ k, runL 1 40 i T p = .error k → docLF i nb last T = .error k) ∧ (∀ q, runL 1 40 i T p = .ok q → docLF i nb last T = .ok q.closed.length ∧ q.cur = none)
  | [], i, nb, p, last, h, hi => by
    have he := relF_end h (by simpa using hi)
    unfold runL docLF
    by_cases hq : endsW last = true
    · rw [if_pos (he.2 hq), if_pos hq]
      have hcn : p.cur = none := by simpa using (he.2 hq).1
      refine ⟨fun k hk => (by cases hk), fun q hk => ?_⟩
      injection hk with hk
      subst hk
      refine ⟨?_, hcn⟩
      rw [h.cnt, hcn]
      simp
    · rw [if_neg (fun hh => hq (he.1 hh)), if_neg hq]
      exact ⟨fun k hk => (by injection hk with hk; rw [hk]), fun q hk => by cases hk⟩
  | s :: r, i, nb, p, last, h, hi => by
    have hs := relF_step h s
    unfold runL docLF
    cases hst : stepL 1 40 i s p with
    | none =>
      rw [if_neg (by rw [hs.2 hst]; simp)]
      exact ⟨fun k hk => (by injection hk with hk; rw [hk]), fun q hk => by cases hk⟩
    | some p' =>
      obtain ⟨h1, h2⟩ := hs.1 p' hst
      rw [if_pos h1]
      exact docLF_run r (i + 1) _ p' _ h2 (by omega)

end Go.Proofs.YtbddcodljmglfaaGreatDoor
