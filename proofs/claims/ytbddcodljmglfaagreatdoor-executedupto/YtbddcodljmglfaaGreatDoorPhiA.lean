/- lines.readChoice, lines.ReadPhi. And what follows on it. -/
import Derived.Test.YtbddcodljmglfaaGreatDoorFormA
import Derived.Test.YtbddcodljmglfaaGreatDoorReadC
import Derived.Test.YtbddcodljmglfaaGreatDoorLeafA
set_option linter.unusedSimpArgs false
set_option linter.unusedVariables false
namespace Go.Proofs.YtbddcodljmglfaaGreatDoor
open Go.RowKit

theorem aggChoice : AggT 163 3 [.int .i64 0, .string ⟨#[]⟩, .int .i64 0] := ⟨⟨_, Tryz.underlying163, rfl⟩, by kernel_rfl, by kernel_rfl, rfl⟩
theorem aggVersion : AggT 111 2 [.string ⟨#[]⟩, .int .i64 0] := ⟨⟨_, Tryz.underlying111, rfl⟩, by kernel_rfl, by kernel_rfl, rfl⟩
theorem aggPhi : AggT 114 3 [.string ⟨#[]⟩, .int .i64 0, .slice none 0 0] := ⟨⟨_, Tryz.underlying114, rfl⟩, by kernel_rfl, by kernel_rfl, rfl⟩
theorem one_choice (b n : Int) (a : BA) : ([Value.int .i64 b, .string a, .int .i64 n].toArray.all (·.oneCell')) = true := by simp [Value.oneCell']
theorem one_phi (n : Int) (a : BA) (x : Option Addr) (l c : Nat) : ([Value.string a, .int .i64 n, .slice x l c].toArray.all (·.oneCell')) = true := by simp [Value.oneCell']

/-- strings.Cut, with what it tells. -/
theorem scut3_any (w : World) (base : Nat) (s : BA) (c : UInt8) (hs : s.size ≤ 4294967280) (hE : Env base w) :
    Calls Tryz.prog 183 #[.string s, .string ⟨#[c]⟩] w fun e w' => e = .returned (.tuple #[.string (cutHead c s), .string (cutTail c s), .bool (cutAt c s).isSome]) ∧ ∃ n, w' = w.drewN n := by
  obtain ⟨m, hm⟩ := hE.mlen
  refine (Tryz.strings_Cut s ⟨#[c]⟩ m w (by omega) hm).mono ?_
  rintro e w' ⟨he, hw⟩
  have hl := libCut_eq c s
  have e1 : (⟨#[c]⟩ : ByteArray).data.toList = [c] := rfl
  rw [e1, hl.1, hl.2, libCut_some] at he
  exact ⟨he, hw⟩

set_option maxRecDepth 100000 in
set_option maxHeartbeats 4000000 in
theorem readChoice_any (w : World) (base : Nat) (s : BA) (hs : s.size ≤ 4294967280) (hE : Env base w) :
    Calls Tryz.prog 186 #[.string s] w fun e w' => (∃ (b : Int) (a : BA) (n : Int), e = .returned (.tuple #[.agg #[.int .i64 b, .string a, .int .i64 n], .bool (choiceOf s).isSome]) ∧ ∀ c, choiceOf s = some c → b = (c.1 : Int) ∧ a = c.2.1 ∧ n = (c.2.2 : Int)) ∧ Below w.heap.size w w' := by
  have HC : Hid (∀ w1, Env base w1 → Calls Tryz.prog 183 #[.string s, .string ⟨#[58]⟩] w1 fun e w' => e = .returned (.tuple #[.string (cutHead 58 s), .string (cutTail 58 s), .bool (cutAt 58 s).isSome]) ∧ ∃ n, w' = w1.drewN n) := fun w1 h => scut3_any w1 base s 58 hs h
  have HE : Hid (Env base w) := hE
  have ht := cutTail_size 58 s
  have hh := cutHead_size 58 s
  have hq : Hid (choiceOf s = match blkB (cutHead 58 s) with
    | some n => (match readVer 1 (cutTail 58 s) with | some v => some (n, v) | none => none)
    | none => none) := rfl
  generalize cutTail 58 s = T at *
  generalize cutHead 58 s = H at *
  generalize (cutAt 58 s).isSome = fnd at *
  have HB : Hid (∀ w1, Env base w1 → Calls Tryz.prog 211 #[.string H] w1 fun e w' => (∃ n : Int, e = .returned (.tuple #[.int .i64 n, .bool (blkB H).isSome]) ∧ (∀ v, blkB H = some v → n = (v : Int))) ∧ Below w1.heap.size w1 w') := fun w1 h => readBlock_any w1 base H (by omega) h
  have HV : Hid (∀ w1, Env base w1 → Calls Tryz.prog 159 #[.int .i64 1, .string T] w1 fun e w' => (∃ (a : BA) (n : Int), e = .returned (.tuple #[.agg #[.string a, .int .i64 n], .bool (readVer 1 T).isSome]) ∧ ∀ v, readVer 1 T = some v → a = v.1 ∧ n = (v.2 : Int)) ∧ Below w1.heap.size w1 w') := fun w1 h => tongue_versions w1 base T (by omega) h
  clear hE hs ht hh
  generalize choiceOf s = CO at *
  cases hb : blkB H with
  | none =>
    rw [hb] at hq HB
    simp only [Option.isSome_none] at HB
    go_enter Tryz.func186, Tryz.ntmps186
    go_wp2_with (first
      | (go_at_call 183; refine (HC.out _ (HE.out.below ((Below.refl _ _).alloc (Nat.le_refl _) _))).mono ?_; rintro e w1 ⟨rfl, k, rfl⟩)
      | (go_at_call 211; refine (HB.out _ (HE.out.below (below_drewN ((Below.refl _ _).alloc (Nat.le_refl _) _) _))).mono ?_; rintro e w2 ⟨⟨n, rfl, -⟩, hb2⟩; have HX2 : Hid (BoxIn w2 w.heap.size 163 [.int .i64 0, .string ⟨#[]⟩, .int .i64 0]) := ((BoxIn.new w 163 [.int .i64 0, .string ⟨#[]⟩, .int .i64 0]).below (below_drewN (Below.refl _ _) k)).below hb2; have HB2 : Hid (Below w.heap.size w w2) := (below_drewN ((Below.refl _ _).alloc (Nat.le_refl _) _) _).trans (hb2.mono (by simp)); clear hb2)
      | (refine wpList_store_box aggChoice rfl _ _ rfl _ rfl _ [.int .i64 0, .string ⟨#[]⟩, .int .i64 0] rfl HX2.out rfl rfl (one_choice 0 0 ⟨#[]⟩) ?_; intro w8 hb8 hg8 hs8))
    refine bodyPost_ret (results_box2 aggChoice Tryz.results186 rfl rfl rfl hb8) rfl ?_
    have := hq.out
    rw [this]
    exact ⟨⟨_, _, _, rfl, fun c hc => (by cases hc)⟩, HB2.out.trans (hg8.below HB2.out.size (fun q hq => by omega))⟩
  | some m =>
    rw [hb] at hq HB
    simp only [Option.isSome_some] at HB
    go_enter Tryz.func186, Tryz.ntmps186
    go_wp2_with (first
      | (go_at_call 183; refine (HC.out _ (HE.out.below ((Below.refl _ _).alloc (Nat.le_refl _) _))).mono ?_; rintro e w1 ⟨rfl, k, rfl⟩)
      | (go_at_call 211; refine (HB.out _ (HE.out.below (below_drewN ((Below.refl _ _).alloc (Nat.le_refl _) _) _))).mono ?_; rintro e w2 ⟨⟨n, rfl, hn⟩, hb2⟩; obtain rfl : n = (m : Int) := hn m rfl; have HX2 : Hid (BoxIn w2 w.heap.size 163 [.int .i64 0, .string ⟨#[]⟩, .int .i64 0]) := ((BoxIn.new w 163 [.int .i64 0, .string ⟨#[]⟩, .int .i64 0]).below (below_drewN (Below.refl _ _) k)).below hb2; have HB2 : Hid (Below w.heap.size w w2) := (below_drewN ((Below.refl _ _).alloc (Nat.le_refl _) _) _).trans (hb2.mono (by simp)); clear hb2 hn)
      | (go_at_call 159; refine (HV.out _ (HE.out.below HB2.out)).mono ?_; rintro e w3 ⟨⟨a, n, rfl, hv⟩, hb3⟩; have HV3 : Hid _ := hv; have HX3 : Hid (BoxIn w3 w.heap.size 163 [.int .i64 0, .string ⟨#[]⟩, .int .i64 0]) := HX2.out.below hb3; have HB3 : Hid (Below w.heap.size w w3) := HB2.out.trans (hb3.mono HB2.out.size); clear hb3 hv)
      | (refine wpList_store_box aggChoice rfl _ _ rfl _ rfl _ [.int .i64 (m : Int), .string a, .int .i64 n] rfl (HX3.out.below ((Below.refl _ _).alloc (Nat.le_refl _) _)) rfl rfl (one_choice _ _ _) ?_; intro w8 hb8 hg8 hs8))
    refine bodyPost_ret (results_box2 aggChoice Tryz.results186 rfl rfl rfl hb8) rfl ?_
    have h1 := hq.out
    refine ⟨⟨_, _, _, (by rw [h1]; cases readVer 1 T <;> rfl), fun c hc => ?_⟩, (HB3.out.alloc HB3.out.size _).trans (hg8.below (by have := HB3.out.size; simp; omega) (fun q hq => by omega))⟩
    rw [h1] at hc
    cases hv : readVer 1 T with
    | none => rw [hv] at hc; cases hc
    | some v =>
      rw [hv] at hc
      injection hc with hc
      subst hc
      obtain ⟨h2, h3⟩ := HV3.out v hv
      exact ⟨rfl, h2, h3⟩

end Go.Proofs.YtbddcodljmglfaaGreatDoor

namespace Go.Proofs.YtbddcodljmglfaaGreatDoor
open Go.RowKit

theorem infoChoice : (Tryz.prog.info? 163).map (fun i => (i.zero, i.size, i.bytes)) = some (some (.agg #[.int .i64 0, .string ByteArray.empty, .int .i64 0]), 3, 32) := by kernel_rfl
abbrev zPhi : List Value := [.string ⟨#[]⟩, .int .i64 0, .slice none 0 0]

theorem one3c (b n : Int) (a : BA) : ∀ u ∈ [Value.int .i64 b, .string a, .int .i64 n], u.oneCell' = true := by
  intro u hu
  simp at hu
  rcases hu with rfl | rfl | rfl <;> rfl
/-- A phi, as far as it is read. -/
structure PhiRun (w wr : World) (pb : Nat) (sv : Ver) (K : Nat) (C : List (Nat × Ver)) (cv : Value) : Prop where
  box : BoxIn wr pb 114 [.string sv.1, .int .i64 (sv.2 : Int), cv]
  own : OwnS wr w.heap.size 163 3 cv K (choiceCells C)
  res : BoxIn wr w.heap.size 114 zPhi
  bel : Below w.heap.size w wr
  lo : w.heap.size < pb
theorem PhiRun.below {w wr wr' : World} {pb : Nat} {sv : Ver} {K : Nat} {C : List (Nat × Ver)} {cv : Value} (h : PhiRun w wr pb sv K C cv) (hb : Below wr.heap.size wr wr') : PhiRun w wr' pb sv K C cv :=
  ⟨h.box.below hb, h.own.of_block fun k hk => hb.block _ (h.own.lt k hk).2, h.res.below hb, h.bel.trans (hb.mono h.bel.size), h.lo⟩

theorem take_add {C : List (Nat × Ver)} (c : Nat × Ver) (h : (C.take 41).length ≤ 40) : (C ++ [c]).take 41 = C.take 41 ++ [c] := by
  have hl : C.length ≤ 40 := by simp at h; omega
  rw [List.take_of_length_le (by simp; omega), List.take_of_length_le (by omega)]
theorem take_full {C : List (Nat × Ver)} (c : Nat × Ver) (h : ¬ (C.take 41).length ≤ 40) : (C ++ [c]).take 41 = C.take 41 := by
  have hl : 41 ≤ C.length := by simp at h; omega
  rw [List.take_append_of_le_length hl]
theorem choiceCells_snoc (C : List (Nat × Ver)) (c : Nat × Ver) : choiceCells (C ++ [c]) = choiceCells C ++ [.int .i64 (c.1 : Int), .string c.2.1, .int .i64 (c.2.2 : Int)] := by simp [choiceCells]

/-- What ReadPhi hands back. -/
def PhiOut (w : World) (s : BA) (e : Ending) (w' : World) : Prop :=
  (∀ ph, phiOf (cuts 32 s) = some ph → ∃ cv, e = .returned (.tuple #[.agg #[.string ph.sets.1, .int .i64 (ph.sets.2 : Int), cv], .bool true]) ∧ OwnS w' w.heap.size 163 3 cv ph.choices.length (choiceCells ph.choices) ∧ ph.choices.length ≤ 41) ∧
  (phiOf (cuts 32 s) = none → e = .returned (.tuple #[.agg #[.string ⟨#[]⟩, .int .i64 0, .slice none 0 0], .bool false])) ∧ Below w.heap.size w w'

set_option maxRecDepth 100000 in
set_option maxHeartbeats 8000000 in
theorem readPhi_any (w : World) (base : Nat) (s : BA) (hs : s.size ≤ 4294967280) (hE : Env base w) : Calls Tryz.prog 160 #[.string s] w (PhiOut w s) := by
  have HE : Hid (∀ W, Below w.heap.size w W → Env base W) := fun W hb => hE.below hb
  have HP : Hid (∀ W, Calls Tryz.prog 185 #[.string s, .string ⟨#[112, 104, 105, 32]⟩] W fun e w' => e = .returned (.tuple #[.string ⟨(Lib.trimPrefix s.data.toList [112, 104, 105, 32]).toArray⟩, .bool (Lib.hasPrefix s.data.toList [112, 104, 105, 32])]) ∧ w' = W) := fun W => Tryz.strings_CutPrefix s ⟨#[112, 104, 105, 32]⟩ W
  have HC : Hid (∀ W t, Below w.heap.size w W → t.size ≤ 4294967280 → Calls Tryz.prog 183 #[.string t, .string ⟨#[32]⟩] W fun e w' => e = .returned (.tuple #[.string (cutHead 32 t), .string (cutTail 32 t), .bool (cutAt 32 t).isSome]) ∧ ∃ n, w' = W.drewN n) := fun W t hb ht => scut3_any W base t 32 ht (hE.below hb)
  have HV : Hid (∀ W t, Below w.heap.size w W → t.size ≤ 4294967280 → Calls Tryz.prog 159 #[.int .i64 1, .string t] W fun e w' => (∃ (a : BA) (n : Int), e = .returned (.tuple #[.agg #[.string a, .int .i64 n], .bool (readVer 1 t).isSome]) ∧ ∀ v, readVer 1 t = some v → a = v.1 ∧ n = (v.2 : Int)) ∧ Below W.heap.size W w') := fun W t hb ht => tongue_versions W base t ht (hE.below hb)
  have HRC : Hid (∀ W t, Below w.heap.size w W → t.size ≤ 4294967280 → Calls Tryz.prog 186 #[.string t] W fun e w' => (∃ (b : Int) (a : BA) (n : Int), e = .returned (.tuple #[.agg #[.int .i64 b, .string a, .int .i64 n], .bool (choiceOf t).isSome]) ∧ ∀ c, choiceOf t = some c → b = (c.1 : Int) ∧ a = c.2.1 ∧ n = (c.2.2 : Int)) ∧ Below W.heap.size W w') := fun W t hb ht => readChoice_any W base t ht (hE.below hb)
  obtain ⟨hpre1, hpre0⟩ := prefix_words s
  cases hp : Lib.hasPrefix s.data.toList [112, 104, 105, 32] with
  | false =>
    have HN : Hid (phiOf (cuts 32 s) = none) := hpre0 hp
    rw [hp] at HP
    clear hE hpre1 hpre0
    go_enter Tryz.func160, Tryz.ntmps160
    go_wp2_with (first
      | (go_at_call 185; refine (HP.out _).mono ?_; rintro e w1 ⟨rfl, rfl⟩)
      | (refine wpList_store_box aggPhi rfl _ _ rfl _ rfl _ zPhi rfl (BoxIn.new w 114 zPhi) rfl rfl (one_phi _ _ _ _ _) ?_; intro w8 hb8 hg8 hs8))
    refine bodyPost_ret (results_box2 aggPhi Tryz.results160 rfl rfl rfl hb8) rfl ?_
    exact ⟨fun ph h => (by rw [HN.out] at h; cases h), fun _ => rfl, ((Below.refl _ _).alloc (Nat.le_refl _) _).trans (hg8.below (by simp) (fun q hq => by omega))⟩
  | true =>
    obtain ⟨t, ht, hts, hcs⟩ := hpre1 hp
    rw [hp] at HP
    have e1 : (⟨(Lib.trimPrefix s.data.toList [112, 104, 105, 32]).toArray⟩ : BA) = t := by rw [← ht]
    rw [e1] at HP
    have hts2 : t.size ≤ 4294967280 := by omega
    have hct := cuts_cut 32 t
    have hh1 : (cutHead 32 t).size ≤ 4294967280 := by have := cutHead_size 32 t; omega
    have ht1 : (cutTail 32 t).size ≤ 4294967280 := by have := cutTail_size 32 t; omega
    obtain ⟨cs, hcsd⟩ : ∃ cs, cs = if (cutAt 32 t).isSome = true then cuts 32 (cutTail 32 t) else [] := ⟨_, rfl⟩
    rw [← hcsd] at hct
    have HPH : Hid (phiOf (cuts 32 s) = match readVer 1 (cutHead 32 t) with
      | some sv => (match choicesOf cs with | some l => some ⟨sv, l.take 41⟩ | none => none)
      | none => none) := by
      show _ = _
      rw [hcs, hct]
      have hph : ByteArray.toList (⟨#[112, 104, 105]⟩ : BA) = [112, 104, 105] := by rw [ByteArray.toList_eq]
      simp only [phiOf]
      rw [if_pos hph]
      cases readVer 1 (cutHead 32 t) with
      | none => rfl
      | some v => cases choicesOf cs <;> rfl
    have HBH : Hid (((cutAt 32 t).isSome = true → cuts 32 (cutTail 32 t) = cs) ∧ (cs ≠ [] ↔ (cutAt 32 t).isSome = true)) := by
      refine ⟨fun h => ?_, ?_⟩
      · rw [hcsd, if_pos h]
      · rw [hcsd]
        constructor
        · intro h
          cases hq : (cutAt 32 t).isSome with
          | true => rfl
          | false => rw [hq] at h; exact absurd rfl h
        · intro h
          rw [if_pos h]
          exact cuts_ne _ _
    clear hE hpre1 hpre0 hcsd hct hts hcs hp e1 ht
    have HC1 : Hid (∀ W, Below w.heap.size w W → Calls Tryz.prog 183 #[.string t, .string ⟨#[32]⟩] W fun e w' => e = .returned (.tuple #[.string (cutHead 32 t), .string (cutTail 32 t), .bool (cutAt 32 t).isSome]) ∧ ∃ n, w' = W.drewN n) := fun W hb => HC.out W t hb hts2
    generalize cutHead 32 t = hd0 at *
    generalize cutTail 32 t = tl0 at *
    generalize (cutAt 32 t).isSome = mr0 at *
    have HV1 : Hid (∀ W, Below w.heap.size w W → Calls Tryz.prog 159 #[.int .i64 1, .string hd0] W fun e w' => (∃ (a : BA) (n : Int), e = .returned (.tuple #[.agg #[.string a, .int .i64 n], .bool (readVer 1 hd0).isSome]) ∧ ∀ v, readVer 1 hd0 = some v → a = v.1 ∧ n = (v.2 : Int)) ∧ Below W.heap.size W w') := fun W hb => HV.out W hd0 hb hh1
    clear HV
    cases hv : readVer 1 hd0 with
    | none =>
      rw [hv] at HV1 HPH
      simp only [Option.isSome_none] at HV1
      have HN : Hid (phiOf (cuts 32 s) = none) := HPH.out
      clear HPH HRC HBH
      go_enter Tryz.func160, Tryz.ntmps160
      go_wp2_with (first
        | (go_at_call 185; refine (HP.out _).mono ?_; rintro e w1 ⟨rfl, rfl⟩)
        | (go_at_call 183; refine (HC1.out _ ((Below.refl _ _).alloc (Nat.le_refl _) _)).mono ?_; rintro e w1 ⟨rfl, k, rfl⟩)
        | (go_at_call 159; refine (HV1.out _ (below_drewN ((Below.refl _ _).alloc (Nat.le_refl _) _) _)).mono ?_; rintro e w2 ⟨⟨a, n, rfl, -⟩, hb2⟩; have HX2 : Hid (BoxIn w2 w.heap.size 114 zPhi) := ((BoxIn.new w 114 zPhi).below (below_drewN (Below.refl _ _) k)).below hb2; have HB2 : Hid (Below w.heap.size w w2) := (below_drewN ((Below.refl _ _).alloc (Nat.le_refl _) _) _).trans (hb2.mono (by simp)); clear hb2)
        | (refine wpList_store_box aggPhi rfl _ _ rfl _ rfl _ zPhi rfl (HX2.out.below ((Below.refl _ _).alloc (Nat.le_refl _) _)) rfl rfl (one_phi _ _ _ _ _) ?_; intro w8 hb8 hg8 hs8))
      refine bodyPost_ret (results_box2 aggPhi Tryz.results160 rfl rfl rfl hb8) rfl ?_
      exact ⟨fun ph h => (by rw [HN.out] at h; cases h), fun _ => rfl, (HB2.out.alloc HB2.out.size _).trans (hg8.below (by have := HB2.out.size; simp; omega) (fun q hq => by omega))⟩
    | some sv =>
      rw [hv] at HV1 HPH
      simp only [Option.isSome_some] at HV1
      have HPH2 : Hid (phiOf (cuts 32 s) = match choicesOf cs with | some l => some ⟨sv, l.take 41⟩ | none => none) := HPH.out
      clear HPH
      go_enter Tryz.func160, Tryz.ntmps160
      go_wp2_with (first
        | (go_at_call 185; refine (HP.out _).mono ?_; rintro e w1 ⟨rfl, rfl⟩)
        | (go_at_call 183; refine (HC1.out _ ((Below.refl _ _).alloc (Nat.le_refl _) _)).mono ?_; rintro e w1 ⟨rfl, k, rfl⟩)
        | (go_at_call 159; refine (HV1.out _ (below_drewN ((Below.refl _ _).alloc (Nat.le_refl _) _) _)).mono ?_; rintro e w2 ⟨⟨a, n, rfl, hvv⟩, hb2⟩; obtain ⟨rfl, rfl⟩ := hvv sv rfl; have HX2 : Hid (BoxIn w2 w.heap.size 114 zPhi) := ((BoxIn.new w 114 zPhi).below (below_drewN (Below.refl _ _) k)).below hb2; have HB2 : Hid (Below w.heap.size w w2) := (below_drewN ((Below.refl _ _).alloc (Nat.le_refl _) _) _).trans (hb2.mono (by simp)); clear hb2 hvv))
      have hs0 := HB2.out.size
      have HB3 : Hid (Below w.heap.size w ((w2.alloc (.cells #[.string sv.1, .int .i64 (sv.2 : Int)] 111)).alloc (.cells #[.string sv.1, .int .i64 (sv.2 : Int), .slice none 0 0] 114))) := (HB2.out.alloc hs0 _).alloc (by simp; omega) _
      go_loopg [4, 6, 7] cs.length (fun g v4 v6 v7 wr => ∃ (R D : List BA) (C : List (Nat × Ver)) (beh wd : BA) (K : Nat) (cv : Value), R.length = g ∧ v4 = .string beh ∧ v6 = .string wd ∧ v7 = .bool (!R.isEmpty) ∧ beh.size ≤ 4294967280 ∧ K ≤ 41 ∧ Hid ((R ≠ [] → cuts 32 beh = R) ∧ cs = D ++ R ∧ choicesOf D = some C ∧ K = (C.take 41).length) ∧ Hid (PhiRun w wr (w2.heap.size + 1) sv K (C.take 41) cv))
      case atStart =>
        refine ⟨cs, [], [], tl0, hd0, 0, .slice none 0 0, rfl, rfl, rfl, ?_, ht1, by omega, ⟨fun h => HBH.out.1 (HBH.out.2.1 h), rfl, rfl, rfl⟩, ?_⟩
        · have := HBH.out.2
          cases mr0 with
          | true =>
            have := this.2 rfl
            cases cs with
            | nil => exact absurd rfl this
            | cons a r => rfl
          | false =>
            cases cs with
            | nil => rfl
            | cons a r => exact absurd (this.1 (by simp)) (by decide)
        · refine ⟨?_, OwnS.nil _ _ _ _, (HX2.out.below ((Below.refl _ _).alloc (Nat.le_refl _) _)).below ((Below.refl _ _).alloc (Nat.le_refl _) _), HB3.out, by omega⟩
          have := BoxIn.new (w2.alloc (.cells #[.string sv.1, .int .i64 (sv.2 : Int)] 111)) 114 [.string sv.1, .int .i64 (sv.2 : Int), .slice none 0 0]
          rw [World.size_alloc] at this
          exact this
      case round =>
        obtain ⟨R, D, C, beh, wd, K, cv, hRg, rfl, rfl, rfl, hbs, hK, hinv, hrun⟩ := hrel
        obtain ⟨ao, cp, rfl⟩ := hrun.out.own.len
        cases R with
        | nil =>
          simp only [List.isEmpty_nil, Bool.not_true]
          go_wp2_with (first
            | (refine wpList_load_box aggPhi rfl _ rfl _ rfl _ rfl hrun.out.box ?_)
            | (refine wpList_store_box aggPhi rfl _ _ rfl _ rfl _ [.string sv.1, .int .i64 (sv.2 : Int), .slice ao K cp] rfl hrun.out.res rfl rfl (one_phi _ _ _ _ _) ?_; intro w8 hb8 hg8 hs8))
          refine bodyPost_ret (results_box2 aggPhi Tryz.results160 rfl rfl rfl hb8) rfl ?_
          obtain ⟨h1, h2, h3, h4⟩ := hinv.out
          rw [List.append_nil] at h2
          subst h2
          have hph := HPH2.out
          rw [h3] at hph
          refine ⟨fun ph h => ?_, fun h => (by rw [hph] at h; cases h), hrun.out.bel.trans (hg8.below hrun.out.bel.size (fun q hq => by omega))⟩
          rw [hph] at h
          injection h with h
          subst h
          refine ⟨_, rfl, ?_, by simp; omega⟩
          rw [← h4]
          exact hrun.out.own.of_block fun k hk => hg8.block _ (own_other hrun.out.own hrun.out.res (by decide) _ hk) (hrun.out.own.lt k hk).2
        | cons x R' =>
          simp only [List.isEmpty_cons, Bool.not_false]
          have key : ∃ tl : BA, tl.size ≤ 4294967280 ∧ cutHead 32 beh = x ∧ cutTail 32 beh = tl ∧ (cutAt 32 beh).isSome = (!R'.isEmpty) ∧ (R' ≠ [] → cuts 32 tl = R') ∧ x.size ≤ 4294967280 := by
            have hcc := cuts_cut 32 beh
            rw [hinv.out.1 (by simp)] at hcc
            injection hcc with hx hR
            have h1 := cutTail_size 32 beh
            have h2 := cutHead_size 32 beh
            refine ⟨_, by omega, hx.symm, rfl, ?_, ?_, by rw [hx]; omega⟩
            · cases hq : (cutAt 32 beh).isSome with
              | true =>
                rw [hq, if_pos rfl] at hR
                have := cuts_ne 32 (cutTail 32 beh)
                rw [← hR] at this
                cases R' with
                | nil => exact absurd rfl this
                | cons a r => rfl
              | false =>
                rw [hq] at hR
                simp at hR
                rw [hR]
                rfl
            · intro hne
              cases hq : (cutAt 32 beh).isSome with
              | true => rw [hq, if_pos rfl] at hR; exact hR.symm
              | false => rw [hq] at hR; simp at hR; exact absurd hR hne
          obtain ⟨tl, htl, k1, k2, k3, k4, hxs⟩ := key
          have HC2 : Hid (∀ W, Below w.heap.size w W → Calls Tryz.prog 183 #[.string beh, .string ⟨#[32]⟩] W fun e w' => e = .returned (.tuple #[.string x, .string tl, .bool (!R'.isEmpty)]) ∧ ∃ n, w' = W.drewN n) := fun W hb => by
            have := HC.out W beh hb hbs
            rw [k1, k2, k3] at this
            exact this
          have HRC2 : Hid (∀ W, Below w.heap.size w W → Calls Tryz.prog 186 #[.string x] W fun e w' => (∃ (b : Int) (a : BA) (n : Int), e = .returned (.tuple #[.agg #[.int .i64 b, .string a, .int .i64 n], .bool (choiceOf x).isSome]) ∧ ∀ c, choiceOf x = some c → b = (c.1 : Int) ∧ a = c.2.1 ∧ n = (c.2.2 : Int)) ∧ Below W.heap.size W w') := fun W hb => HRC.out W x hb hxs
          have HK4 : Hid (R' ≠ [] → cuts 32 tl = R') := k4
          clear k1 k2 k3 k4
          generalize hmr : (!R'.isEmpty) = mr at HC2
          have HMR : Hid ((!R'.isEmpty) = mr) := hmr
          clear hmr
          cases hco : choiceOf x with
          | none =>
            rw [hco] at HRC2
            simp only [Option.isSome_none] at HRC2
            have HN : Hid (phiOf (cuts 32 s) = none) := by
              show _ = _
              rw [HPH2.out, hinv.out.2.1, choices_bad hco]
            go_wp2_with (first
              | (go_at_call 183; refine (HC2.out _ hrun.out.bel).mono ?_; rintro e w3 ⟨rfl, k3, rfl⟩)
              | (go_at_call 186; refine (HRC2.out _ (below_drewN hrun.out.bel _)).mono ?_; rintro e w4 ⟨⟨b4, a4, n4, rfl, -⟩, hb4⟩; have HR4 : Hid (PhiRun w w4 _ sv K _ _) := (hrun.out.below (below_drewN (Below.refl _ _) k3)).below hb4; clear hb4)
              | (refine wpList_store_box aggPhi rfl _ _ rfl _ rfl _ zPhi rfl (HR4.out.below ((Below.refl _ _).alloc (Nat.le_refl _) _)).res rfl rfl (one_phi _ _ _ _ _) ?_; intro w8 hb8 hg8 hs8))
            refine bodyPost_ret (results_box2 aggPhi Tryz.results160 rfl rfl rfl hb8) rfl ?_
            exact ⟨fun ph h => (by rw [HN.out] at h; cases h), fun _ => rfl, (HR4.out.bel.alloc HR4.out.bel.size _).trans (hg8.below (by have := HR4.out.bel.size; simp; omega) (fun q hq => by omega))⟩
          | some c =>
            rw [hco] at HRC2
            simp only [Option.isSome_some] at HRC2
            have HCO : Hid (choicesOf (D ++ [x]) = some (C ++ [c])) := by
              show _ = _
              rw [choices_snoc, hinv.out.2.2.1, hco]
            have HCS : Hid (cs = (D ++ [x]) ++ R') := by
              show _ = _
              rw [hinv.out.2.1]; simp
            by_cases hK4 : K ≤ 40
            · have HTA : Hid ((C ++ [c]).take 41 = C.take 41 ++ [c]) := take_add c (by rw [← hinv.out.2.2.2]; exact hK4)
              have HTL : Hid (K + 1 = ((C ++ [c]).take 41).length) := by show _ = _; rw [HTA.out, List.length_append, ← hinv.out.2.2.2]; rfl
              have hK4' : (K : Int) ≤ 40 := by omega
              have HRC3 : Hid (∀ W, Below w.heap.size w W → Calls Tryz.prog 186 #[.string x] W fun e w' => e = .returned (.tuple #[.agg #[.int .i64 (c.1 : Int), .string c.2.1, .int .i64 (c.2.2 : Int)], .bool true]) ∧ Below W.heap.size W w') := fun W hb => (HRC2.out W hb).mono (by
                rintro e w' ⟨⟨b, a, n, rfl, hh⟩, h2⟩
                obtain ⟨rfl, rfl, rfl⟩ := hh c rfl
                exact ⟨rfl, h2⟩)
              clear HRC2
              obtain ⟨i0, hi, hz0, hz1, hz2⟩ := info_parts infoChoice
              go_wp2_with (first
                | (go_at_call 183; refine (HC2.out _ hrun.out.bel).mono ?_; rintro e w3 ⟨rfl, k3, rfl⟩)
                | (go_at_call 186; refine (HRC3.out _ (below_drewN hrun.out.bel _)).mono ?_; rintro e w4 ⟨rfl, hb4⟩; have HR4 : Hid (PhiRun w w4 _ sv K _ _) := (hrun.out.below (below_drewN (Below.refl _ _) k3)).below hb4; have HR5 : ∀ o, Hid (PhiRun w (w4.alloc o) _ sv K _ _) := (fun o => HR4.out.below ((Below.refl _ _).alloc (Nat.le_refl _) _)); have cc : ∀ o, (w4.alloc o).cell? ⟨w2.heap.size + 1, 2, none⟩ = some (.slice ao K cp) := (fun o => (HR5 o).out.box.cell rfl); have cc2 : ∀ o o2, ((w4.alloc o).alloc o2).cell? ⟨w2.heap.size + 1, 2, none⟩ = some (.slice ao K cp) := (fun o o2 => ((HR5 o).out.below ((Below.refl _ _).alloc (Nat.le_refl _) o2)).box.cell rfl); clear hb4)
                | (at_builtin; refine wpList_append_ownS _ rfl _ _ 112 rfl w.heap.size 163 i0 (.agg #[.int .i64 0, .string ByteArray.empty, .int .i64 0]) 3 32 Tryz.underlying112 hi hz0 hz1 hz2 rfl (by decide) _ _ _ rfl ((HR5 _).out.own.alloc _) ⟨w4.heap.size + 1, 0, none⟩ 1 1 [.int .i64 (c.1 : Int), .string c.2.1, .int .i64 (c.2.2 : Int)] rfl rfl (cell_newL _ [_, _, _] _ _ (by simp)) (one3c _ _ _) (by decide) (by unfold maxLen; omega) (by omega) (by have := HR4.out.bel.size; simp; omega) ?_; intro g' off' cap' w6 hown6 hg6 hloc6 hlt6; have HO6 : Hid _ := hown6; have HG6 : Hid _ := hg6; have HB6 : Hid _ := grown_box (HR5 _).out.own hg6 (HR5 _).out.box (by decide); have HR6 : Hid _ := grown_box (HR5 _).out.own hg6 (HR5 _).out.res (by decide); have c33 : w6.cell? ⟨w2.heap.size + 1, 2, none⟩ = some (.slice ao K cp) := (BoxIn.cell (cs := [.string sv.1, .int .i64 (sv.2 : Int), .slice ao K cp]) HB6.out rfl); have f33 : w6.frozen? ⟨w2.heap.size + 1, 2, none⟩ = false := (BoxIn.frozen (cs := [.string sv.1, .int .i64 (sv.2 : Int), .slice ao K cp]) HB6.out 2); clear hown6 hg6 hloc6))
              go_roundg (R'.length)
              case measure => simp at hRg; omega
              case rel =>
                refine ⟨R', D ++ [x], C ++ [c], tl, x, K + 1, .slice (some ⟨g', off', none⟩) (K + 1) cap', rfl, rfl, rfl, by rw [HMR.out], htl, by omega, ⟨HK4.out, HCS.out, HCO.out, HTL.out⟩, ?_⟩
                rw [HTA.out]
                refine ⟨?_, ?_, ?_, ?_, (HR5 (.cells #[] 0)).out.lo⟩
                · exact (set_block HB6.out _).trans rfl
                · rw [choiceCells_snoc]
                  exact OwnS.set_other HO6.out HB6.out (by decide) _
                · refine BoxIn.of_block HR6.out ?_
                  rw [Below.heap_setCell _ _ _ _ (by have := HR4.out.lo; show w.heap.size ≠ w2.heap.size + 1; omega)]
                · have h1 := HR4.out.bel
                  exact ((h1.alloc h1.size _).trans (grown_below (HR5 _).out.own HG6.out (by simp; have := h1.size; omega))).setCell (by show w.heap.size ≤ w2.heap.size + 1; omega) _
            · have HTA : Hid ((C ++ [c]).take 41 = C.take 41) := take_full c (by rw [← hinv.out.2.2.2]; exact hK4)
              have HTL : Hid (K = ((C ++ [c]).take 41).length) := by show _ = _; rw [HTA.out]; exact hinv.out.2.2.2
              have hK4' : ¬ (K : Int) ≤ 40 := by omega
              go_wp2_with (first
                | (go_at_call 183; refine (HC2.out _ hrun.out.bel).mono ?_; rintro e w3 ⟨rfl, k3, rfl⟩)
                | (go_at_call 186; refine (HRC2.out _ (below_drewN hrun.out.bel _)).mono ?_; rintro e w4 ⟨⟨b4, a4, n4, rfl, -⟩, hb4⟩; have HR4 : Hid (PhiRun w w4 _ sv K _ _) := (hrun.out.below (below_drewN (Below.refl _ _) k3)).below hb4; have HR5 : ∀ o, Hid (PhiRun w (w4.alloc o) _ sv K _ _) := (fun o => HR4.out.below ((Below.refl _ _).alloc (Nat.le_refl _) _)); have cc : ∀ o, (w4.alloc o).cell? ⟨w2.heap.size + 1, 2, none⟩ = some (.slice ao K cp) := (fun o => (HR5 o).out.box.cell rfl); clear hb4))
              go_roundg (R'.length)
              case measure => simp at hRg; omega
              case rel => exact ⟨R', D ++ [x], C ++ [c], tl, x, K, _, rfl, rfl, rfl, by rw [HMR.out], htl, hK, ⟨HK4.out, HCS.out, HCO.out, HTL.out⟩, by rw [HTA.out]; exact HR5 _⟩

end Go.Proofs.YtbddcodljmglfaaGreatDoor
