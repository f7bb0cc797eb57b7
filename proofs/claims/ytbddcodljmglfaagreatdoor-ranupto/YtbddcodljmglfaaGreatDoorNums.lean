/- readNumber, readBlock, (Tongue).read. -/
import Derived.Test.YtbddcodljmglfaaGreatDoorEnv
import Derived.Test.YtbddcodljmglfaaGreatDoorLeaf
set_option linter.unusedSimpArgs false
set_option linter.unusedVariables false
namespace Go.Proofs.YtbddcodljmglfaaGreatDoor
open Go.RowKit

theorem toList_data (s : BA) : ByteArray.toList s = s.data.toList := by rw [ByteArray.toList_eq]

theorem numB_ok {s : BA} {v : Int} (h : Lib.parseIntB 64 s.data.toList = .ok v) : numB s = if (Lib.itoa v == ByteArray.toList s) = true ∧ -1000000000 ≤ v ∧ v ≤ 1000000000 then some v else none := by
  unfold numB
  rw [h]
  have : ((Lib.itoa v == ByteArray.toList s) = true) ↔ (⟨(Lib.itoa v).toArray⟩ : BA) = s := by
    rw [beq_iff_eq]
    exact ⟨fun h => ba_ext (by rw [← h, toList_data]), fun h => by rw [← h, toList_data]⟩
  simp only [this]
theorem numB_no {s : BA} (h : ∀ v, Lib.parseIntB 64 s.data.toList ≠ .ok v) : numB s = none := by
  unfold numB
  split
  · rename_i v hv; exact absurd hv (h v)
  · rfl

set_option maxHeartbeats 1000000 in
theorem readNumber_any (w : World) (base : Nat) (s : BA) (hs : s.size ≤ 4294967280) (hE : Env base w) :
    Calls Tryz.prog 184 #[.string s] w fun e w' => (∃ n : Int, e = .returned (.tuple #[.int .i64 n, .bool (numB s).isSome]) ∧ (∀ v, numB s = some v → n = v) ∧ -9223372036854775808 ≤ n ∧ n ≤ 9223372036854775807) ∧ Below w.heap.size w w' := by
  have HE : Hid (Env base w) := hE
  by_cases hp : ∃ v, Lib.parseIntB 64 s.data.toList = .ok v
  · obtain ⟨v, hv⟩ := hp
    have hb := Lib.parseIntB_bounds hv
    have hN : Hid _ := numB_ok hv
    have HP : Hid (Calls _ _ _ _ _) := parse_ok w s hs v hv
    have hv0 : -9223372036854775808 ≤ v ∧ v ≤ 9223372036854775807 := by simp at hb; omega
    obtain ⟨hlo, hhi⟩ := hv0
    clear hv hb hE
    go_enter Tryz.func184, Tryz.ntmps184
    go_wp2_with (first
      | (go_at_call 209; refine HP.out.mono ?_; rintro e w1 ⟨rfl, hb0⟩; have hb1 : Hid _ := hb0; clear hb0)
      | (go_at_call 88; refine (format_any _ base v hlo hhi (HE.out.below hb1.out)).mono ?_; rintro e w2 ⟨rfl, hb0⟩; have hb2 : Hid _ := hb0; clear hb0))
    · rename_i h1
      have hno : numB s = none := by rw [hN.out, if_neg (fun h => by rw [h.1] at h1; simp at h1)]
      go_ret2
      exact ⟨⟨0, by rw [hno]; rfl, (fun v hv => by rw [hno] at hv; cases hv), by omega, by omega⟩, hb1.out.trans (hb2.out.mono hb1.out.size)⟩
    · rename_i h1 h2
      have h1' : (Lib.itoa v == ByteArray.toList s) = true := by simpa using h1
      go_ret2
      refine ⟨⟨v, ?_, ?_, hlo, hhi⟩, hb1.out.trans (hb2.out.mono hb1.out.size)⟩
      · by_cases h3 : v ≤ 1000000000
        · rw [hN.out, if_pos ⟨h1', h2, h3⟩]; simp [h3]
        · rw [hN.out, if_neg (fun h => h3 h.2.2)]; simp [h3]
      · intro x hx
        rw [hN.out] at hx
        split at hx
        · injection hx
        · cases hx
    · rename_i h1 h2
      have hno : numB s = none := by rw [hN.out, if_neg (fun h => by omega)]
      go_ret2
      exact ⟨⟨v, by rw [hno]; rfl, (fun v hv => by rw [hno] at hv; cases hv), hlo, hhi⟩, hb1.out.trans (hb2.out.mono hb1.out.size)⟩
  · have hp' : ∀ v, Lib.parseIntB 64 s.data.toList ≠ .ok v := fun v hv => hp ⟨v, hv⟩
    have hno : Hid (numB s = none) := numB_no hp'
    have HP : Hid (Calls _ _ _ _ _) := parse_no w base s hs hE hp'
    clear hp hp' hE
    go_enter Tryz.func184, Tryz.ntmps184
    go_wp2_with (first | (go_at_call 209; refine HP.out.mono ?_; rintro e w1 ⟨⟨n, t, p, rfl⟩, hb0⟩; have hb1 : Hid _ := hb0; clear hb0))
    go_ret2
    exact ⟨⟨0, by rw [hno.out]; rfl, (fun v hv => by rw [hno.out] at hv; cases hv), by omega, by omega⟩, hb1.out⟩

theorem blkB_some {s : BA} {n : Nat} : blkB s = some n ↔ numB s = some (n : Int) := by
  unfold blkB
  cases h : numB s with
  | none => simp
  | some v =>
    simp only
    split
    · rename_i h0
      simp only [Option.some.injEq]
      omega
    · rename_i h0
      simp only [Option.some.injEq]
      constructor
      · intro h; cases h
      · intro h; omega
theorem blkB_isSome (s : BA) (n : Int) (h : ∀ v, numB s = some v → n = v) : (blkB s).isSome = ((numB s).isSome && decide (0 ≤ n)) := by
  unfold blkB
  cases hq : numB s with
  | none => simp
  | some v =>
    have := h v hq
    subst this
    simp only
    split
    · rename_i h0; simp [h0]
    · rename_i h0; simp [h0]

set_option maxHeartbeats 1000000 in
theorem readBlock_any (w : World) (base : Nat) (s : BA) (hs : s.size ≤ 4294967280) (hE : Env base w) :
    Calls Tryz.prog 211 #[.string s] w fun e w' => (∃ n : Int, e = .returned (.tuple #[.int .i64 n, .bool (blkB s).isSome]) ∧ (∀ v, blkB s = some v → n = (v : Int))) ∧ Below w.heap.size w w' := by
  have HP : Hid (Calls _ _ _ _ _) := readNumber_any w base s hs hE
  clear hE
  go_enter Tryz.func211, Tryz.ntmps211
  go_wp2_with (first | (go_at_call 184; refine HP.out.mono ?_; rintro e w1 ⟨⟨n, rfl, hn0, hlo, hhi⟩, hb0⟩; have hb1 : Hid _ := hb0; have hn : Hid _ := hn0; clear hb0 hn0; have hB : Hid _ := blkB_isSome s n hn.out; generalize (numB s).isSome = ok at *))
  · rename_i h1
    go_ret2
    refine ⟨⟨n, by rw [hB.out, h1]; simp, fun v hv => ?_⟩, hb1.out⟩
    exact hn.out _ (blkB_some.1 hv)
  · rename_i h1
    go_ret2
    refine ⟨⟨n, by rw [hB.out]; simp [h1], fun v hv => ?_⟩, hb1.out⟩
    exact hn.out _ (blkB_some.1 hv)

/-- What (Tongue).read hands back of a version. -/
def verR (tg : Nat) (s : BA) (x : Value) : Prop := ∃ (a : BA) (n : Int), x = .agg #[.string a, .int .i64 n] ∧ ∀ v, readVer tg s = some v → a = v.1 ∧ n = (v.2 : Int)

theorem tongue_names (w : World) (s : BA) : Calls Tryz.prog 159 #[.int .i64 0, .string s] w fun e w' => (∃ (a : BA) (n : Int), e = .returned (.tuple #[.agg #[.string a, .int .i64 n], .bool (readVer 0 s).isSome]) ∧ ∀ v, readVer 0 s = some v → a = v.1 ∧ n = (v.2 : Int)) ∧ Below w.heap.size w w' := by
  have hq : Hid (readVer 0 s = if isNm s = true then some (s, 0) else none) := by show _ = _; simp [readVer]
  go_enter Tryz.func159, Tryz.ntmps159
  go_wp2_with (first | (go_at_call 182; refine (isName_any _ s).mono ?_; rintro e w1 ⟨rfl, rfl⟩))
  go_returns
  refine ⟨⟨s, 0, ?_, ?_⟩, (Below.refl _ _).alloc (Nat.le_refl _) _⟩
  · rw [hq.out]
    cases h : isNm s <;> rfl
  · intro v hv
    rw [hq.out] at hv
    split at hv
    · injection hv with hv; subst hv; exact ⟨rfl, rfl⟩
    · cases hv

theorem size_extract_le (s : BA) (a b : Nat) : (s.extract a b).size ≤ s.size := by rw [ByteArray.size_extract]; omega
theorem cutTail_size (c : UInt8) (s : BA) : (cutTail c s).size ≤ s.size := by
  unfold cutTail
  split
  · exact size_extract_le _ _ _
  · show (0 : Nat) ≤ _; omega
theorem cutHead_size (c : UInt8) (s : BA) : (cutHead c s).size ≤ s.size := by
  unfold cutHead
  split
  · exact size_extract_le _ _ _
  · omega

theorem readVer_facts {s T H : BA} {n : Int} (hq : readVer 1 s = match numB T with
    | some v => if isNm H = true ∧ 0 ≤ v ∧ v ≤ 999 then some (H, v.toNat) else none
    | none => none) (hn : ∀ v, numB T = some v → n = v) :
    (readVer 1 s).isSome = ((numB T).isSome && (isNm H && (decide (0 ≤ n) && decide (n ≤ 999)))) ∧ ∀ v, readVer 1 s = some v → H = v.1 ∧ n = (v.2 : Int) := by
  rw [hq]
  cases h : numB T with
  | none => simp
  | some v =>
    have := hn v h
    subst this
    simp only
    split
    · rename_i hc
      refine ⟨by simp [hc.1, hc.2.1, hc.2.2], ?_⟩
      intro u hu
      injection hu with hu
      subst hu
      exact ⟨rfl, by simp; omega⟩
    · rename_i hc
      refine ⟨?_, fun u hu => by cases hu⟩
      by_cases h1 : isNm H = true <;> by_cases h2 : 0 ≤ n <;> by_cases h3 : n ≤ 999 <;> simp_all

set_option maxHeartbeats 1000000 in
theorem tongue_versions (w : World) (base : Nat) (s : BA) (hs : s.size ≤ 4294967280) (hE : Env base w) : Calls Tryz.prog 159 #[.int .i64 1, .string s] w fun e w' => (∃ (a : BA) (n : Int), e = .returned (.tuple #[.agg #[.string a, .int .i64 n], .bool (readVer 1 s).isSome]) ∧ ∀ v, readVer 1 s = some v → a = v.1 ∧ n = (v.2 : Int)) ∧ Below w.heap.size w w' := by
  have HC : Hid (∀ w1, Env base w1 → Calls Tryz.prog 183 #[.string s, .string ⟨#[46]⟩] w1 fun e w' => (∃ b, e = .returned (.tuple #[.string (cutHead 46 s), .string (cutTail 46 s), .bool b])) ∧ ∃ n, w' = w1.drewN n) := fun w1 h => scut_any w1 base s 46 hs h
  have HE : Hid (Env base w) := hE
  have ht := cutTail_size 46 s
  have hh := cutHead_size 46 s
  have hq : Hid (readVer 1 s = match numB (cutTail 46 s) with
    | some v => if isNm (cutHead 46 s) = true ∧ 0 ≤ v ∧ v ≤ 999 then some (cutHead 46 s, v.toNat) else none
    | none => none) := by show _ = _; unfold readVer; rw [if_neg (by decide)]; cases numB (cutTail 46 s) <;> rfl
  generalize cutTail 46 s = T at *
  generalize cutHead 46 s = H at *
  clear hE
  go_enter Tryz.func159, Tryz.ntmps159
  go_wp2_with (first
    | (go_at_call 183; refine (HC.out _ (HE.out.below ((Below.refl _ _).alloc (Nat.le_refl _) _))).mono ?_; rintro e w1 ⟨⟨b, rfl⟩, k, rfl⟩)
    | (go_at_call 184; refine (readNumber_any _ base T (by omega) (HE.out.below (below_drewN ((Below.refl _ _).alloc (Nat.le_refl _) _) _))).mono ?_; rintro e w2 ⟨⟨n, rfl, hn0, hlo, hhi⟩, hb0⟩; have hb2 : Hid _ := hb0; have hn : Hid _ := hn0; have hbox0 := hb0.block w.heap.size (by simp); rw [World.heap_drewN, heap_alloc_new] at hbox0; have hbox : Hid _ := hbox0; have c0 : w2.cell? ⟨w.heap.size, 0, none⟩ = some (.string ⟨#[]⟩) := (by simp [World.cell?, hbox0]); have c1 : w2.cell? ⟨w.heap.size, 1, none⟩ = some (.int .i64 0) := (by simp [World.cell?, hbox0]); have f0 : w2.frozen? ⟨w.heap.size, 0, none⟩ = false := (by simp [World.frozen?, hbox0]); have f1 : w2.frozen? ⟨w.heap.size, 1, none⟩ = false := (by simp [World.frozen?, hbox0]); have d0 : ∀ u, (w2.setCell ⟨w.heap.size, 0, none⟩ u).cell? ⟨w.heap.size, 0, none⟩ = some u := (fun u => World.cell?_setCell_same _ _ _ c0); have d1 : ∀ v u, ((w2.setCell ⟨w.heap.size, 0, none⟩ v).setCell ⟨w.heap.size, 1, none⟩ u).cell? ⟨w.heap.size, 1, none⟩ = some u := (fun v u => World.cell?_setCell_same _ _ _ (u := .int .i64 0) (by rw [World.cell?_setCell_other _ _ _ _ (by simp)]; exact c1)); clear hb0 hn0 hbox0)
    | (go_at_call 182; refine (isName_any _ H).mono ?_; rintro e w1 ⟨rfl, rfl⟩))
  all_goals (have hf := readVer_facts hq.out hn.out)
  all_goals (refine bodyPost_ret (by simp [results, Tryz.results159, go_sem, d0, d1]; try rfl) rfl ?_)
  all_goals (refine ⟨⟨H, n, ?_, (by first | exact hf.2 | exact fun a b h => hf.2 (a, b) h)⟩, ((((Below.refl _ _).alloc (Nat.le_refl _) _).trans (below_drewN (Below.refl _ _) _)).trans (hb2.out.mono (by simp))).setCell (Nat.le_refl _) _ |>.setCell (Nat.le_refl _) _⟩)
  all_goals (rw [hf.1]; simp_all)
  all_goals omega

theorem tongue_any (w : World) (base : Nat) (tg : Nat) (htg : tg = 0 ∨ tg = 1) (s : BA) (hs : s.size ≤ 4294967280) (hE : Env base w) : Calls Tryz.prog 159 #[.int .i64 (tg : Int), .string s] w fun e w' => (∃ (a : BA) (n : Int), e = .returned (.tuple #[.agg #[.string a, .int .i64 n], .bool (readVer tg s).isSome]) ∧ ∀ v, readVer tg s = some v → a = v.1 ∧ n = (v.2 : Int)) ∧ Below w.heap.size w w' := by
  rcases htg with rfl | rfl
  · exact tongue_names w s
  · exact tongue_versions w base s hs hE

end Go.Proofs.YtbddcodljmglfaaGreatDoor
