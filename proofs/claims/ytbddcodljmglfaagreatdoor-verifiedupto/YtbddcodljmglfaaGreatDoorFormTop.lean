/- forms.Read, ridge.Verify. -/
import Derived.Test.YtbddcodljmglfaaGreatDoorFaultFn
import Derived.Test.YtbddcodljmglfaaGreatDoorFormRead
import Derived.Test.YtbddcodljmglfaaGreatDoorPRead
import Derived.Test.YtbddcodljmglfaaGreatDoorRunA
set_option linter.unusedSimpArgs false
set_option linter.unusedVariables false
namespace Go.Proofs.YtbddcodljmglfaaGreatDoor
open Go.RowKit

theorem step_count {tg mb i : Nat} {s : BA} {p q : PG} (h : stepL tg mb i s p = some q) (hp : p.closed.length + p.cur.toList.length ≤ mb) : q.closed.length + q.cur.toList.length ≤ mb := by
  unfold stepL at h
  split at h
  · split at h
    · injection h with h; subst h; exact hp
    · cases h
  · split at h
    · rename_i b hb
      rw [hb] at hp
      simp at hp
      split at h
      · injection h with h; subst h; simp; omega
      · injection h with h; subst h; simp; omega
      · cases h
    · rename_i hb
      split at h
      · rename_i hq
        injection h with h; subst h; simp; omega
      · cases h
theorem run_count {tg mb : Nat} : ∀ (T : List BA) (i : Nat) (p q : PG), runL tg mb i T p = .ok q → p.closed.length + p.cur.toList.length ≤ mb → q.closed.length ≤ mb ∧ 1 ≤ q.closed.length
  | [], i, p, q, h, hp => by
    unfold runL at h
    split at h
    · rename_i hc
      injection h with h
      subst h
      exact ⟨by omega, by have := hc.2; omega⟩
    · cases h
  | s :: r, i, p, q, h, hp => by
    unfold runL at h
    cases hst : stepL tg mb i s p with
    | none => rw [hst] at h; cases h
    | some p' =>
      rw [hst] at h
      exact run_count r (i + 1) p' q h (step_count hst hp)
theorem readG_count {tg mb ml : Nat} {s : BA} {a : List Ver} {bs : List BlockG} (h : readG tg mb ml s = .ok (a, bs)) : 1 ≤ bs.length ∧ bs.length ≤ mb ∧ ∀ b ∈ bs, ∀ l ∈ b.lines, ∀ k ∈ l.leads, k < bs.length := by
  unfold readG at h
  split at h
  · cases h
  · split at h
    · cases h
    · rename_i q hq
      split at h
      · cases h
      · rename_i hl
        injection h with h
        injection h with h1 h2
        subst h1 h2
        have := run_count _ _ _ _ hq (by simp)
        exact ⟨this.2, this.1, lostG_none _ hl⟩
theorem fault_code {bs : List BlockG} {e : Nat × Nat} (h : faultG bs = some e) : e.1 = 3 ∨ e.1 = 10 ∨ e.1 = 11 := by
  unfold faultG at h
  split at h
  · injection h with h; subst h; simp
  · split at h
    · injection h with h; subst h; simp
    · split at h
      · injection h with h; subst h; simp
      · cases h

set_option maxRecDepth 100000 in
set_option maxHeartbeats 4000000 in
theorem fread_any (w : World) (base0 : Nat) (s : BA) (hs : s.size ≤ 4294967280) (hE : Env base0 w) :
    Calls Tryz.prog 36 #[.string s] w fun e w' => ReadOut w w' (formG s) e := by
  have HRF : Hid (∀ W, Below w.heap.size w W → Calls Tryz.prog 67 #[.string s] W fun e w' => ReadOut W w' (readG 1 40 1000 s) e) := fun W hb => readForm_any W base0 s hs (hE.below hb)
  clear hE
  cases hr : readG 1 40 1000 s with
  | error ci =>
    obtain ⟨c, i⟩ := ci
    have hce := readG_err hr
    have hf : formG s = .error (c, i) := by unfold formG; rw [hr]
    have HF : Hid (formG s = .error (c, i)) := hf
    have HRF1 : Hid (∀ W, Below w.heap.size w W → Calls Tryz.prog 67 #[.string s] W fun e w' => (∃ v, e = .returned (.tuple #[v, .int .i64 (c : Int), .int .i64 (i : Int)]) ∧ IsProg v) ∧ Below W.heap.size W w') := fun W hb => (HRF.out W hb).mono (by
      rintro e w' ⟨-, h2, h3⟩
      exact ⟨h2 c i hr, h3⟩)
    have hc0 : ((c : Int) == 0) = false := by rw [beq_eq_false_iff_ne]; omega
    clear HRF hr hf
    go_enter Tryz.func36, Tryz.ntmps36
    go_wp2_with (first
      | (go_at_call 67; refine (HRF1.out _ ((Below.refl _ _).alloc (Nat.le_refl _) _)).mono ?_; rintro e w1 ⟨⟨v, rfl, x2, y2, a2, b2, c2, d2, rfl⟩, hb1⟩; have HB1 : Hid (Below w.heap.size w w1) := ((Below.refl _ _).alloc (Nat.le_refl _) _).trans (hb1.mono (by simp)); have HX1 : Hid (∀ o, BoxIn (w1.alloc o) w.heap.size 52 zProg) := (fun o => ((BoxIn.new w 52 zProg).below hb1).below ((Below.refl _ _).alloc (Nat.le_refl _) o)); clear hb1)
      | (refine wpList_store_box aggProg rfl _ _ rfl _ rfl _ zProg rfl (HX1.out _) rfl rfl one_zProg ?_; intro w8 hb8 hg8 hs8))
    refine bodyPost_ret (results_box3 aggProg Tryz.results36 rfl rfl rfl rfl hb8) rfl ?_
    refine ⟨fun a b h => (by rw [HF.out] at h; cases h), fun c' i' h => ?_, (HB1.out.alloc HB1.out.size _).trans (hg8.below (by have := HB1.out.size; simp; omega) (fun q hq => by omega))⟩
    rw [HF.out] at h
    injection h with h
    injection h with h1 h2
    subst h1 h2
    exact ⟨_, rfl, isProg_z⟩
  | ok r =>
    obtain ⟨A, bs⟩ := r
    obtain ⟨n1, n2, n3⟩ := readG_count hr
    obtain ⟨p, N, hF, hpa, hpc, hNN⟩ := readG_far hr
    have hform : formG s = match faultG bs with | some e => .error e | none => .ok (A, bs) := by unfold formG; rw [hr]; simp only []; cases faultG bs <;> rfl
    have HRF1 : Hid (∀ W, Below w.heap.size w W → Calls Tryz.prog 67 #[.string s] W fun e w' => (∃ av bv B, e = .returned (.tuple #[.agg #[av, bv], .int .i64 0, .int .i64 0]) ∧ ProgIn w' av bv A B ∧ B.map BV.g = bs ∧ IsProg (.agg #[av, bv])) ∧ Below W.heap.size W w') := fun W hb => (HRF.out W hb).mono (by
      rintro e w' ⟨h1, -, h3⟩
      exact ⟨h1 A bs hr, h3⟩)
    have HFA : Hid (∀ W k av bv B, B.map BV.g = bs → ProgIn W av bv A B → BoxIn W k 52 [av, bv] → Calls Tryz.prog 68 #[.pointer (some ⟨k, 0, none⟩)] W fun e w' => e = .returned (.tuple #[.int .i64 ((((faultG bs).getD (0, 0)).1 : Nat) : Int), .int .i64 ((((faultG bs).getD (0, 0)).2 : Nat) : Int)]) ∧ Below W.heap.size W w') := fun W k av bv B hB hP hb => by
      have hlen : B.length = bs.length := by rw [← hB]; simp
      have := fault_any W k av bv A B hP hb (by omega) (by omega) (fun b hbm => by
        have h1 := hF.closed b.g (by rw [hpc, ← hB]; exact List.mem_map.2 ⟨b, hbm, rfl⟩)
        simp [BV.g] at h1
        omega) (fun b hbm x hx k hk => by
        rw [hlen]
        exact n3 b.g (by rw [← hB]; exact List.mem_map.2 ⟨b, hbm, rfl⟩) x.l (List.mem_map.2 ⟨x, hx, rfl⟩) k hk)
      rw [hB] at this
      exact this
    cases hfa : faultG bs with
    | some ci =>
      obtain ⟨c, i⟩ := ci
      rw [hfa] at hform HFA
      have HF : Hid (formG s = .error (c, i)) := hform
      have hce := fault_code hfa
      simp only [Option.getD_some] at HFA
      have hc0 : ((c : Int) == 0) = false := by rw [beq_eq_false_iff_ne]; omega
      clear HRF hr hform hF hpa hpc n1 n2 n3 hfa
      go_enter Tryz.func36, Tryz.ntmps36
      go_wp2_with (first
        | (go_at_call 67; refine (HRF1.out _ ((Below.refl _ _).alloc (Nat.le_refl _) _)).mono ?_; rintro e w1 ⟨⟨av, bv, B, rfl, hP1, hBG, x2, y2, a2, b2, c2, d2, hab⟩, hb1⟩; obtain ⟨rfl, rfl⟩ := prog_inj hab; have HP1 : Hid (ProgIn w1 _ _ A B) := hP1; have HBG : Hid (B.map BV.g = bs) := hBG; have HB1 : Hid (Below w.heap.size w w1) := ((Below.refl _ _).alloc (Nat.le_refl _) _).trans (hb1.mono (by simp)); have HX1 : Hid (∀ o, BoxIn (w1.alloc o) w.heap.size 52 zProg) := (fun o => ((BoxIn.new w 52 zProg).below hb1).below ((Below.refl _ _).alloc (Nat.le_refl _) o)); clear hb1 hP1 hBG hab)
        | (go_at_call 68; refine (HFA.out _ _ _ _ B HBG.out (held_new HP1.out).1 (held_new HP1.out).2).mono ?_; rintro e w3 ⟨rfl, hb3⟩; have HB3 : Hid (Below w.heap.size w w3) := (HB1.out.alloc HB1.out.size _).trans (hb3.mono (by have := HB1.out.size; simp; omega)); have HX3 : Hid (BoxIn w3 w.heap.size 52 zProg) := (HX1.out _).below hb3; clear hb3)
        | (refine wpList_store_box aggProg rfl _ _ rfl _ rfl _ zProg rfl HX3.out rfl rfl one_zProg ?_; intro w8 hb8 hg8 hs8))
      refine bodyPost_ret (results_box3 aggProg Tryz.results36 rfl rfl rfl rfl hb8) rfl ?_
      refine ⟨fun a b h => (by rw [HF.out] at h; cases h), fun c' i' h => ?_, HB3.out.trans (hg8.below HB3.out.size (fun q hq => by omega))⟩
      rw [HF.out] at h
      injection h with h
      injection h with h1 h2
      subst h1 h2
      exact ⟨_, rfl, isProg_z⟩
    | none =>
      rw [hfa] at hform HFA
      have HF : Hid (formG s = .ok (A, bs)) := hform
      simp only [Option.getD_none] at HFA
      clear HRF hr hform hF hpa hpc n1 n2 n3 hfa
      go_enter Tryz.func36, Tryz.ntmps36
      go_wp2_with (first
        | (go_at_call 67; refine (HRF1.out _ ((Below.refl _ _).alloc (Nat.le_refl _) _)).mono ?_; rintro e w1 ⟨⟨av, bv, B, rfl, hP1, hBG, x2, y2, a2, b2, c2, d2, hab⟩, hb1⟩; obtain ⟨rfl, rfl⟩ := prog_inj hab; have HP1 : Hid (ProgIn w1 _ _ A B) := hP1; have HBG : Hid (B.map BV.g = bs) := hBG; have HB1 : Hid (Below w.heap.size w w1) := ((Below.refl _ _).alloc (Nat.le_refl _) _).trans (hb1.mono (by simp)); have HX1 : Hid (∀ o, BoxIn (w1.alloc o) w.heap.size 52 zProg) := (fun o => ((BoxIn.new w 52 zProg).below hb1).below ((Below.refl _ _).alloc (Nat.le_refl _) o)); clear hb1 hP1 hBG hab)
        | (go_at_call 68; refine (HFA.out _ _ _ _ B HBG.out (held_new HP1.out).1 (held_new HP1.out).2).mono ?_; rintro e w3 ⟨rfl, hb3⟩; have HB3 : Hid (Below w.heap.size w w3) := (HB1.out.alloc HB1.out.size _).trans (hb3.mono (by have := HB1.out.size; simp; omega)); have HX3 : Hid (BoxIn w3 w.heap.size 52 zProg) := (HX1.out _).below hb3; have HP3 : Hid (ProgIn w3 _ _ A B) := (held_new HP1.out).1.below hb3; have HF3 : Hid (BoxIn w3 w1.heap.size 52 _) := (held_new HP1.out).2.below hb3; clear hb3)
        | (refine wpList_load_box aggProg rfl _ rfl _ rfl _ rfl HF3.out ?_)
        | (refine wpList_store_box aggProg rfl _ _ rfl _ rfl _ [.slice x2 a2 b2, .slice y2 c2 d2] rfl HX3.out rfl rfl one_prog ?_; intro w8 hb8 hg8 hs8))
      refine bodyPost_ret (results_box3 aggProg Tryz.results36 rfl rfl rfl rfl hb8) rfl ?_
      refine ⟨fun a b h => ?_, fun c' i' h => (by rw [HF.out] at h; cases h), HB3.out.trans (hg8.below HB3.out.size (fun q hq => by omega))⟩
      rw [HF.out] at h
      injection h with h
      injection h with h1 h2
      subst h1 h2
      exact ⟨_, _, B, rfl, HP3.out.grew HX3.out hg8, HBG.out, _, _, _, _, _, _, rfl⟩

/-- The error and the line of a form. -/
noncomputable def codeF (s : BA) : Nat × Nat := match formG s with | .ok _ => (0, 0) | .error e => e

set_option maxRecDepth 100000 in
set_option maxHeartbeats 4000000 in
theorem verify_any (w : World) (base0 : Nat) (s : BA) (hs : s.size ≤ 4294967280) (hE : Env base0 w) :
    Calls Tryz.prog 21 #[.string s] w fun e w' => e = .returned (.tuple #[.int .i64 ((codeF s).1 : Int), .int .i64 ((codeF s).2 : Int)]) ∧ Below w.heap.size w w' := by
  have HR : Hid (Calls Tryz.prog 36 #[.string s] w fun e w' => (∃ v, e = .returned (.tuple #[v, .int .i64 ((codeF s).1 : Int), .int .i64 ((codeF s).2 : Int)]) ∧ IsProg v) ∧ Below w.heap.size w w') := (fread_any w base0 s hs hE).mono (by
    rintro e w' ⟨h1, h2, h3⟩
    refine ⟨?_, h3⟩
    unfold codeF
    cases hf : formG s with
    | ok r =>
      obtain ⟨A, bs⟩ := r
      obtain ⟨av, bv, B, h, -, -, hi⟩ := h1 A bs hf
      exact ⟨_, h, hi⟩
    | error ci => exact h2 ci.1 ci.2 hf)
  clear hE
  generalize codeF s = q at *
  obtain ⟨q1, q2⟩ := q
  go_enter Tryz.func21, Tryz.ntmps21
  go_wp2_with (first
    | (go_at_call 36; refine Calls.mono HR.out ?_; rintro e w1 ⟨⟨v, rfl, x2, y2, a2, b2, c2, d2, rfl⟩, hb1⟩; have HB1 : Hid (Below w.heap.size w w1) := hb1; clear hb1))
  go_ret2
  exact ⟨rfl, HB1.out.alloc HB1.out.size _⟩

end Go.Proofs.YtbddcodljmglfaaGreatDoor
