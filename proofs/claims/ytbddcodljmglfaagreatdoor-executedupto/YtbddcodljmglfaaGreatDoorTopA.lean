/- programs.ReadForm. And what follows on it. -/
import Derived.Test.YtbddcodljmglfaaGreatDoorGoForms
import Derived.Test.YtbddcodljmglfaaGreatDoorTailA
import Derived.Test.YtbddcodljmglfaaGreatDoorFaultFn
import Derived.Test.YtbddcodljmglfaaGreatDoorRunA
set_option linter.unusedSimpArgs false
set_option linter.unusedVariables false
namespace Go.Proofs.YtbddcodljmglfaaGreatDoor
open Go.RowKit

set_option maxRecDepth 100000 in
set_option maxHeartbeats 4000000 in
theorem readForm_any (w : World) (base0 : Nat) (s : BA) (hs : s.size ≤ 4294967280) (hE : Env base0 w) :
    Calls Tryz.prog 67 #[.string s] w fun e w' => ReadOut w w' (readG 1 40 1000 s) e := by
  have HK : Hid (∀ W, Below w.heap.size w W → Calls Tryz.prog 42 #[.agg #[.int .i64 1000, .int .i64 40, .int .i64 1], .string s] W fun e w' => ReadOut W w' (readG 1 40 1000 s) e) := fun W hb => kread_any W base0 1000 40 1 goesOn_forms (.inr rfl) s hs (by omega) (by omega) (hE.below hb)
  clear hE
  go_enter Tryz.func67, Tryz.ntmps67
  go_wp2_with fail
  refine (HK.out _ ((Below.refl _ _).alloc (Nat.le_refl _) _)).mono ?_
  rintro e w1 ⟨hok, her, hb1⟩
  have HB1 : Hid (Below w.heap.size w w1) := ((Below.refl _ _).alloc (Nat.le_refl _) _).trans (hb1.mono (by simp))
  have HX1 : Hid (BoxIn w1 w.heap.size 52 zProg) := (BoxIn.new w 52 zProg).below hb1
  clear hb1 HK
  cases hr : readG 1 40 1000 s with
  | ok r =>
    obtain ⟨A, bs⟩ := r
    obtain ⟨av, bv, B, rfl, hP, hB, hi⟩ := hok A bs hr
    have HP : Hid (ProgIn w1 av bv A B) := hP
    have HI : Hid (IsProg (.agg #[av, bv])) := hi
    obtain ⟨x2, y2, a2, b2, c2, d2, hvv⟩ := hi
    obtain ⟨rfl, rfl⟩ := prog_inj hvv
    clear hok her hP hvv
    go_wp2_with (first
      | (refine wpList_store_box aggProg rfl _ _ rfl _ rfl _ [.slice x2 a2 b2, .slice y2 c2 d2] rfl HX1.out rfl rfl one_prog ?_; intro w8 hb8 hg8 hs8))
    refine bodyPost_ret (results_box3 aggProg Tryz.results67 rfl rfl rfl rfl hb8) rfl ?_
    refine ⟨fun a b h => ?_, fun c i h => (by rw [hr] at h; cases h), HB1.out.trans (hg8.below HB1.out.size (fun q hq => by omega))⟩
    rw [hr] at h
    injection h with h
    injection h with h1 h2
    subst h1 h2
    exact ⟨_, _, B, rfl, HP.out.grew HX1.out hg8, hB, HI.out⟩
  | error ci =>
    obtain ⟨c, i⟩ := ci
    obtain ⟨v, rfl, hi⟩ := her c i hr
    have HI : Hid (IsProg v) := hi
    obtain ⟨x2, y2, a2, b2, c2, d2, rfl⟩ := hi
    clear hok her
    go_wp2_with (first
      | (refine wpList_store_box aggProg rfl _ _ rfl _ rfl _ [.slice x2 a2 b2, .slice y2 c2 d2] rfl HX1.out rfl rfl one_prog ?_; intro w8 hb8 hg8 hs8))
    refine bodyPost_ret (results_box3 aggProg Tryz.results67 rfl rfl rfl rfl hb8) rfl ?_
    refine ⟨fun a b h => (by rw [hr] at h; cases h), fun c' i' h => ?_, HB1.out.trans (hg8.below HB1.out.size (fun q hq => by omega))⟩
    rw [hr] at h
    injection h with h
    injection h with h1 h2
    subst h1 h2
    exact ⟨_, rfl, HI.out⟩

end Go.Proofs.YtbddcodljmglfaaGreatDoor

namespace Go.Proofs.YtbddcodljmglfaaGreatDoor
open Go.RowKit

/-- A function's first result in a box. -/
structure RS (w W : World) : Prop where
  rb : BoxIn W w.heap.size 52 zProg
  bel : Below w.heap.size w W
  sz : w.heap.size + 1 ≤ W.heap.size
theorem RS.below {w W W' : World} (h : RS w W) (hb : Below W.heap.size W W') : RS w W' :=
  ⟨h.rb.below hb, h.bel.trans (hb.mono (by have := h.sz; omega)), Nat.le_trans h.sz hb.size⟩
theorem RS.start (w : World) : RS w (w.alloc (.cells #[.slice none 0 0, .slice none 0 0] 52)) :=
  ⟨BoxIn.new w 52 zProg, (Below.refl _ _).alloc (Nat.le_refl _) _, by simp⟩
theorem readG_err {tg mb ml : Nat} {s : BA} {c i : Nat} (h : readG tg mb ml s = .error (c, i)) : 6 ≤ c ∧ c ≤ 8 := by
  unfold readG at h
  split at h
  · injection h with h; injection h with h1 h2; omega
  · split at h
    · injection h with h; injection h with h1 h2; omega
    · split at h
      · injection h with h; injection h with h1 h2; omega
      · cases h
theorem readG_far {tg mb ml : Nat} {s : BA} {a : List Ver} {bs : List BlockG} (h : readG tg mb ml s = .ok (a, bs)) : ∃ p N, Far N p ∧ p.args = a ∧ p.closed = bs ∧ N ≤ ml := by
  unfold readG at h
  split at h
  · cases h
  · rename_i hl
    split at h
    · cases h
    · rename_i p hp
      split at h
      · cases h
      · injection h with h
        injection h with h1 h2
        exact ⟨p, _, far_all hp, h1, h2, by omega⟩

end Go.Proofs.YtbddcodljmglfaaGreatDoor

namespace Go.Proofs.YtbddcodljmglfaaGreatDoor
open Go.RowKit

theorem step_count {tg mb i : Nat} {s : BA} {p q : PG} (h : stepL tg mb i s p = some q) (hp : p.closed.length + p.cur.toList.length ≤ mb) : q.closed.length + q.cur.toList.length ≤ mb := by
  unfold stepL at h
  split at h
  · split at h
    · injection h with h; subst h; exact hp
    · cases h
  · split at h
    · rename_i b hb
      rw [hb] at hp
      simp at hp
      split at h
      · injection h with h; subst h; simp; omega
      · injection h with h; subst h; simp; omega
      · cases h
    · rename_i hb
      split at h
      · rename_i hq
        injection h with h; subst h; simp; omega
      · cases h
theorem run_count {tg mb : Nat} : ∀ (T : List BA) (i : Nat) (p q : PG), runL tg mb i T p = .ok q → p.closed.length + p.cur.toList.length ≤ mb → q.closed.length ≤ mb ∧ 1 ≤ q.closed.length
  | [], i, p, q, h, hp => by
    unfold runL at h
    split at h
    · rename_i hc
      injection h with h
      subst h
      exact ⟨by omega, by have := hc.2; omega⟩
    · cases h
  | s :: r, i, p, q, h, hp => by
    unfold runL at h
    cases hst : stepL tg mb i s p with
    | none => rw [hst] at h; cases h
    | some p' =>
      rw [hst] at h
      exact run_count r (i + 1) p' q h (step_count hst hp)
theorem readG_count {tg mb ml : Nat} {s : BA} {a : List Ver} {bs : List BlockG} (h : readG tg mb ml s = .ok (a, bs)) : 1 ≤ bs.length ∧ bs.length ≤ mb ∧ ∀ b ∈ bs, ∀ l ∈ b.lines, ∀ k ∈ l.leads, k < bs.length := by
  unfold readG at h
  split at h
  · cases h
  · split at h
    · cases h
    · rename_i q hq
      split at h
      · cases h
      · rename_i hl
        injection h with h
        injection h with h1 h2
        subst h1 h2
        have := run_count _ _ _ _ hq (by simp)
        exact ⟨this.2, this.1, lostG_none _ hl⟩
theorem fault_code {bs : List BlockG} {e : Nat × Nat} (h : faultG bs = some e) : e.1 = 3 ∨ e.1 = 10 ∨ e.1 = 11 := by
  unfold faultG at h
  split at h
  · injection h with h; subst h; simp
  · split at h
    · injection h with h; subst h; simp
    · split at h
      · injection h with h; subst h; simp
      · cases h

set_option maxRecDepth 100000 in
set_option maxHeartbeats 4000000 in
theorem fread_any (w : World) (base0 : Nat) (s : BA) (hs : s.size ≤ 4294967280) (hE : Env base0 w) :
    Calls Tryz.prog 36 #[.string s] w fun e w' => ReadOut w w' (formG s) e := by
  have HRF : Hid (∀ W, Below w.heap.size w W → Calls Tryz.prog 67 #[.string s] W fun e w' => ReadOut W w' (readG 1 40 1000 s) e) := fun W hb => readForm_any W base0 s hs (hE.below hb)
  clear hE
  cases hr : readG 1 40 1000 s with
  | error ci =>
    obtain ⟨c, i⟩ := ci
    have hce := readG_err hr
    have hf : formG s = .error (c, i) := by unfold formG; rw [hr]
    have HF : Hid (formG s = .error (c, i)) := hf
    have HRF1 : Hid (∀ W, Below w.heap.size w W → Calls Tryz.prog 67 #[.string s] W fun e w' => (∃ v, e = .returned (.tuple #[v, .int .i64 (c : Int), .int .i64 (i : Int)]) ∧ IsProg v) ∧ Below W.heap.size W w') := fun W hb => (HRF.out W hb).mono (by
      rintro e w' ⟨-, h2, h3⟩
      exact ⟨h2 c i hr, h3⟩)
    have hc0 : ((c : Int) == 0) = false := by rw [beq_eq_false_iff_ne]; omega
    clear HRF hr hf
    go_enter Tryz.func36, Tryz.ntmps36
    go_wp2_with (first
      | (go_at_call 67; refine (HRF1.out _ ((Below.refl _ _).alloc (Nat.le_refl _) _)).mono ?_; rintro e w1 ⟨⟨v, rfl, x2, y2, a2, b2, c2, d2, rfl⟩, hb1⟩; have HB1 : Hid (Below w.heap.size w w1) := ((Below.refl _ _).alloc (Nat.le_refl _) _).trans (hb1.mono (by simp)); have HX1 : Hid (∀ o, BoxIn (w1.alloc o) w.heap.size 52 zProg) := (fun o => ((BoxIn.new w 52 zProg).below hb1).below ((Below.refl _ _).alloc (Nat.le_refl _) o)); clear hb1)
      | (refine wpList_store_box aggProg rfl _ _ rfl _ rfl _ zProg rfl (HX1.out _) rfl rfl one_zProg ?_; intro w8 hb8 hg8 hs8))
    refine bodyPost_ret (results_box3 aggProg Tryz.results36 rfl rfl rfl rfl hb8) rfl ?_
    refine ⟨fun a b h => (by rw [HF.out] at h; cases h), fun c' i' h => ?_, (HB1.out.alloc HB1.out.size _).trans (hg8.below (by have := HB1.out.size; simp; omega) (fun q hq => by omega))⟩
    rw [HF.out] at h
    injection h with h
    injection h with h1 h2
    subst h1 h2
    exact ⟨_, rfl, isProg_z⟩
  | ok r =>
    obtain ⟨A, bs⟩ := r
    obtain ⟨n1, n2, n3⟩ := readG_count hr
    obtain ⟨p, N, hF, hpa, hpc, hNN⟩ := readG_far hr
    have hform : formG s = match faultG bs with | some e => .error e | none => .ok (A, bs) := by unfold formG; rw [hr]; simp only []; cases faultG bs <;> rfl
    have HRF1 : Hid (∀ W, Below w.heap.size w W → Calls Tryz.prog 67 #[.string s] W fun e w' => (∃ av bv B, e = .returned (.tuple #[.agg #[av, bv], .int .i64 0, .int .i64 0]) ∧ ProgIn w' av bv A B ∧ B.map BV.g = bs ∧ IsProg (.agg #[av, bv])) ∧ Below W.heap.size W w') := fun W hb => (HRF.out W hb).mono (by
      rintro e w' ⟨h1, -, h3⟩
      exact ⟨h1 A bs hr, h3⟩)
    have HFA : Hid (∀ W k av bv B, B.map BV.g = bs → ProgIn W av bv A B → BoxIn W k 52 [av, bv] → Calls Tryz.prog 68 #[.pointer (some ⟨k, 0, none⟩)] W fun e w' => e = .returned (.tuple #[.int .i64 ((((faultG bs).getD (0, 0)).1 : Nat) : Int), .int .i64 ((((faultG bs).getD (0, 0)).2 : Nat) : Int)]) ∧ Below W.heap.size W w') := fun W k av bv B hB hP hb => by
      have hlen : B.length = bs.length := by rw [← hB]; simp
      have := fault_any W k av bv A B hP hb (by omega) (by omega) (fun b hbm => by
        have h1 := hF.closed b.g (by rw [hpc, ← hB]; exact List.mem_map.2 ⟨b, hbm, rfl⟩)
        simp [BV.g] at h1
        omega) (fun b hbm x hx k hk => by
        rw [hlen]
        exact n3 b.g (by rw [← hB]; exact List.mem_map.2 ⟨b, hbm, rfl⟩) x.l (List.mem_map.2 ⟨x, hx, rfl⟩) k hk)
      rw [hB] at this
      exact this
    cases hfa : faultG bs with
    | some ci =>
      obtain ⟨c, i⟩ := ci
      rw [hfa] at hform HFA
      have HF : Hid (formG s = .error (c, i)) := hform
      have hce := fault_code hfa
      simp only [Option.getD_some] at HFA
      have hc0 : ((c : Int) == 0) = false := by rw [beq_eq_false_iff_ne]; omega
      clear HRF hr hform hF hpa hpc n1 n2 n3 hfa
      go_enter Tryz.func36, Tryz.ntmps36
      go_wp2_with (first
        | (go_at_call 67; refine (HRF1.out _ ((Below.refl _ _).alloc (Nat.le_refl _) _)).mono ?_; rintro e w1 ⟨⟨av, bv, B, rfl, hP1, hBG, x2, y2, a2, b2, c2, d2, hab⟩, hb1⟩; obtain ⟨rfl, rfl⟩ := prog_inj hab; have HP1 : Hid (ProgIn w1 _ _ A B) := hP1; have HBG : Hid (B.map BV.g = bs) := hBG; have HB1 : Hid (Below w.heap.size w w1) := ((Below.refl _ _).alloc (Nat.le_refl _) _).trans (hb1.mono (by simp)); have HX1 : Hid (∀ o, BoxIn (w1.alloc o) w.heap.size 52 zProg) := (fun o => ((BoxIn.new w 52 zProg).below hb1).below ((Below.refl _ _).alloc (Nat.le_refl _) o)); clear hb1 hP1 hBG hab)
        | (go_at_call 68; refine (HFA.out _ _ _ _ B HBG.out (held_new HP1.out).1 (held_new HP1.out).2).mono ?_; rintro e w3 ⟨rfl, hb3⟩; have HB3 : Hid (Below w.heap.size w w3) := (HB1.out.alloc HB1.out.size _).trans (hb3.mono (by have := HB1.out.size; simp; omega)); have HX3 : Hid (BoxIn w3 w.heap.size 52 zProg) := (HX1.out _).below hb3; clear hb3)
        | (refine wpList_store_box aggProg rfl _ _ rfl _ rfl _ zProg rfl HX3.out rfl rfl one_zProg ?_; intro w8 hb8 hg8 hs8))
      refine bodyPost_ret (results_box3 aggProg Tryz.results36 rfl rfl rfl rfl hb8) rfl ?_
      refine ⟨fun a b h => (by rw [HF.out] at h; cases h), fun c' i' h => ?_, HB3.out.trans (hg8.below HB3.out.size (fun q hq => by omega))⟩
      rw [HF.out] at h
      injection h with h
      injection h with h1 h2
      subst h1 h2
      exact ⟨_, rfl, isProg_z⟩
    | none =>
      rw [hfa] at hform HFA
      have HF : Hid (formG s = .ok (A, bs)) := hform
      simp only [Option.getD_none] at HFA
      clear HRF hr hform hF hpa hpc n1 n2 n3 hfa
      go_enter Tryz.func36, Tryz.ntmps36
      go_wp2_with (first
        | (go_at_call 67; refine (HRF1.out _ ((Below.refl _ _).alloc (Nat.le_refl _) _)).mono ?_; rintro e w1 ⟨⟨av, bv, B, rfl, hP1, hBG, x2, y2, a2, b2, c2, d2, hab⟩, hb1⟩; obtain ⟨rfl, rfl⟩ := prog_inj hab; have HP1 : Hid (ProgIn w1 _ _ A B) := hP1; have HBG : Hid (B.map BV.g = bs) := hBG; have HB1 : Hid (Below w.heap.size w w1) := ((Below.refl _ _).alloc (Nat.le_refl _) _).trans (hb1.mono (by simp)); have HX1 : Hid (∀ o, BoxIn (w1.alloc o) w.heap.size 52 zProg) := (fun o => ((BoxIn.new w 52 zProg).below hb1).below ((Below.refl _ _).alloc (Nat.le_refl _) o)); clear hb1 hP1 hBG hab)
        | (go_at_call 68; refine (HFA.out _ _ _ _ B HBG.out (held_new HP1.out).1 (held_new HP1.out).2).mono ?_; rintro e w3 ⟨rfl, hb3⟩; have HB3 : Hid (Below w.heap.size w w3) := (HB1.out.alloc HB1.out.size _).trans (hb3.mono (by have := HB1.out.size; simp; omega)); have HX3 : Hid (BoxIn w3 w.heap.size 52 zProg) := (HX1.out _).below hb3; have HP3 : Hid (ProgIn w3 _ _ A B) := (held_new HP1.out).1.below hb3; have HF3 : Hid (BoxIn w3 w1.heap.size 52 _) := (held_new HP1.out).2.below hb3; clear hb3)
        | (refine wpList_load_box aggProg rfl _ rfl _ rfl _ rfl HF3.out ?_)
        | (refine wpList_store_box aggProg rfl _ _ rfl _ rfl _ [.slice x2 a2 b2, .slice y2 c2 d2] rfl HX3.out rfl rfl one_prog ?_; intro w8 hb8 hg8 hs8))
      refine bodyPost_ret (results_box3 aggProg Tryz.results36 rfl rfl rfl rfl hb8) rfl ?_
      refine ⟨fun a b h => ?_, fun c' i' h => (by rw [HF.out] at h; cases h), HB3.out.trans (hg8.below HB3.out.size (fun q hq => by omega))⟩
      rw [HF.out] at h
      injection h with h
      injection h with h1 h2
      subst h1 h2
      exact ⟨_, _, B, rfl, HP3.out.grew HX3.out hg8, HBG.out, _, _, _, _, _, _, rfl⟩

end Go.Proofs.YtbddcodljmglfaaGreatDoor
