/- programs.Read, ridge.Check. -/
import Derived.Test.YtbddcodljmglfaaGreatDoorKRead
set_option linter.unusedSimpArgs false
set_option linter.unusedVariables false
namespace Go.Proofs.YtbddcodljmglfaaGreatDoor
open Go.RowKit

/-- A function's first result in a box. -/
structure RS (w W : World) : Prop where
  rb : BoxIn W w.heap.size 52 zProg
  bel : Below w.heap.size w W
  sz : w.heap.size + 1 ≤ W.heap.size
theorem RS.below {w W W' : World} (h : RS w W) (hb : Below W.heap.size W W') : RS w W' :=
  ⟨h.rb.below hb, h.bel.trans (hb.mono (by have := h.sz; omega)), Nat.le_trans h.sz hb.size⟩
theorem RS.start (w : World) : RS w (w.alloc (.cells #[.slice none 0 0, .slice none 0 0] 52)) :=
  ⟨BoxIn.new w 52 zProg, (Below.refl _ _).alloc (Nat.le_refl _) _, by simp⟩
theorem wpList_store_rs {ops : Array Oper} {rest : List Oper} {op : Oper} {a : Act} {w W X : World} {Q : Exit → Act → World → Prop} (hS : RS w W) (hX : Below W.heap.size W X) (hgd : op.guard = none) (x y : Operand) (ho : op.op = .store 52 x y)
    (hx : a.eval x = .pointer (some ⟨w.heap.size, 0, none⟩)) (cs : List Value) (hy : a.eval y = .agg cs.toArray) (hl : cs.length = 2) (h1 : cs.toArray.all (·.oneCell') = true)
    (h : ∀ w', BoxIn w' w.heap.size 52 cs → Below w.heap.size w w' → Grew X w' (fun k => k = w.heap.size) → wpList Tryz.prog ops Q rest (a.put op.dst undef) w') : wpList Tryz.prog ops Q (op :: rest) a X := by
  refine wpList_store_box aggProg hgd x y ho _ hx _ cs hy (hS.below hX).rb rfl hl h1 fun w8 hb8 hg8 hs8 => ?_
  refine h w8 hb8 ((hS.below hX).bel.trans (hg8.below ?_ fun k hk => by omega)) hg8
  have := hS.sz
  have := hX.size
  omega

theorem readG_err {tg mb ml : Nat} {s : BA} {c i : Nat} (h : readG tg mb ml s = .error (c, i)) : 6 ≤ c ∧ c ≤ 8 := by
  unfold readG at h
  split at h
  · injection h with h; injection h with h1 h2; omega
  · split at h
    · injection h with h; injection h with h1 h2; omega
    · split at h
      · injection h with h; injection h with h1 h2; omega
      · cases h
theorem readG_far {tg mb ml : Nat} {s : BA} {a : List Ver} {bs : List BlockG} (h : readG tg mb ml s = .ok (a, bs)) : ∃ p N, Far N p ∧ p.args = a ∧ p.closed = bs ∧ N ≤ ml := by
  unfold readG at h
  split at h
  · cases h
  · rename_i hl
    split at h
    · cases h
    · rename_i p hp
      split at h
      · cases h
      · injection h with h
        injection h with h1 h2
        exact ⟨p, _, far_all hp, h1, h2, by omega⟩

set_option maxRecDepth 100000 in
set_option maxHeartbeats 8000000 in
theorem pread_any (w : World) (base0 : Nat) (s : BA) (hs : s.size ≤ 4294967280) (hE : Env base0 w) :
    Calls Tryz.prog 29 #[.string s] w fun e w' => ReadOut w w' (progG s) e := by
  have HE : Hid (Env base0 w) := hE
  have HRS : Hid (RS w (w.alloc (.cells #[.slice none 0 0, .slice none 0 0] 52))) := RS.start w
  obtain ⟨W, hW⟩ : ∃ W, W = w.alloc (.cells #[.slice none 0 0, .slice none 0 0] 52) := ⟨_, rfl⟩
  have HW : Hid (W = w.alloc (.cells #[.slice none 0 0, .slice none 0 0] 52)) := hW
  rw [← hW] at HRS
  have HKR : Hid (∀ W', Below W.heap.size W W' → Calls Tryz.prog 42 #[.agg #[.int .i64 120, .int .i64 20, .int .i64 0], .string s] W' fun e w' => ReadOut W' w' (readG 0 20 120 s) e ∧ Below W.heap.size W w') := by
    intro W' h
    refine (kread_any W' base0 120 20 0 goesOn_names (.inl rfl) s hs (by omega) (by omega) (hE.below (HRS.out.below h).bel)).mono ?_
    rintro e w' h1
    exact ⟨h1, h.trans (h1.2.2.mono h.size)⟩
  clear hE hW
  cases hg : readG 0 20 120 s with
  | error ci =>
    obtain ⟨c, i⟩ := ci
    have hc := readG_err hg
    have hr : Hid (progG s = .error (c, i)) := by
      show _ = _
      unfold progG
      rw [hg]
    rw [hg] at HKR
    have hc0 : ¬ (c : Int) = 0 := by omega
    go_enter Tryz.func29, Tryz.ntmps29
    go_wp2_with (first
      | (go_at_call 42; rw [← HW.out]; refine (HKR.out _ (Below.refl _ _)).mono ?_; rintro e w1 ⟨⟨-, h1, -⟩, hB1⟩; obtain ⟨v1, rfl, x2, y2, a2, b2, c2, d2, rfl⟩ := h1 _ _ rfl; have HB1 : Hid (Below W.heap.size W w1) := hB1; clear h1 hB1)
      | (refine wpList_store_rs HRS.out ?_ rfl _ _ rfl rfl zProg rfl rfl one_zProg ?_; (repeat (first | exact HB1.out | exact Below.refl _ _ | exact HB1.out.size | exact Nat.le_refl _ | apply Below.drew | apply Below.setCell | apply Below.alloc)); intro w8 hb8 hB8 hg8))
    refine bodyPost_ret (results_box3 aggProg Tryz.results29 rfl rfl rfl rfl hb8) rfl ?_
    exact ⟨fun a bs h => (by rw [hr.out] at h; cases h), fun c j h => (by rw [hr.out] at h; injection h with h; injection h with h1 h2; subst h1 h2; exact ⟨_, rfl, isProg_z⟩), hB8⟩
  | ok r =>
    obtain ⟨A, bs⟩ := r
    obtain ⟨p, N, hF, rfl, rfl, hN⟩ := readG_far hg
    have HF : Hid (Far N p) := hF
    rw [hg] at HKR
    have HCR : Hid (∀ W' k av bv B, Below W.heap.size W W' → W.heap.size ≤ k → ProgIn W' av bv p.args B ∧ BoxIn W' k 52 [av, bv] → B.map BV.g = p.closed → Calls Tryz.prog 43 #[.pointer (some ⟨k, 0, none⟩)] W' fun e w' => (∃ i : Nat, e = .returned (.tuple #[.int .i64 (i : Int), .bool (crowdG p.args p.closed).isSome]) ∧ ∀ k, crowdG p.args p.closed = some k → i = k) ∧ Below W.heap.size W w' ∧ ProgIn w' av bv p.args B ∧ BoxIn w' k 52 [av, bv]) := by
      intro W' k av bv B hW hk hP hB
      have hf := HF.out.blocks (by omega) hB
      refine (crowded_any W' k av bv p.args B hP.1 hP.2 hf.1 HF.out.args hf.2).mono ?_
      rw [hB]
      rintro e w' ⟨h1, h2⟩
      exact ⟨h1, hW.trans (h2.mono hW.size), hP.1.below h2, hP.2.below h2⟩
    clear hF
    cases hcr : crowdG p.args p.closed with
    | some j =>
      have hr : Hid (progG s = .error (9, j)) := by
        show _ = _
        unfold progG
        rw [hg]
        simp [hcr]
      rw [hcr] at HCR
      go_enter Tryz.func29, Tryz.ntmps29
      go_wp2_with (first
        | (go_at_call 42; rw [← HW.out]; refine (HKR.out _ (Below.refl _ _)).mono ?_; rintro e w1 ⟨⟨h1, -, -⟩, hB1⟩; obtain ⟨av, bv, B, rfl, hP, hBg, x2, y2, a2, b2, c2, d2, hab⟩ := h1 _ _ rfl; obtain ⟨rfl, rfl⟩ := prog_inj hab; have HP1 : Hid (ProgIn w1 _ _ p.args B) := hP; have HBG : Hid (B.map BV.g = p.closed) := hBg; have HB1 : Hid (Below W.heap.size W w1) := hB1; clear h1 hB1 hP hBg hab)
        | (go_at_call 43; refine (HCR.out _ _ (.slice x2 a2 b2) (.slice y2 c2 d2) B ?_ ?_ (held_new HP1.out) HBG.out).mono ?_; (repeat (first | exact HB1.out | exact Below.refl _ _ | exact HB1.out.size | exact Nat.le_refl _ | apply Below.drew | apply Below.setCell | apply Below.alloc)); rintro e w3 ⟨⟨j0, rfl, hj0⟩, hB3, hP3, hX3⟩; have HB3 : Hid (Below W.heap.size W w3) := hB3; have HP3 : Hid (ProgIn w3 _ _ p.args B) := hP3; have HX3 : Hid (BoxIn w3 _ 52 _) := hX3; obtain rfl := hj0 _ rfl; clear hB3 hP3 hX3 hj0)
        | (refine wpList_store_rs HRS.out HB3.out rfl _ _ rfl rfl zProg rfl rfl one_zProg ?_; intro w8 hb8 hB8 hg8))
      refine bodyPost_ret (results_box3 aggProg Tryz.results29 rfl rfl rfl rfl hb8) rfl ?_
      exact ⟨fun a bs h => (by rw [hr.out] at h; cases h), fun c j h => (by rw [hr.out] at h; injection h with h; injection h with h1 h2; subst h1 h2; exact ⟨_, rfl, isProg_z⟩), hB8⟩
    | none =>
      have hr : Hid (progG s = .ok (p.args, p.closed)) := by
        show _ = _
        unfold progG
        rw [hg]
        simp [hcr]
      rw [hcr] at HCR
      go_enter Tryz.func29, Tryz.ntmps29
      go_wp2_with (first
        | (go_at_call 42; rw [← HW.out]; refine (HKR.out _ (Below.refl _ _)).mono ?_; rintro e w1 ⟨⟨h1, -, -⟩, hB1⟩; obtain ⟨av, bv, B, rfl, hP, hBg, x2, y2, a2, b2, c2, d2, hab⟩ := h1 _ _ rfl; obtain ⟨rfl, rfl⟩ := prog_inj hab; have HP1 : Hid (ProgIn w1 _ _ p.args B) := hP; have HBG : Hid (B.map BV.g = p.closed) := hBg; have HB1 : Hid (Below W.heap.size W w1) := hB1; clear h1 hB1 hP hBg hab)
        | (go_at_call 43; refine (HCR.out _ _ (.slice x2 a2 b2) (.slice y2 c2 d2) B ?_ ?_ (held_new HP1.out) HBG.out).mono ?_; (repeat (first | exact HB1.out | exact Below.refl _ _ | exact HB1.out.size | exact Nat.le_refl _ | apply Below.drew | apply Below.setCell | apply Below.alloc)); rintro e w3 ⟨⟨j0, rfl, -⟩, hB3, hP3, hX3⟩; have HB3 : Hid (Below W.heap.size W w3) := hB3; have HP3 : Hid (ProgIn w3 _ _ p.args B) := hP3; have HX3 : Hid (BoxIn w3 _ 52 _) := hX3; clear hB3 hP3 hX3)
        | (refine wpList_load_box aggProg rfl _ rfl _ rfl _ rfl HX3.out ?_)
        | (refine wpList_store_rs HRS.out HB3.out rfl _ _ rfl rfl [.slice x2 a2 b2, .slice y2 c2 d2] rfl rfl one_prog ?_; intro w8 hb8 hB8 hg8))
      refine bodyPost_ret (results_box3 aggProg Tryz.results29 rfl rfl rfl rfl hb8) rfl ?_
      exact ⟨fun a bs h => (by rw [hr.out] at h; injection h with h; injection h with h1 h2; subst h1 h2; exact ⟨_, _, B, rfl, HP3.out.grew (HRS.out.below HB3.out).rb hg8, HBG.out, _, _, _, _, _, _, rfl⟩), fun c j h => (by rw [hr.out] at h; cases h), hB8⟩

/-- The error and the line. -/
def codeOf (s : BA) : Nat × Nat := match progG s with | .ok _ => (0, 0) | .error e => e

set_option maxRecDepth 100000 in
set_option maxHeartbeats 8000000 in
theorem check_any (w : World) (base0 : Nat) (s : BA) (hs : s.size ≤ 4294967280) (hE : Env base0 w) :
    Calls Tryz.prog 19 #[.string s] w fun e w' => e = .returned (.tuple #[.int .i64 ((codeOf s).1 : Int), .int .i64 ((codeOf s).2 : Int)]) ∧ Below w.heap.size w w' := by
  have HR : Hid (Calls Tryz.prog 29 #[.string s] w fun e w' => (∃ v, e = .returned (.tuple #[v, .int .i64 ((codeOf s).1 : Int), .int .i64 ((codeOf s).2 : Int)]) ∧ IsProg v) ∧ Below w.heap.size w w') := by
    refine (pread_any w base0 s hs hE).mono ?_
    rintro e w' ⟨h1, h2, h3⟩
    refine ⟨?_, h3⟩
    unfold codeOf
    cases hp : progG s with
    | ok r =>
      obtain ⟨av, bv, B, h, -, -, hi⟩ := h1 r.1 r.2 hp
      exact ⟨_, h, hi⟩
    | error ci =>
      obtain ⟨v, h, hi⟩ := h2 ci.1 ci.2 hp
      exact ⟨v, h, hi⟩
  clear hE
  generalize codeOf s = q at *
  obtain ⟨q1, q2⟩ := q
  go_enter Tryz.func19, Tryz.ntmps19
  go_wp2_with (first | (go_at_call 29; refine HR.out.mono ?_; rintro e w1 ⟨⟨v, rfl, x2, y2, a2, b2, c2, d2, rfl⟩, hb1⟩))
  go_ret2
  exact ⟨rfl, hb1.alloc hb1.size _⟩

end Go.Proofs.YtbddcodljmglfaaGreatDoor
