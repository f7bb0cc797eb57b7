/- slices.Clone of versions. And what follows on it. -/
import Derived.Test.YtbddcodljmglfaaGreatDoorReadC
import Derived.Lib.SliceRun
import Derived.Test.YtbddcodljmglfaaGreatDoorReadAll2
import Derived.Test.YtbddcodljmglfaaGreatDoorLostFn
set_option linter.unusedSimpArgs false
set_option linter.unusedVariables false
namespace Go.Proofs.YtbddcodljmglfaaGreatDoor
open Go.RowKit

theorem OwnS.made (w : World) (t : TypeId) (size : Nat) : OwnS (w.alloc (.cells #[] t)) w.heap.size t size (.slice (some ⟨w.heap.size, 0, none⟩) 0 0) 0 [] := ⟨by simp, .inr ⟨_, _, _, _, rfl, Nat.le_refl _, heap_alloc_new w _, Nat.le_refl _, Nat.zero_le _, by simp, by simp⟩⟩

end Go.Proofs.YtbddcodljmglfaaGreatDoor

namespace Go.Proofs.YtbddcodljmglfaaGreatDoor
open Go.RowKit

/-- How far a text that is being read can have come. -/
structure Far (i : Nat) (p : PG) : Prop where
  args : p.args.length ≤ 4
  closed : ∀ b ∈ p.closed, b.first + b.phis.length + b.lines.length ≤ i
  cur : ∀ b, p.cur = some b → b.first + b.phis.length + b.lines.length ≤ i
  count : p.closed.length + 1 ≤ i ∨ (p.closed = [] ∧ p.cur = none)

theorem argsGo_len {tg : Nat} : ∀ (l : List BA) (acc A : List Ver), argsGo tg acc l = some A → A.length = acc.length + l.length
  | [], acc, A, h => by simp [argsGo] at h; subst h; simp
  | b :: r, acc, A, h => by
    unfold argsGo at h
    split at h
    · split at h
      · have := argsGo_len r _ A h
        simp at this ⊢
        omega
      · cases h
    · cases h
theorem argsOf_len {tg : Nat} {l : List BA} {A : List Ver} (h : argsOf tg l = some A) : A.length ≤ 4 := by
  cases l with
  | nil => cases h
  | cons w bs =>
    simp only [argsOf] at h
    split at h
    · rename_i hc
      have := argsGo_len bs [] A h
      simp at this
      omega
    · cases h
theorem inB_far {tg : Nat} {b b1 : BlockG} {s : BA} {e : Bool} (h : inB tg b s = some (b1, e)) : b1.first + b1.phis.length + b1.lines.length = b.first + b.phis.length + b.lines.length + 1 := by
  unfold inB at h
  split at h
  · injection h with h; injection h with h h'; subst h; simp; omega
  · split at h
    · injection h with h; injection h with h h'; subst h; simp; omega
    · cases h
theorem Far.step {tg mb i : Nat} {s : BA} {p p' : PG} (hp : Far i p) (h : stepL tg mb i s p = some p') : Far (i + 1) p' := by
  unfold stepL at h
  split at h
  · rename_i hi
    split at h
    · rename_i a ha
      injection h with h
      subst h
      exact ⟨argsOf_len ha, fun b hb => Nat.le_succ_of_le (hp.closed b hb), fun b hb => Nat.le_succ_of_le (hp.cur b hb), hp.count.elim (fun h => .inl (by omega)) .inr⟩
    · cases h
  · rename_i hi
    split at h
    · rename_i b hb
      have hb0 := hp.cur b hb
      have hct : p.closed.length + 1 ≤ i := by
        rcases hp.count with h | ⟨-, h⟩
        · exact h
        · rw [hb] at h; cases h
      split at h
      · rename_i b' hin
        have := inB_far hin
        injection h with h
        subst h
        refine ⟨hp.args, fun c hc => ?_, fun c hc => (by cases hc), .inl (by simp; omega)⟩
        rcases List.mem_append.1 hc with hc | hc
        · exact Nat.le_succ_of_le (hp.closed c hc)
        · simp at hc; subst hc; omega
      · rename_i b' hin
        have := inB_far hin
        injection h with h
        subst h
        exact ⟨hp.args, fun c hc => Nat.le_succ_of_le (hp.closed c hc), fun c hc => (by injection hc with hc; subst hc; omega), .inl (by simp; omega)⟩
      · cases h
    · split at h
      · injection h with h
        subst h
        refine ⟨hp.args, fun c hc => Nat.le_succ_of_le (hp.closed c hc), fun c hc => (by injection hc with hc; subst hc; simp), .inl ?_⟩
        rcases hp.count with h | ⟨h, -⟩
        · exact Nat.le_succ_of_le h
        · rw [h]; show 0 + 1 ≤ i + 1; omega
      · cases h
theorem Far.run {tg mb : Nat} : ∀ (l : List BA) (i : Nat) (p q : PG), Far i p → runL tg mb i l p = .ok q → Far (i + l.length) q
  | [], i, p, q, hp, h => by
    unfold runL at h
    split at h
    · injection h with h; subst h; exact hp
    · cases h
  | s :: r, i, p, q, hp, h => by
    unfold runL at h
    split at h
    · rename_i p' hs
      have := Far.run r (i + 1) p' q (hp.step hs) h
      rw [show i + (s :: r).length = i + 1 + r.length by simp; omega]
      exact this
    · cases h
theorem far_all {tg mb : Nat} {l : List BA} {q : PG} (h : runL tg mb 0 l ⟨[], [], none⟩ = .ok q) : Far l.length q := by
  have := Far.run l 0 ⟨[], [], none⟩ q ⟨by simp, by simp, by simp, .inr ⟨rfl, rfl⟩⟩ h
  simpa using this
theorem Far.blocks {N : Nat} {q : PG} (h : Far N q) (hN : N ≤ 1000000) {B : List BV} (hB : B.map BV.g = q.closed) : B.length ≤ 1000000 ∧ ∀ b ∈ B, b.first ≤ 1000000 ∧ b.phis.length ≤ 1000000 ∧ b.lines.length ≤ 1000000 := by
  have hl : B.length = q.closed.length := by rw [← hB]; simp
  refine ⟨?_, fun b hb => ?_⟩
  · rcases h.count with h | ⟨h, -⟩
    · omega
    · rw [hl, h]; simp
  · have := h.closed b.g (by rw [← hB]; exact List.mem_map_of_mem hb)
    simp [BV.g] at this
    omega

/-- What Read and ReadForm hand back. -/
def ReadOut (w w' : World) (r : Except (Nat × Nat) (List Ver × List BlockG)) (e : Ending) : Prop :=
  (∀ a bs, r = .ok (a, bs) → ∃ av bv B, e = .returned (.tuple #[.agg #[av, bv], .int .i64 0, .int .i64 0]) ∧ ProgIn w' av bv a B ∧ B.map BV.g = bs ∧ IsProg (.agg #[av, bv])) ∧
  (∀ c i, r = .error (c, i) → ∃ v, e = .returned (.tuple #[v, .int .i64 (c : Int), .int .i64 (i : Int)]) ∧ IsProg v) ∧ Below w.heap.size w w'

theorem rdT_new (w : World) (c : UInt8) (s : BA) : RdT (w.alloc (.cells ((cuts c s).map Value.string).toArray 9)) 9 1 (.slice (some ⟨w.heap.size, 0, none⟩) (cuts c s).length (cuts c s).length) (cuts c s).length (strs (cuts c s)) := by
  refine ⟨by simp [strs], _, _, rfl, Nat.le_refl _, .inr ⟨w.heap.size, 0, _, _, rfl, heap_alloc_new w _, ?_⟩⟩
  intro j u hu
  simpa [strs] using hu

theorem newbox {Wa Wc w1 : World} {k : Nat} (h1 : Below (Wa.heap.size + 1) (Wa.alloc (.cells #[.slice none 0 0, .slice none 0 0] 52)) Wc) (h2 : Below Wc.heap.size Wc w1) (hk : k = Wa.heap.size) : BoxIn w1 k 52 zProg := by
  subst hk
  have := BoxIn.new Wa 52 zProg
  exact (this.of_block (h1.block _ (Nat.lt_succ_self _))).below h2

theorem ProgIn.keeps {w w' : World} {av bv : Value} {A : List Ver} {B : List BV} (h : ProgIn w av bv A B) (hs : w.heap.size ≤ w'.heap.size) (hk : ∀ t, 52 ≠ t → Keeps t w w') : ProgIn w' av bv A B := by
  refine ⟨h.args.keep (hk _ (by decide)), h.anil, h.rows.keep (hk _ (by decide)), fun b hb => ?_⟩
  have h1 := h.blocks b hb
  exact ⟨⟨h1.phis.1.keep (hk _ (by decide)), fun g hg => Nat.lt_of_lt_of_le (h1.phis.2 g hg) hs⟩, ⟨h1.lines.1.keep (hk _ (by decide)), fun g hg => Nat.lt_of_lt_of_le (h1.lines.2 g hg) hs⟩, fun y hy => (h1.phi y hy).keep (hk _ (by decide)), fun y hy => (h1.line y hy).keep (hk _ (by decide)) (hk _ (by decide))⟩
theorem ProgIn.grew {w w' : World} {r : Nat} {cs : List Value} {av bv : Value} {A : List Ver} {B : List BV} (h : ProgIn w av bv A B) (hr : BoxIn w r 52 cs) (hg : Grew w w' (fun k => k = r)) : ProgIn w' av bv A B :=
  h.keeps hg.size fun t ht g cr fr hgg => by
    rw [hg.block g (fun e => by subst e; rw [show w.heap[g]? = _ from hr] at hgg; injection hgg with hgg; injection hgg with _ hgg _; exact ht hgg) (blk_lt hgg)]
    exact hgg
/-- The program's own variable, set behind the call. -/
theorem held_new {w : World} {a b : Value} {A : List Ver} {B : List BV} (h : ProgIn w a b A B) : ProgIn (w.alloc (.cells #[a, b] 52)) a b A B ∧ BoxIn (w.alloc (.cells #[a, b] 52)) w.heap.size 52 [a, b] :=
  ⟨h.below ((Below.refl _ _).alloc (Nat.le_refl _) _), BoxIn.new w 52 [a, b]⟩
theorem held_set {w : World} {k : Nat} {a b x y : Value} {A : List Ver} {B : List BV} (h : ProgIn w a b A B) (hq : BoxIn w k 52 [x, y]) : ProgIn ((w.setCell ⟨k, 0, none⟩ a).setCell ⟨k, 1, none⟩ b) a b A B ∧ BoxIn ((w.setCell ⟨k, 0, none⟩ a).setCell ⟨k, 1, none⟩ b) k 52 [a, b] := by
  have h1 : (w.setCell ⟨k, 0, none⟩ a).heap[k]? = some (.cells #[a, y] 52 (0, 0)) := by
    simp [World.setCell, Array.getElem?_modify, show w.heap[k]? = _ from hq]
  have h2 : ((w.setCell ⟨k, 0, none⟩ a).setCell ⟨k, 1, none⟩ b).heap[k]? = some (.cells #[a, b] 52 (0, 0)) := by
    generalize w.setCell ⟨k, 0, none⟩ a = w1 at h1
    simp [World.setCell, Array.getElem?_modify, h1]
  refine ⟨h.keeps (by simp [World.setCell]) fun t ht => ((Keeps.refl t w).setCell hq (fun e => ht e.symm) _).setCell h1 (fun e => ht e.symm) _, h2⟩

theorem prog_inj {a b c d : Value} (h : Value.agg #[a, b] = .agg #[c, d]) : a = c ∧ b = d := by
  injection h with h
  injection h with h
  injection h with h1 h
  injection h with h2 h
  exact ⟨h1, h2⟩

/-- Within read: its parameter and its result in boxes. -/
structure KS (w W : World) (ln bl tg : Nat) : Prop where
  kb : BoxIn W w.heap.size 73 [.int .i64 (ln : Int), .int .i64 (bl : Int), .int .i64 (tg : Int)]
  rb : BoxIn W (w.heap.size + 1) 52 zProg
  bel : Below w.heap.size w W
  sz : w.heap.size + 2 ≤ W.heap.size
theorem KS.below {w W W' : World} {ln bl tg : Nat} (h : KS w W ln bl tg) (hb : Below W.heap.size W W') : KS w W' ln bl tg :=
  ⟨h.kb.below hb, h.rb.below hb, h.bel.trans (hb.mono (by have := h.sz; omega)), Nat.le_trans h.sz hb.size⟩
theorem KS.start (w : World) (ln bl tg : Nat) : KS w ((w.alloc (.cells #[.int .i64 (ln : Int), .int .i64 (bl : Int), .int .i64 (tg : Int)] 73)).alloc (.cells #[.slice none 0 0, .slice none 0 0] 52)) ln bl tg := by
  refine ⟨?_, ?_, ((Below.refl _ _).alloc (Nat.le_refl _) _).alloc (by simp) _, by simp⟩
  · exact (BoxIn.new w _ [.int .i64 (ln : Int), .int .i64 (bl : Int), .int .i64 (tg : Int)]).below ((Below.refl _ _).alloc (Nat.le_refl _) _)
  · have := BoxIn.new (w.alloc (.cells #[.int .i64 (ln : Int), .int .i64 (bl : Int), .int .i64 (tg : Int)] 73)) 52 [.slice none 0 0, .slice none 0 0]
    rw [World.size_alloc] at this
    exact this

theorem wpList_store_res {ops : Array Oper} {rest : List Oper} {op : Oper} {a : Act} {w W X : World} {ln bl tg : Nat} {Q : Exit → Act → World → Prop} (hS : KS w W ln bl tg) (hX : Below W.heap.size W X) (hgd : op.guard = none) (x y : Operand) (ho : op.op = .store 52 x y)
    (hx : a.eval x = .pointer (some ⟨w.heap.size + 1, 0, none⟩)) (cs : List Value) (hy : a.eval y = .agg cs.toArray) (hl : cs.length = 2) (h1 : cs.toArray.all (·.oneCell') = true)
    (h : ∀ w', BoxIn w' (w.heap.size + 1) 52 cs → Below w.heap.size w w' → Grew X w' (fun k => k = w.heap.size + 1) → wpList Tryz.prog ops Q rest (a.put op.dst undef) w') : wpList Tryz.prog ops Q (op :: rest) a X := by
  refine wpList_store_box aggProg hgd x y ho _ hx _ cs hy (hS.below hX).rb rfl hl h1 fun w8 hb8 hg8 hs8 => ?_
  refine h w8 hb8 ((hS.below hX).bel.trans (hg8.below ?_ fun k hk => by omega)) hg8
  have := hS.sz
  have := hX.size
  omega

set_option maxRecDepth 100000 in
set_option maxHeartbeats 8000000 in
theorem kread_any (w : World) (base0 ln bl tg : Nat) (hgo : GoesOn tg) (htg : tg = 0 ∨ tg = 1) (s : BA) (hs : s.size ≤ 4294967280) (hln : ln ≤ 1000000) (hbl : bl ≤ 100) (hE : Env base0 w) :
    Calls Tryz.prog 42 #[.agg #[.int .i64 (ln : Int), .int .i64 (bl : Int), .int .i64 (tg : Int)], .string s] w fun e w' => ReadOut w w' (readG tg bl ln s) e := by
  have HE : Hid (Env base0 w) := hE
  have HGO : Hid (GoesOn tg) := hgo
  obtain ⟨N, hN⟩ : ∃ N, N = (cuts 10 s).length := ⟨_, rfl⟩
  have hN1 : 1 ≤ N := by
    have := cuts_ne 10 s
    cases hq : cuts 10 s with
    | nil => exact absurd hq this
    | cons a b => rw [hN, hq]; simp
  have HN : Hid (N = (cuts 10 s).length) := hN
  have HKS : Hid (KS w ((w.alloc (.cells #[.int .i64 (ln : Int), .int .i64 (bl : Int), .int .i64 (tg : Int)] 73)).alloc (.cells #[.slice none 0 0, .slice none 0 0] 52)) ln bl tg) := KS.start w ln bl tg
  by_cases hlong : ln < N
  · have hr : Hid (readG tg bl ln s = .error (6, 0)) := by
      show _ = _
      unfold readG
      rw [← hN, if_pos hlong]
    have hge : (ln : Int) ≤ ((N - 1 : Nat) : Int) := by omega
    clear hN hE hgo
    go_enter Tryz.func42, Tryz.ntmps42
    go_wp2_with fail
    obtain ⟨W, hW⟩ : ∃ W, W = (w.alloc (.cells #[.int .i64 (ln : Int), .int .i64 (bl : Int), .int .i64 (tg : Int)] 73)).alloc (.cells #[.slice none 0 0, .slice none 0 0] 52) := ⟨_, rfl⟩
    rw [← hW] at HKS ⊢
    clear hW
    go_region_held3 (fun w' => w'.cell? ⟨w.heap.size, 0, none⟩ = some (.int .i64 (ln : Int))) (exact HKS.out.kb.cell rfl)
      (first | (go_at_call 79; refine (count_any _ _ _).mono ?_; rintro e w1 ⟨rfl, rfl⟩; rw [← HN.out]))
    go_wp2_with (first | (refine wpList_store_box aggProg rfl _ _ rfl _ rfl _ zProg rfl HKS.out.rb rfl rfl one_zProg ?_; intro w8 hb8 hg8 hs8))
    refine bodyPost_ret (results_box3 aggProg Tryz.results42 rfl rfl rfl rfl hb8) rfl ?_
    exact ⟨fun a bs h => (by rw [hr.out] at h; cases h), fun c i h => (by rw [hr.out] at h; injection h with h; injection h with h1 h2; subst h1 h2; exact ⟨_, rfl, isProg_z⟩), HKS.out.bel.trans ((Below.refl _ _).drew.trans (hg8.below (B := w.heap.size) (by have := HKS.out.sz; show _ ≤ W.heap.size; omega) (fun k hk => by omega)))⟩
  · have hge : ¬ (ln : Int) ≤ ((N - 1 : Nat) : Int) := by omega
    have HSP : Hid (∀ W, Env base0 W → Calls Tryz.prog 81 #[.string s, .string ⟨#[10]⟩] W fun e w' => ∃ v, e = .returned v ∧ RdT w' 9 1 v N (strs (cuts 10 s)) ∧ Below W.heap.size W w') := by
      intro W hW
      refine (split_any W base0 s 10 hs hW).mono ?_
      rintro e w' ⟨rfl, rfl⟩
      exact ⟨_, rfl, (by rw [hN]; exact rdT_new W 10 s), (Below.refl _ _).alloc (Nat.le_refl _) _⟩
    have HRA : Hid (∀ W v, Env base0 W → RdT W 9 1 v N (strs (cuts 10 s)) → Calls Tryz.prog 80 #[.agg #[.int .i64 (ln : Int), .int .i64 (bl : Int), .int .i64 (tg : Int)], v] W fun e w' => AllOut W w' (runL tg bl 0 (cuts 10 s) ⟨[], [], none⟩) e N) := by
      intro W v hW hv
      rw [hN] at hv ⊢
      exact readAll_any W base0 ln bl tg hgo htg v (cuts 10 s) hv (fun x hx => Nat.le_trans (cuts_size 10 s x hx) hs) (by omega) hbl hW
    have hrg : Hid (readG tg bl ln s = match runL tg bl 0 (cuts 10 s) ⟨[], [], none⟩ with
        | .error i => .error (7, i)
        | .ok p => match lostG p.closed.length p.closed with
          | some i => .error (8, i)
          | none => .ok (p.args, p.closed)) := by
      show _ = _
      unfold readG
      rw [← hN, if_neg hlong]
      rfl
    clear hN hE hgo
    cases hrun : runL tg bl 0 (cuts 10 s) ⟨[], [], none⟩ with
    | error i =>
      rw [hrun] at HRA
      have hr : Hid (readG tg bl ln s = .error (7, i)) := by
        show _ = _
        rw [hrg.out, hrun]
      go_enter Tryz.func42, Tryz.ntmps42
      go_wp2_with fail
      obtain ⟨W, hW⟩ : ∃ W, W = (w.alloc (.cells #[.int .i64 (ln : Int), .int .i64 (bl : Int), .int .i64 (tg : Int)] 73)).alloc (.cells #[.slice none 0 0, .slice none 0 0] 52) := ⟨_, rfl⟩
      rw [← hW] at HKS ⊢
      clear hW
      go_region_held3 (fun w' => w'.cell? ⟨w.heap.size, 0, none⟩ = some (.int .i64 (ln : Int))) (exact HKS.out.kb.cell rfl)
        (first | (go_at_call 79; refine (count_any _ _ _).mono ?_; rintro e w1 ⟨rfl, rfl⟩; rw [← HN.out]))
      go_wp2_with fail
      have HK : Hid (∀ W', Below W.heap.size W W' → W'.cell? ⟨w.heap.size, 0, none⟩ = some (.int .i64 (ln : Int)) ∧ W'.cell? ⟨w.heap.size, 1, none⟩ = some (.int .i64 (bl : Int)) ∧ W'.cell? ⟨w.heap.size, 2, none⟩ = some (.int .i64 (tg : Int))) := fun W' hW => ⟨(HKS.out.kb.below hW).cell rfl, (HKS.out.kb.below hW).cell rfl, (HKS.out.kb.below hW).cell rfl⟩
      have HSW : Hid (∀ W', Below W.heap.size W W' → Calls Tryz.prog 81 #[.string s, .string ⟨#[10]⟩] W' fun e w' => ∃ v, e = .returned v ∧ RdT w' 9 1 v N (strs (cuts 10 s)) ∧ Below W'.heap.size W' w' ∧ Below W.heap.size W w') := fun W' hW => (HSP.out W' (HE.out.below (HKS.out.below hW).bel)).mono (by rintro e w' ⟨v, h1, h2, h3⟩; exact ⟨v, h1, h2, h3, hW.trans (h3.mono hW.size)⟩)
      have HRW : Hid (∀ W' v, Below W.heap.size W W' → RdT W' 9 1 v N (strs (cuts 10 s)) → Calls Tryz.prog 80 #[.agg #[.int .i64 (ln : Int), .int .i64 (bl : Int), .int .i64 (tg : Int)], v] W' fun e w' => AllOut W' w' (.error i) e N ∧ Below W.heap.size W w') := fun W' v hW hv => (HRA.out W' v (HE.out.below (HKS.out.below hW).bel) hv).mono (by rintro e w' h; exact ⟨h, hW.trans (h.2.2.mono hW.size)⟩)
      go_region_held3 (fun w' => w'.cell? ⟨w.heap.size, 0, none⟩ = some (.int .i64 (ln : Int)) ∧ w'.cell? ⟨w.heap.size, 1, none⟩ = some (.int .i64 (bl : Int)) ∧ w'.cell? ⟨w.heap.size, 2, none⟩ = some (.int .i64 (tg : Int)))
        ((refine HK.out _ ?_; (repeat (first | exact HB2.out | exact HB1.out | exact Below.refl _ _ | exact HB2.out.size | exact HB1.out.size | exact Nat.le_refl _ | apply Below.drew | apply Below.setCell | apply Below.alloc))))
        (first
          | (go_at_call 81; refine (HSW.out _ ?_).mono ?_; (repeat (first | exact HB2.out | exact HB1.out | exact Below.refl _ _ | exact HB2.out.size | exact HB1.out.size | exact Nat.le_refl _ | apply Below.drew | apply Below.setCell | apply Below.alloc)); rintro e w1 ⟨v1, rfl, hv1, hb1, hB1⟩; have HB1 : Hid (Below W.heap.size W w1) := hB1; have HV1 : Hid (RdT w1 _ _ v1 _ _) := hv1; (first | (have HQ1 : Hid (BoxIn w1 W.heap.size 52 zProg) := newbox (Below.refl _ _) hb1 rfl) | (have HQ1 : Hid (BoxIn w1 W.heap.size 52 zProg) := newbox (Below.refl _ _).drew hb1 rfl) | (have HQ1 : Hid (BoxIn w1 W.heap.size 52 zProg) := newbox (Below.refl _ _).drew.drew hb1 rfl) | (have HQ1 : Hid (BoxIn w1 W.heap.size 52 zProg) := newbox (Below.refl _ _).drew.drew.drew hb1 rfl) | skip); clear hb1 hv1 hB1)
          | (go_at_call 80; refine (HRW.out _ _ ?_ (HV1.out.below ?_)).mono ?_; (repeat (first | exact HB2.out | exact HB1.out | exact Below.refl _ _ | exact HB2.out.size | exact HB1.out.size | exact Nat.le_refl _ | apply Below.drew | apply Below.setCell | apply Below.alloc)); rintro e w2 ⟨⟨-, h2, hb2⟩, hB2⟩; obtain ⟨v2, rfl, x2, y2, a2, b2, c2, d2, rfl⟩ := h2 _ rfl; have HB2 : Hid (Below W.heap.size W w2) := hB2; (first | (have HQ2 : Hid (BoxIn w2 W.heap.size 52 zProg) := HQ1.out.below hb2; have q0 := HQ2.out.cell (k := 0) rfl; have q1 := HQ2.out.cell (k := 1) rfl; have f0 := HQ2.out.frozen 0; have f1 := HQ2.out.frozen 1) | (have HQ2 : Hid (BoxIn w2 w1.heap.size 52 zProg) := newbox (Below.refl _ _) hb2 rfl; have q0 := HQ2.out.cell (k := 0) rfl; have q1 := HQ2.out.cell (k := 1) rfl; have f0 := HQ2.out.frozen 0; have f1 := HQ2.out.frozen 1) | (have HQ2 : Hid (BoxIn w2 w1.heap.size 52 zProg) := newbox (Below.refl _ _).drew hb2 rfl; have q0 := HQ2.out.cell (k := 0) rfl; have q1 := HQ2.out.cell (k := 1) rfl; have f0 := HQ2.out.frozen 0; have f1 := HQ2.out.frozen 1) | (have HQ2 : Hid (BoxIn w2 w1.heap.size 52 zProg) := newbox (Below.refl _ _).drew.drew hb2 rfl; have q0 := HQ2.out.cell (k := 0) rfl; have q1 := HQ2.out.cell (k := 1) rfl; have f0 := HQ2.out.frozen 0; have f1 := HQ2.out.frozen 1) | (have HQ2 : Hid (BoxIn w2 w1.heap.size 52 zProg) := newbox (Below.refl _ _).drew.drew.drew hb2 rfl; have q0 := HQ2.out.cell (k := 0) rfl; have q1 := HQ2.out.cell (k := 1) rfl; have f0 := HQ2.out.frozen 0; have f1 := HQ2.out.frozen 1) | skip); clear hb2 h2 hB2))
      all_goals (go_wp2_with (first | (refine wpList_store_res HKS.out ?_ rfl _ _ rfl rfl zProg rfl rfl one_zProg ?_; (repeat (first | exact HB2.out | exact HB1.out | exact Below.refl _ _ | exact HB2.out.size | exact HB1.out.size | exact Nat.le_refl _ | apply Below.drew | apply Below.setCell | apply Below.alloc)); intro w8 hb8 hB8 hg8)))
      all_goals (refine bodyPost_ret (results_box3 aggProg Tryz.results42 rfl rfl rfl rfl hb8) rfl ?_)
      all_goals (exact ⟨fun a bs h => (by rw [hr.out] at h; cases h), fun c j h => (by rw [hr.out] at h; injection h with h; injection h with h1 h2; subst h1 h2; exact ⟨_, rfl, isProg_z⟩), hB8⟩)
    | ok p =>
      rw [hrun] at HRA
      have hfar : Hid (Far (cuts 10 s).length p) := far_all hrun
      cases hlost : lostG p.closed.length p.closed with
      | some j =>
        have hr : Hid (readG tg bl ln s = .error (8, j)) := by
          show _ = _
          rw [hrg.out, hrun]
          simp [hlost]
        go_enter Tryz.func42, Tryz.ntmps42
        go_wp2_with fail
        obtain ⟨W, hW⟩ : ∃ W, W = (w.alloc (.cells #[.int .i64 (ln : Int), .int .i64 (bl : Int), .int .i64 (tg : Int)] 73)).alloc (.cells #[.slice none 0 0, .slice none 0 0] 52) := ⟨_, rfl⟩
        rw [← hW] at HKS ⊢
        clear hW
        go_region_held3 (fun w' => w'.cell? ⟨w.heap.size, 0, none⟩ = some (.int .i64 (ln : Int))) (exact HKS.out.kb.cell rfl)
          (first | (go_at_call 79; refine (count_any _ _ _).mono ?_; rintro e w1 ⟨rfl, rfl⟩; rw [← HN.out]))
        go_wp2_with fail
        have HK : Hid (∀ W', Below W.heap.size W W' → W'.cell? ⟨w.heap.size, 0, none⟩ = some (.int .i64 (ln : Int)) ∧ W'.cell? ⟨w.heap.size, 1, none⟩ = some (.int .i64 (bl : Int)) ∧ W'.cell? ⟨w.heap.size, 2, none⟩ = some (.int .i64 (tg : Int))) := fun W' hW => ⟨(HKS.out.kb.below hW).cell rfl, (HKS.out.kb.below hW).cell rfl, (HKS.out.kb.below hW).cell rfl⟩
        have HSW : Hid (∀ W', Below W.heap.size W W' → Calls Tryz.prog 81 #[.string s, .string ⟨#[10]⟩] W' fun e w' => ∃ v, e = .returned v ∧ RdT w' 9 1 v N (strs (cuts 10 s)) ∧ Below W'.heap.size W' w' ∧ Below W.heap.size W w') := fun W' hW => (HSP.out W' (HE.out.below (HKS.out.below hW).bel)).mono (by rintro e w' ⟨v, h1, h2, h3⟩; exact ⟨v, h1, h2, h3, hW.trans (h3.mono hW.size)⟩)
        have HRW : Hid (∀ W' v, Below W.heap.size W W' → RdT W' 9 1 v N (strs (cuts 10 s)) → Calls Tryz.prog 80 #[.agg #[.int .i64 (ln : Int), .int .i64 (bl : Int), .int .i64 (tg : Int)], v] W' fun e w' => AllOut W' w' (.ok p) e N ∧ Below W.heap.size W w') := fun W' v hW hv => (HRA.out W' v (HE.out.below (HKS.out.below hW).bel) hv).mono (by rintro e w' h; exact ⟨h, hW.trans (h.2.2.mono hW.size)⟩)
        have HLO : Hid (∀ W' k av bv B, Below W.heap.size W W' → W.heap.size ≤ k → ProgIn W' av bv p.args B ∧ BoxIn W' k 52 [av, bv] → B.map BV.g = p.closed → Calls Tryz.prog 82 #[.pointer (some ⟨k, 0, none⟩)] W' fun e w' => (∃ i : Nat, e = .returned (.tuple #[.int .i64 (i : Int), .bool (lostG p.closed.length p.closed).isSome]) ∧ ∀ k, lostG p.closed.length p.closed = some k → i = k) ∧ Below W.heap.size W w' ∧ ProgIn w' av bv p.args B ∧ BoxIn w' k 52 [av, bv]) := by
          intro W' k av bv B hW hk hP hB
          have hf := hfar.out.blocks (by have := HN.out; omega) hB
          refine (lost_any W' k av bv p.args B hP.1 hP.2 hf.1 hf.2).mono ?_
          have hl : B.length = p.closed.length := by rw [← hB]; simp
          rw [hB, hl]
          rintro e w' ⟨h1, h2⟩
          exact ⟨h1, hW.trans (h2.mono hW.size), hP.1.below h2, hP.2.below h2⟩
        rw [hlost] at HLO
        go_region_held3 (fun w' => w'.cell? ⟨w.heap.size, 0, none⟩ = some (.int .i64 (ln : Int)) ∧ w'.cell? ⟨w.heap.size, 1, none⟩ = some (.int .i64 (bl : Int)) ∧ w'.cell? ⟨w.heap.size, 2, none⟩ = some (.int .i64 (tg : Int)))
          ((refine HK.out _ ?_; (repeat (first | exact HB2.out | exact HB1.out | exact Below.refl _ _ | exact HB2.out.size | exact HB1.out.size | exact Nat.le_refl _ | apply Below.drew | apply Below.setCell | apply Below.alloc))))
          (first
            | (go_at_call 81; refine (HSW.out _ ?_).mono ?_; (repeat (first | exact HB2.out | exact HB1.out | exact Below.refl _ _ | exact HB2.out.size | exact HB1.out.size | exact Nat.le_refl _ | apply Below.drew | apply Below.setCell | apply Below.alloc)); rintro e w1 ⟨v1, rfl, hv1, hb1, hB1⟩; have HB1 : Hid (Below W.heap.size W w1) := hB1; have HV1 : Hid (RdT w1 _ _ v1 _ _) := hv1; (first | (have HQ1 : Hid (BoxIn w1 W.heap.size 52 zProg) := newbox (Below.refl _ _) hb1 rfl) | (have HQ1 : Hid (BoxIn w1 W.heap.size 52 zProg) := newbox (Below.refl _ _).drew hb1 rfl) | (have HQ1 : Hid (BoxIn w1 W.heap.size 52 zProg) := newbox (Below.refl _ _).drew.drew hb1 rfl) | (have HQ1 : Hid (BoxIn w1 W.heap.size 52 zProg) := newbox (Below.refl _ _).drew.drew.drew hb1 rfl) | skip); clear hb1 hv1 hB1)
            | (go_at_call 80; refine (HRW.out _ _ ?_ (HV1.out.below ?_)).mono ?_; (repeat (first | exact HB2.out | exact HB1.out | exact Below.refl _ _ | exact HB2.out.size | exact HB1.out.size | exact Nat.le_refl _ | apply Below.drew | apply Below.setCell | apply Below.alloc)); rintro e w2 ⟨⟨h2, -, hb2⟩, hB2⟩; obtain ⟨av, bv, B, rfl, hP, hBg, x2, y2, a2, b2, c2, d2, hab⟩ := h2 _ rfl; obtain ⟨rfl, rfl⟩ := prog_inj hab; have HP2 : Hid (ProgIn w2 _ _ p.args B) := hP; have HBG : Hid (B.map BV.g = p.closed) := hBg; have HB2 : Hid (Below W.heap.size W w2) := hB2; (first | (have HQ2 : Hid (BoxIn w2 W.heap.size 52 zProg) := HQ1.out.below hb2; have q0 := HQ2.out.cell (k := 0) rfl; have q1 := HQ2.out.cell (k := 1) rfl; have f0 := HQ2.out.frozen 0; have f1 := HQ2.out.frozen 1) | (have HQ2 : Hid (BoxIn w2 w1.heap.size 52 zProg) := newbox (Below.refl _ _) hb2 rfl; have q0 := HQ2.out.cell (k := 0) rfl; have q1 := HQ2.out.cell (k := 1) rfl; have f0 := HQ2.out.frozen 0; have f1 := HQ2.out.frozen 1) | (have HQ2 : Hid (BoxIn w2 w1.heap.size 52 zProg) := newbox (Below.refl _ _).drew hb2 rfl; have q0 := HQ2.out.cell (k := 0) rfl; have q1 := HQ2.out.cell (k := 1) rfl; have f0 := HQ2.out.frozen 0; have f1 := HQ2.out.frozen 1) | (have HQ2 : Hid (BoxIn w2 w1.heap.size 52 zProg) := newbox (Below.refl _ _).drew.drew hb2 rfl; have q0 := HQ2.out.cell (k := 0) rfl; have q1 := HQ2.out.cell (k := 1) rfl; have f0 := HQ2.out.frozen 0; have f1 := HQ2.out.frozen 1) | (have HQ2 : Hid (BoxIn w2 w1.heap.size 52 zProg) := newbox (Below.refl _ _).drew.drew.drew hb2 rfl; have q0 := HQ2.out.cell (k := 0) rfl; have q1 := HQ2.out.cell (k := 1) rfl; have f0 := HQ2.out.frozen 0; have f1 := HQ2.out.frozen 1) | skip); clear hb2 h2 hB2 hP hBg hab))
        all_goals (go_wp2_with (first
          | (go_at_call 82; refine (HLO.out _ _ (.slice x2 a2 b2) (.slice y2 c2 d2) B ?_ ?_ ?_ HBG.out).mono ?_; (repeat (first | exact HB2.out | exact HB1.out | exact Below.refl _ _ | exact HB2.out.size | exact HB1.out.size | exact Nat.le_refl _ | apply Below.drew | apply Below.setCell | apply Below.alloc)); (first | exact held_new HP2.out | exact held_set HP2.out HQ2.out); rintro e w3 ⟨⟨j0, rfl, hj0⟩, hB3, hP3, hX3⟩; have HB3 : Hid (Below W.heap.size W w3) := hB3; have HP3 : Hid (ProgIn w3 _ _ p.args B) := hP3; have HX3 : Hid (BoxIn w3 _ 52 _) := hX3; obtain rfl := hj0 _ rfl; clear hB3 hP3 hX3 hj0)
          | (refine wpList_store_res HKS.out HB3.out rfl _ _ rfl rfl zProg rfl rfl one_zProg ?_; intro w8 hb8 hB8 hg8)))
        all_goals (refine bodyPost_ret (results_box3 aggProg Tryz.results42 rfl rfl rfl rfl hb8) rfl ?_)
        all_goals (exact ⟨fun a bs h => (by rw [hr.out] at h; cases h), fun c j h => (by rw [hr.out] at h; injection h with h; injection h with h1 h2; subst h1 h2; exact ⟨_, rfl, isProg_z⟩), hB8⟩)
      | none =>
        have hr : Hid (readG tg bl ln s = .ok (p.args, p.closed)) := by
          show _ = _
          rw [hrg.out, hrun]
          simp [hlost]
        go_enter Tryz.func42, Tryz.ntmps42
        go_wp2_with fail
        obtain ⟨W, hW⟩ : ∃ W, W = (w.alloc (.cells #[.int .i64 (ln : Int), .int .i64 (bl : Int), .int .i64 (tg : Int)] 73)).alloc (.cells #[.slice none 0 0, .slice none 0 0] 52) := ⟨_, rfl⟩
        rw [← hW] at HKS ⊢
        clear hW
        go_region_held3 (fun w' => w'.cell? ⟨w.heap.size, 0, none⟩ = some (.int .i64 (ln : Int))) (exact HKS.out.kb.cell rfl)
          (first | (go_at_call 79; refine (count_any _ _ _).mono ?_; rintro e w1 ⟨rfl, rfl⟩; rw [← HN.out]))
        go_wp2_with fail
        have HK : Hid (∀ W', Below W.heap.size W W' → W'.cell? ⟨w.heap.size, 0, none⟩ = some (.int .i64 (ln : Int)) ∧ W'.cell? ⟨w.heap.size, 1, none⟩ = some (.int .i64 (bl : Int)) ∧ W'.cell? ⟨w.heap.size, 2, none⟩ = some (.int .i64 (tg : Int))) := fun W' hW => ⟨(HKS.out.kb.below hW).cell rfl, (HKS.out.kb.below hW).cell rfl, (HKS.out.kb.below hW).cell rfl⟩
        have HSW : Hid (∀ W', Below W.heap.size W W' → Calls Tryz.prog 81 #[.string s, .string ⟨#[10]⟩] W' fun e w' => ∃ v, e = .returned v ∧ RdT w' 9 1 v N (strs (cuts 10 s)) ∧ Below W'.heap.size W' w' ∧ Below W.heap.size W w') := fun W' hW => (HSP.out W' (HE.out.below (HKS.out.below hW).bel)).mono (by rintro e w' ⟨v, h1, h2, h3⟩; exact ⟨v, h1, h2, h3, hW.trans (h3.mono hW.size)⟩)
        have HRW : Hid (∀ W' v, Below W.heap.size W W' → RdT W' 9 1 v N (strs (cuts 10 s)) → Calls Tryz.prog 80 #[.agg #[.int .i64 (ln : Int), .int .i64 (bl : Int), .int .i64 (tg : Int)], v] W' fun e w' => AllOut W' w' (.ok p) e N ∧ Below W.heap.size W w') := fun W' v hW hv => (HRA.out W' v (HE.out.below (HKS.out.below hW).bel) hv).mono (by rintro e w' h; exact ⟨h, hW.trans (h.2.2.mono hW.size)⟩)
        have HLO : Hid (∀ W' k av bv B, Below W.heap.size W W' → W.heap.size ≤ k → ProgIn W' av bv p.args B ∧ BoxIn W' k 52 [av, bv] → B.map BV.g = p.closed → Calls Tryz.prog 82 #[.pointer (some ⟨k, 0, none⟩)] W' fun e w' => (∃ i : Nat, e = .returned (.tuple #[.int .i64 (i : Int), .bool (lostG p.closed.length p.closed).isSome]) ∧ ∀ k, lostG p.closed.length p.closed = some k → i = k) ∧ Below W.heap.size W w' ∧ ProgIn w' av bv p.args B ∧ BoxIn w' k 52 [av, bv]) := by
          intro W' k av bv B hW hk hP hB
          have hf := hfar.out.blocks (by have := HN.out; omega) hB
          refine (lost_any W' k av bv p.args B hP.1 hP.2 hf.1 hf.2).mono ?_
          have hl : B.length = p.closed.length := by rw [← hB]; simp
          rw [hB, hl]
          rintro e w' ⟨h1, h2⟩
          exact ⟨h1, hW.trans (h2.mono hW.size), hP.1.below h2, hP.2.below h2⟩
        rw [hlost] at HLO
        go_region_held3 (fun w' => w'.cell? ⟨w.heap.size, 0, none⟩ = some (.int .i64 (ln : Int)) ∧ w'.cell? ⟨w.heap.size, 1, none⟩ = some (.int .i64 (bl : Int)) ∧ w'.cell? ⟨w.heap.size, 2, none⟩ = some (.int .i64 (tg : Int)))
          ((refine HK.out _ ?_; (repeat (first | exact HB2.out | exact HB1.out | exact Below.refl _ _ | exact HB2.out.size | exact HB1.out.size | exact Nat.le_refl _ | apply Below.drew | apply Below.setCell | apply Below.alloc))))
          (first
            | (go_at_call 81; refine (HSW.out _ ?_).mono ?_; (repeat (first | exact HB2.out | exact HB1.out | exact Below.refl _ _ | exact HB2.out.size | exact HB1.out.size | exact Nat.le_refl _ | apply Below.drew | apply Below.setCell | apply Below.alloc)); rintro e w1 ⟨v1, rfl, hv1, hb1, hB1⟩; have HB1 : Hid (Below W.heap.size W w1) := hB1; have HV1 : Hid (RdT w1 _ _ v1 _ _) := hv1; (first | (have HQ1 : Hid (BoxIn w1 W.heap.size 52 zProg) := newbox (Below.refl _ _) hb1 rfl) | (have HQ1 : Hid (BoxIn w1 W.heap.size 52 zProg) := newbox (Below.refl _ _).drew hb1 rfl) | (have HQ1 : Hid (BoxIn w1 W.heap.size 52 zProg) := newbox (Below.refl _ _).drew.drew hb1 rfl) | (have HQ1 : Hid (BoxIn w1 W.heap.size 52 zProg) := newbox (Below.refl _ _).drew.drew.drew hb1 rfl) | skip); clear hb1 hv1 hB1)
            | (go_at_call 80; refine (HRW.out _ _ ?_ (HV1.out.below ?_)).mono ?_; (repeat (first | exact HB2.out | exact HB1.out | exact Below.refl _ _ | exact HB2.out.size | exact HB1.out.size | exact Nat.le_refl _ | apply Below.drew | apply Below.setCell | apply Below.alloc)); rintro e w2 ⟨⟨h2, -, hb2⟩, hB2⟩; obtain ⟨av, bv, B, rfl, hP, hBg, x2, y2, a2, b2, c2, d2, hab⟩ := h2 _ rfl; obtain ⟨rfl, rfl⟩ := prog_inj hab; have HP2 : Hid (ProgIn w2 _ _ p.args B) := hP; have HBG : Hid (B.map BV.g = p.closed) := hBg; have HB2 : Hid (Below W.heap.size W w2) := hB2; (first | (have HQ2 : Hid (BoxIn w2 W.heap.size 52 zProg) := HQ1.out.below hb2; have q0 := HQ2.out.cell (k := 0) rfl; have q1 := HQ2.out.cell (k := 1) rfl; have f0 := HQ2.out.frozen 0; have f1 := HQ2.out.frozen 1) | (have HQ2 : Hid (BoxIn w2 w1.heap.size 52 zProg) := newbox (Below.refl _ _) hb2 rfl; have q0 := HQ2.out.cell (k := 0) rfl; have q1 := HQ2.out.cell (k := 1) rfl; have f0 := HQ2.out.frozen 0; have f1 := HQ2.out.frozen 1) | (have HQ2 : Hid (BoxIn w2 w1.heap.size 52 zProg) := newbox (Below.refl _ _).drew hb2 rfl; have q0 := HQ2.out.cell (k := 0) rfl; have q1 := HQ2.out.cell (k := 1) rfl; have f0 := HQ2.out.frozen 0; have f1 := HQ2.out.frozen 1) | (have HQ2 : Hid (BoxIn w2 w1.heap.size 52 zProg) := newbox (Below.refl _ _).drew.drew hb2 rfl; have q0 := HQ2.out.cell (k := 0) rfl; have q1 := HQ2.out.cell (k := 1) rfl; have f0 := HQ2.out.frozen 0; have f1 := HQ2.out.frozen 1) | (have HQ2 : Hid (BoxIn w2 w1.heap.size 52 zProg) := newbox (Below.refl _ _).drew.drew.drew hb2 rfl; have q0 := HQ2.out.cell (k := 0) rfl; have q1 := HQ2.out.cell (k := 1) rfl; have f0 := HQ2.out.frozen 0; have f1 := HQ2.out.frozen 1) | skip); clear hb2 h2 hB2 hP hBg hab))
        all_goals (go_wp2_with (first
          | (go_at_call 82; refine (HLO.out _ _ (.slice x2 a2 b2) (.slice y2 c2 d2) B ?_ ?_ ?_ HBG.out).mono ?_; (repeat (first | exact HB2.out | exact HB1.out | exact Below.refl _ _ | exact HB2.out.size | exact HB1.out.size | exact Nat.le_refl _ | apply Below.drew | apply Below.setCell | apply Below.alloc)); (first | exact held_new HP2.out | exact held_set HP2.out HQ2.out); rintro e w3 ⟨⟨j0, rfl, hj0⟩, hB3, hP3, hX3⟩; have HB3 : Hid (Below W.heap.size W w3) := hB3; have HP3 : Hid (ProgIn w3 _ _ p.args B) := hP3; have HX3 : Hid (BoxIn w3 _ 52 _) := hX3;  clear hB3 hP3 hX3 hj0)
          | (refine wpList_load_box aggProg rfl _ rfl _ rfl _ rfl HX3.out ?_)
          | (refine wpList_store_res HKS.out HB3.out rfl _ _ rfl rfl [.slice x2 a2 b2, .slice y2 c2 d2] rfl rfl one_prog ?_; intro w8 hb8 hB8 hg8)))
        all_goals (refine bodyPost_ret (results_box3 aggProg Tryz.results42 rfl rfl rfl rfl hb8) rfl ?_)
        all_goals (exact ⟨fun a bs h => (by rw [hr.out] at h; injection h with h; injection h with h1 h2; subst h1 h2; exact ⟨_, _, B, rfl, HP3.out.grew (HKS.out.below HB3.out).rb hg8, HBG.out, _, _, _, _, _, _, rfl⟩), fun c j h => (by rw [hr.out] at h; cases h), hB8⟩)

end Go.Proofs.YtbddcodljmglfaaGreatDoor
