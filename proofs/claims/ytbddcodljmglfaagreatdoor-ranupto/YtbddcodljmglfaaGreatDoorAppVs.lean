/- append([]Version{v}, list...). -/
import Derived.Test.YtbddcodljmglfaaGreatDoorLostFn
set_option linter.unusedSimpArgs false
set_option linter.unusedVariables false
namespace Go.Proofs.YtbddcodljmglfaaGreatDoor
open Go.RowKit

theorem vers_one2 (A : List Ver) : ∀ u ∈ vers A, u.oneCell' = true := by
  induction A with
  | nil => simp [vers]
  | cons a r ih =>
    intro u hu
    simp [vers] at hu
    rcases hu with rfl | rfl | hu
    · rfl
    · rfl
    · exact ih u hu

theorem run_append_zero (a : Addr) (n cap : Nat) (ao : Option Addr) (c : Nat) (hn : n ≤ cap) (ty : TypeId) (w : World) : (Builtin.append_ #[49, 49] ty #[.slice (some a) n cap, .slice ao 0 c]).run Tryz.prog w = .ok (.slice (some a) n cap) w := by
  have hu : Tryz.prog.underlying 49 = some (.slice 111) := Tryz.underlying49
  obtain ⟨i0, hi, hz0, hz1, hz2⟩ := info_parts infoVersion
  cases ao with
  | none =>
    simp [Builtin.append_, run_underlying hu, sizeOf, typeInfo, hi, Builtin.lenOf, hn]
    simp [Builtin.firstCells, storeCells]
  | some b =>
    simp [Builtin.append_, run_underlying hu, sizeOf, typeInfo, hi, Builtin.lenOf, hn]
    simp [Builtin.firstCells, storeCells, loadCells, loadCellsFrom]

theorem OwnS.made2 (w : World) (t : TypeId) (a b : Value) : OwnS (w.alloc (.cells #[a, b] t)) w.heap.size t 2 (.slice (some ⟨w.heap.size, 0, none⟩) 1 1) 1 [a, b] :=
  ⟨rfl, .inr ⟨_, _, _, _, rfl, Nat.le_refl _, heap_alloc_new w _, Nat.le_refl _, by unfold maxLen; omega, by simp, fun j u hj => by simpa using hj⟩⟩

set_option maxRecDepth 100000 in
theorem run_append_vs (W : World) (s : Ver) (ao : Option Addr) (cp : Nat) (l : List Ver) (hl : l.length ≤ 1000000) (hr : RdT W 111 2 (.slice ao l.length cp) l.length (vers l)) (ty : TypeId) :
    ∃ g off cap w', (Builtin.append_ #[49, 49] ty #[.slice (some ⟨W.heap.size, 0, none⟩) 1 1, .slice ao l.length cp]).run Tryz.prog (W.alloc (.cells #[.string s.1, .int .i64 (s.2 : Int)] 111)) = .ok (.slice (some ⟨g, off, none⟩) (1 + l.length) cap) w' ∧
      (∀ j u, (vers (s :: l))[j]? = some u → w'.cell? ⟨g, off + j, none⟩ = some u) ∧ 1 + l.length ≤ cap ∧ W.heap.size ≤ g ∧ g < w'.heap.size ∧ Below W.heap.size W w' := by
  have hb : Below W.heap.size W (W.alloc (.cells #[.string s.1, .int .i64 (s.2 : Int)] 111)) := (Below.refl _ _).alloc (Nat.le_refl _) _
  by_cases h0 : l.length = 0
  · have hnil : l = [] := List.eq_nil_of_length_eq_zero h0
    subst hnil
    refine ⟨_, _, _, _, run_append_zero _ 1 1 ao cp (Nat.le_refl _) ty _, fun j u hj => ?_, Nat.le_refl _, Nat.le_refl _, by simp, hb⟩
    rw [Nat.zero_add]
    exact (BoxIn.new W 111 [.string s.1, .int .i64 (s.2 : Int)]).cell hj
  · obtain ⟨g0, off0, rfl, hg0, hc⟩ := hr.at (by omega)
    obtain ⟨i0, hi, hz0, hz1, hz2⟩ := info_parts infoVersion
    obtain ⟨g, off, cap, w', hrun, h1, h2, h3, h4⟩ := run_append_ownS (P := Tryz.prog) (W.alloc (.cells #[.string s.1, .int .i64 (s.2 : Int)] 111)) W.heap.size 49 ty 111 i0 _ 2 24 Tryz.underlying49 hi hz0 hz1 hz2 rfl (by decide) _ _ _ (OwnS.made2 W 111 (.string s.1) (.int .i64 (s.2 : Int))) ⟨g0, off0, none⟩ l.length cp (vers l) (vers_length l) (fun j u hj => by
      rw [Addr.add_lit]
      have hq := hc j u hj
      rw [World.cell?_of_block (Below.heap_alloc W _ _ hg0)]
      exact hq) (vers_one2 l) (by omega) (by unfold maxLen; omega) (by omega) (by simp)
    refine ⟨g, off, cap, w', hrun, ?_, ?_, ?_, h4, ?_⟩
    · intro j u hj
      rcases h1.2 with ⟨h5, _⟩ | ⟨g', off', cap', cur, h5, _, h6, _, _, _, h7⟩
      · cases h5
      · injection h5 with h5 h8 h9
        injection h5 with h5
        injection h5 with h5 h5'
        subst h5 h5'
        have := h7 j u hj
        simp [World.cell?, h6, this]
    · rcases h1.2 with ⟨h5, _⟩ | ⟨g', off', cap', cur, h5, _, _, h6, _⟩
      · cases h5
      · injection h5 with h5 h8 h9
        rw [h9]
        exact h6
    · exact (h1.lt g rfl).1
    · refine hb.trans ⟨h2.os, h2.tape, h2.output, h2.size, fun k hk => h2.block k (by simp; omega) (fun e => ?_)⟩
      injection e with e
      have e2 : k = W.heap.size := e
      omega

theorem wpList_append_run {P : Program} {ops : Array Oper} {rest : List Oper} {o : Oper} {a : Act} {w : World} {Q : Exit → Act → World → Prop} (hgd : o.guard = none) (s x : Operand) (t : TypeId)
    (ho : o.op = .call { callee := .builtin .append, args := #[s, x], argTypes := #[t, t] }) (v1 v2 : Value) (hs : a.eval s = v1) (hx : a.eval x = v2) (r : Value) (w' : World) (hr : (Builtin.append_ #[t, t] o.type #[v1, v2]).run P w = .ok r w')
    (h : wpList P ops Q rest (a.put o.dst r) w') : wpList P ops Q (o :: rest) a w := by
  refine wpList_plain hgd fun _ hK => ?_
  unfold Oper.wp execOp
  simp only [ho, resolve, invoke, builtin, Sem.run_bind, Sem.run_pure, Result.andThen_ok, List.map_toArray, List.map_cons, List.map_nil, hs, hx, hr]
  exact hK _ _ h

end Go.Proofs.YtbddcodljmglfaaGreatDoor
