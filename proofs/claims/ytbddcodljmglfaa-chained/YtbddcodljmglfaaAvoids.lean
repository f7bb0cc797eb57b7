/- avoids: a search of its own, by the edges alone. -/
import Derived.Test.YtbddcodljmglfaaOnEdge
import Derived.BigQuiet
set_option linter.unusedSimpArgs false
set_option linter.unusedVariables false
namespace Go.Proofs.Ytbddcodljmglfaa
open Go.RowKit

structure Av (n : Nat) (L : List (Nat × Nat)) (a : Nat) (l : List Nat) : Prop where
  nodup : l.Nodup
  lt : ∀ c ∈ l, c < n
  sound : ∀ c ∈ l, Fwd L a c
  zero : 0 ∈ l

theorem Av.push {n : Nat} {L : List (Nat × Nat)} {a : Nat} {l : List Nat} (h : Av n L a l) {x c : Nat} (hx : x ∈ l) (hL : (x, c) ∈ L) (hn : c < n) (hca : c ≠ a) (hno : c ∉ l) : Av n L a (l ++ [c]) := by
  refine ⟨?_, ?_, ?_, by simp [h.zero]⟩
  · rw [List.nodup_append]
    exact ⟨h.nodup, by simp, fun y hy z hz => by simp at hz; subst hz; intro e; subst e; exact hno hy⟩
  · intro y hy
    rcases List.mem_append.1 hy with hy | hy
    · exact h.lt y hy
    · rw [List.mem_singleton.1 hy]; exact hn
  · intro y hy
    rcases List.mem_append.1 hy with hy | hy
    · exact h.sound y hy
    · rw [List.mem_singleton.1 hy]
      exact Reach.step (h.sound x hx) ⟨hL, by omega⟩

theorem av_end {n : Nat} {L : List (Nat × Nat)} {a : Nat} {l : List Nat} (h : Av n L a l) (hc : ∀ x ∈ l, ∀ c, (x, c) ∈ L → c ≠ a → c ∈ l) (b : Nat) : b ∈ l ↔ Fwd L a b := by
  refine ⟨h.sound b, fun hb => ?_⟩
  exact Reach.ind hb (fun b => b ∈ l) (fun a ha => by rw [ha.1]; exact h.zero) (fun x c _ hx he => hc x hx c he.1 (fun e => he.2 (by rw [e])))

theorem pre_take {α : Type} {l l' ext : List α} {i : Nat} (hi : i < l.length) (h : l' = l ++ ext) : l'.take (i + 1) = l.take i ++ [l[i]] := by
  subst h
  rw [List.take_append_of_le_length (by omega), List.take_add_one, List.getElem?_eq_getElem hi]
  rfl

set_option maxRecDepth 100000 in
set_option maxHeartbeats 4000000 in
theorem webAvoids_any (w : World) (bk base p m q n : Nat) (L : List (Nat × Nat)) (D : List Bool) (De : List Nat) (ve vd : Value) (h : WebIn w bk base p m q n L D De ve vd) (hlen : L.length ≤ 1000000) (hn40 : n ≤ 40) (a b : Nat) (hb : b < n) :
    Calls Try.prog 15 #[.pointer (some ⟨bk, 0, none⟩), .int .i64 a, .int .i64 b] w fun e w' => ∃ r : Bool, e = .returned (.bool r) ∧ (r = true ↔ Fwd L a b) ∧ Below w.heap.size w w' := by
  by_cases ha0 : a = 0
  · have hfin : Hid (¬ Fwd L a b) := by
      intro hf
      exact Reach.ind hf (fun _ => False) (fun x hx => hx.2 (by rw [hx.1, ha0])) (fun _ _ _ h _ => h)
    have h1 : (a : Int) = 0 := by omega
    clear h ha0
    go_enter Try.func15, Try.ntmps15
    go_wp2_with fail
    go_ret
    exact ⟨false, rfl, by simp [hfin.out], Below.refl _ _⟩
  · have ha1 : ((a : Int) == 0) = false := by rw [beq_eq_false_iff_ne]; omega
    have ha2 : ¬ (a : Int) = 0 := by omega
    by_cases hab : a = b
    · subst hab
      have hfin : Hid (¬ Fwd L a a) := fun hf => RA.ne hf rfl
      clear h
      go_enter Try.func15, Try.ntmps15
      go_wp2_with fail
      go_ret
      exact ⟨false, rfl, by simp [hfin.out], Below.refl _ _⟩
    · have hb1 : ((a : Int) == (b : Int)) = false := by rw [beq_eq_false_iff_ne]; omega
      have hb2 : ¬ (a : Int) = (b : Int) := by omega
      have HW : Hid (WebIn w bk base p m q n L D De ve vd) := h
      obtain ⟨hl, ao, cap, rfl, hr⟩ := h.edges.rd
      have hc := h.c2
      obtain ⟨N, hn⟩ : ∃ N, N = L.length := ⟨_, rfl⟩
      rw [← hn] at hr hlen hc
      have HN : Hid (N = L.length) := hn
      have hbw := World.block_lt_of_cell? w _ hc
      have hHA : Hid (a ≠ 0 ∧ a ≠ b) := ⟨ha0, hab⟩
      clear hn hl h ha0 hab
      go_enter Try.func15, Try.ntmps15
      go_wp2_with fail
      clear ha1 ha2 hb1 hb2
      have HO0 : Hid (OwnS (w.alloc (.cells #[.int .i64 0] 3)) w.heap.size 3 1 (.slice (some ⟨w.heap.size, 0, none⟩) 1 1) [0].length (nums [0])) := by
        refine ⟨by simp [nums], .inr ⟨w.heap.size, 0, 1, #[.int .i64 0], rfl, Nat.le_refl _, heap_new rfl, by simp, by unfold maxLen; omega, by simp, ?_⟩⟩
        intro j u hj
        simpa [nums] using hj
      have HA0 : Hid (Av n L a [0]) := ⟨by simp, by simp; omega, by simp; exact Reach.start ⟨rfl, by have := hHA.out.1; omega⟩, by simp⟩
      go_loopg [7, 8] n (fun g s7 s8 wr => ∃ (i : Nat) (l : List Nat), i + g = n ∧ s8 = .int .i64 i ∧ i ≤ l.length ∧ Hid (OwnS wr w.heap.size 3 1 s7 l.length (nums l)) ∧ Hid (Av n L a l) ∧ Hid (∀ x ∈ l.take i, ∀ c, (x, c) ∈ L → c ≠ a → c ∈ l) ∧ Hid (Below w.heap.size w wr))
      case atStart => exact ⟨0, [0], by omega, rfl, by simp, HO0.out, HA0.out, by simp [Hid], (Below.refl _ _).alloc (Nat.le_refl _) _⟩
      case round =>
        clear HO0 HA0
        obtain ⟨i, l, hig, rfl, hil, hown, hav, hcl, hbel⟩ := hrel
        obtain ⟨ao7, cp7, rfl⟩ := hown.out.len
        have hln := nodup_len n l hav.out.nodup hav.out.lt
        by_cases hlt : i < l.length
        · obtain ⟨x, hx⟩ : ∃ x, x = l[i] := ⟨_, rfl⟩
          have hxl : Hid (x ∈ l) := by show _ ∈ _; rw [hx]; exact List.getElem_mem _
          have HX0 : Hid (x = l[i]) := hx
          clear hx
          go_wp2_with fail
          go_loopg [7, 9] N (fun g s7 s9 wx => ∃ (k : Nat) (l' : List Nat), k + g = N ∧ s9 = .int .i64 k ∧ Hid (OwnS wx w.heap.size 3 1 s7 l'.length (nums l')) ∧ Hid (Av n L a l') ∧ Hid (∃ ext, l' = l ++ ext) ∧ Hid (∀ e ∈ L.take k, e.1 = x → e.2 ≠ a → e.2 ∈ l') ∧ Hid (Below w.heap.size w wx))
          case atStart => exact ⟨0, l, by omega, rfl, hown.out, hav.out, ⟨[], by simp⟩, by simp [Hid], hbel.out⟩
          case round =>
            obtain ⟨k, l', hkg, rfl, hown', hav', hext, hdo, hbel'⟩ := hrel
            obtain ⟨ao8, cp8, rfl⟩ := hown'.out.len
            have hln' := nodup_len n l' hav'.out.nodup hav'.out.lt
            have hc' : wr.cell? ⟨bk, 2, none⟩ = some (.slice ao N cap) := by rw [hbel'.out.cell hbw]; exact hc
            by_cases hltk : k < N
            · rcases hr with hr | ⟨g, off, rfl, hr⟩
              · omega
              have hlt' : k < L.length := HN.out ▸ hltk
              obtain ⟨h0, h1⟩ := pcells_get L k hlt'
              have d0 := hr _ _ h0
              have d1 := hr _ _ h1
              rw [← Nat.add_assoc] at d1
              have c0 : wr.cell? ⟨g, off + k * 2, none⟩ = some (.int .i64 (L[k].1 : Int)) := by rw [hbel'.out.cell (World.block_lt_of_cell? w _ d0)]; exact d0
              have c1 : wr.cell? ⟨g, off + k * 2 + 1, none⟩ = some (.int .i64 (L[k].2 : Int)) := by rw [hbel'.out.cell (World.block_lt_of_cell? w _ d1)]; exact d1
              have HE : Hid ((L[k].1, L[k].2) ∈ L) := List.getElem_mem hlt'
              have HT : Hid (L.take (k + 1) = L.take k ++ [(L[k].1, L[k].2)]) := by show _ = _; rw [List.take_add_one, List.getElem?_eq_getElem hlt']; rfl
              have hx0n : L[k].2 < n := (HW.out.graph.lt _ (List.getElem_mem hlt')).2
              generalize L[k].1 = e0 at c0 HE HT
              generalize L[k].2 = e1 at c1 HE HT hx0n
              have hs := hbel'.out.size
              have hltl' : i < l'.length := by obtain ⟨ext, he⟩ := hext.out; rw [he, List.length_append]; omega
              have hxi : l'[i] = x := by obtain ⟨ext, he⟩ := hext.out; subst he; rw [HX0.out, List.getElem_append_left hlt]
              obtain ⟨hll, ao9, cp9, hf, hr8⟩ := hown'.out.rd
              simp only [Value.slice.injEq] at hf
              obtain ⟨rfl, _, rfl⟩ := hf
              rcases hr8 with hr8 | ⟨g8, off8, rfl, hr8⟩
              · omega
              have c8 := hr8 _ _ (nums_get hltl')
              rw [hxi] at c8
              have hg8 := World.block_lt_of_cell? wr _ c8
              simp only at hg8
              have hnext : Hid (∀ l2 : List Nat, (∀ e ∈ L.take k, e.1 = x → e.2 ≠ a → e.2 ∈ l2) → (e0 = x → e1 ≠ a → e1 ∈ l2) → ∀ e ∈ L.take (k + 1), e.1 = x → e.2 ≠ a → e.2 ∈ l2) := by
                intro l2 h1 h2 e he
                rw [HT.out] at he
                rcases List.mem_append.1 he with he | he
                · exact h1 e he
                · rw [List.mem_singleton.1 he]; exact h2
              have hb1 : Hid (Below w.heap.size w (wr.alloc (.cells #[.int .i64 e0, .int .i64 e1] 42))) := hbel'.out.alloc hs _
              have ho1 : Hid (OwnS (wr.alloc (.cells #[.int .i64 e0, .int .i64 e1] 42)) w.heap.size 3 1 (.slice (some ⟨g8, off8, none⟩) l'.length cp8) l'.length (nums l')) := hown'.out.alloc _
              have ham := among_any _ l' _ ho1.out.rd (by omega) e1
              have HAM : Hid (Calls Try.prog 12 _ (wr.alloc (.cells #[.int .i64 e0, .int .i64 e1] 42)) _) := ham
              clear hr d0 d1 h0 h1 hlt' hc HT hr8 ham hll hxi
              go_wp2_with fail
              refine HAM.out.mono ?_
              rintro e w9 ⟨rfl, h9⟩
              replace h9 := h9.symm
              subst h9
              have hskip : Hid (∀ nq, (e0 = x → e1 ≠ a → e1 ∈ l') → (OwnS ((wr.alloc (.cells #[.int .i64 e0, .int .i64 e1] 42)).drewN nq) w.heap.size 3 1 (.slice (some ⟨g8, off8, none⟩) l'.length cp8) l'.length (nums l') ∧ (∀ e ∈ L.take (k + 1), e.1 = x → e.2 ≠ a → e.2 ∈ l') ∧ Below w.heap.size w ((wr.alloc (.cells #[.int .i64 e0, .int .i64 e1] 42)).drewN nq))) :=
                fun nq h => ⟨ho1.out.of_block (fun _ _ => rfl), hnext.out l' hdo.out h, below_drewN hb1.out nq⟩
              by_cases hex : e0 = x
              · subst hex
                by_cases hea : e1 = a
                · replace hea := hea.symm
                  subst hea
                  clear HAM
                  generalize decide (a ∈ l') = mm
                  go_wp2_with fail
                  go_quiet (fail)
                  go_wp2_with fail
                  go_roundg (N - (k + 1))
                  case measure => omega
                  case rel =>
                    obtain ⟨s1, s2, s3⟩ := hskip.out _ (fun _ h => absurd rfl h)
                    exact ⟨k + 1, l', by omega, by go_num, s1, hav'.out, hext.out, s2, s3⟩
                · have q1 : ((e1 : Int) == (a : Int)) = false := by rw [beq_eq_false_iff_ne]; omega
                  have q2 : ¬ (e1 : Int) = (a : Int) := by omega
                  have q3 : decide ((e1 : Int) = (a : Int)) = false := by simp; omega
                  have HX : Hid (e1 ≠ a) := hea
                  clear HAM hea
                  by_cases hm : e1 ∈ l'
                  · have HM : Hid (e1 ∈ l') := hm
                    have hmd : decide (e1 ∈ l') = true := by simp [hm]
                    rw [hmd]
                    clear hmd hm
                    go_wp2_with fail
                    go_quiet (fail)
                    go_wp2_with fail
                    go_roundg (N - (k + 1))
                    case measure => omega
                    case rel =>
                      obtain ⟨s1, s2, s3⟩ := hskip.out _ (fun _ _ => HM.out)
                      exact ⟨k + 1, l', by omega, by go_num, s1, hav'.out, hext.out, s2, s3⟩
                  · have HM : Hid (e1 ∉ l') := hm
                    have hmd : decide (e1 ∈ l') = false := by simp [hm]
                    rw [hmd]
                    clear hmd hm
                    go_wp2_with fail
                    go_quiet (fail)
                    generalize hwq : (wr.alloc (.cells #[.int .i64 e0, .int .i64 e1] 42)).drewN _ = wq
                    have HOQ : Hid (OwnS wq w.heap.size 3 1 (.slice (some ⟨g8, off8, none⟩) l'.length cp8) l'.length (nums l')) := by rw [← hwq]; exact ho1.out.of_block (fun _ _ => rfl)
                    have HBQ : Hid (Below w.heap.size w wq) := by rw [← hwq]; exact below_drewN hb1.out _
                    have cq : wq.cell? ⟨wr.heap.size, 1, none⟩ = some (.int .i64 (e1 : Int)) := by
                      have h5 : wq.heap[wr.heap.size]? = some (.cells #[.int .i64 e0, .int .i64 e1] 42 (0, 0)) := by rw [← hwq]; exact heap_new rfl
                      simp [World.cell?, h5]
                    have hsq : w.heap.size ≤ wq.heap.size := HBQ.out.size
                    obtain ⟨i0, hi0, hz0, hz1, hz2⟩ := info_parts infoInt
                    have HAV : Hid (Av n L a (l' ++ [e1])) := hav'.out.push (x := e0) (by obtain ⟨ext, he⟩ := hext.out; rw [he]; exact List.mem_append.2 (.inl hxl.out)) HE.out hx0n HX.out HM.out
                    have HXT : Hid (∃ ext, l' ++ [e1] = l ++ ext) := by obtain ⟨ext, he⟩ := hext.out; exact ⟨ext ++ [e1], by rw [he, List.append_assoc]⟩
                    have HDO : Hid (∀ e ∈ L.take (k + 1), e.1 = e0 → e.2 ≠ a → e.2 ∈ l' ++ [e1]) := hnext.out _ (fun e h1 h2 h3 => List.mem_append.2 (.inl (hdo.out e h1 h2 h3))) (fun _ _ => by simp)
                    clear hwq hskip hnext ho1 hb1 hown' hav' hext hdo c0 c1 c8 hc' hbel'
                    go_wp2_with (first | (at_builtin; refine wpList_append_ownS _ rfl _ _ 26 rfl w.heap.size 3 i0 (.int .i64 0) 1 8 Try.underlying26 hi0 hz0 hz1 hz2 rfl (by decide) _ _ _ rfl (HOQ.out.alloc _) ⟨wq.heap.size, 0, none⟩ 1 1 [.int .i64 (e1 : Int)] rfl rfl (cell_new1 _ _ _) (fun u hu => nums_one u e1 hu) (by decide) (by unfold maxLen; omega) (by omega) (by simp; omega) ?_; intro g' off' cap' w3 hown3 hgrow3 hloc3 hlt3))
                    have hb3 : Below w.heap.size w w3 := (HBQ.out.alloc hsq _).grown hgrow3 (by simp; omega) (fun j hj => (HOQ.out.lt j hj).1)
                    go_wp2_with fail
                    go_roundg (N - (k + 1))
                    case measure => omega
                    case rel => exact ⟨k + 1, l' ++ [e1], by omega, by go_num, by show OwnS _ _ _ _ _ _ _; rw [nums_append]; simpa [nums] using hown3, HAV.out, HXT.out, HDO.out, hb3⟩
              · have q1 : ((e0 : Int) == (x : Int)) = false := by rw [beq_eq_false_iff_ne]; omega
                have q2 : ¬ (e0 : Int) = (x : Int) := by omega
                have q3 : decide ((e0 : Int) = (x : Int)) = false := by simp; omega
                have HX : Hid (e0 ≠ x) := hex
                clear HAM hex
                generalize decide (e1 ∈ l') = mm
                go_wp2_with fail
                go_quiet (fail)
                go_wp2_with fail
                go_roundg (N - (k + 1))
                case measure => omega
                case rel =>
                  obtain ⟨s1, s2, s3⟩ := hskip.out _ (fun h => absurd h HX.out)
                  exact ⟨k + 1, l', by omega, by go_num, s1, hav'.out, hext.out, s2, s3⟩
            · have hfull : Hid (∀ x' ∈ l'.take (i + 1), ∀ c, (x', c) ∈ L → c ≠ a → c ∈ l') := by
                intro x' hx' c hc1 hc2
                obtain ⟨ext, he⟩ := hext.out
                rw [pre_take hlt he] at hx'
                rcases List.mem_append.1 hx' with h1 | h1
                · have := hcl.out x' h1 c hc1 hc2
                  rw [he]
                  exact List.mem_append.2 (.inl this)
                · rw [List.mem_singleton.1 h1, ← HX0.out] at hc1
                  have h2 := hdo.out (x, c) (by rw [List.take_of_length_le (by have := HN.out; omega)]; exact hc1) rfl hc2
                  exact h2
              have hil' : i + 1 ≤ l'.length := by obtain ⟨ext, he⟩ := hext.out; rw [he, List.length_append]; omega
              go_wp2_with fail
              go_roundg (n - (i + 1))
              case measure => omega
              case rel => exact ⟨i + 1, l', by omega, by go_num, hil', hown'.out, hav'.out, hfull.out, hbel'.out⟩
        · have hfin : Hid (b ∈ l ↔ Fwd L a b) := av_end hav.out (fun x hx => hcl.out x (by rw [List.take_of_length_le (by omega)]; exact hx)) b
          have HAM : Hid (Calls Try.prog 12 _ wr _) := among_any wr l _ hown.out.rd (by omega) b
          go_wp2_with fail
          refine HAM.out.mono ?_
          rintro e w9 ⟨rfl, h9⟩
          replace h9 := h9.symm
          subst h9
          have hf2 : Hid (decide (b ∈ l) = true ↔ Fwd L a b) := by show _ ↔ _; rw [decide_eq_true_eq]; exact hfin.out
          generalize decide (b ∈ l) = mm at hf2 ⊢
          clear HAM hfin
          go_wp2_with fail
          go_ret
          exact ⟨mm, rfl, hf2.out, hbel.out⟩

end Go.Proofs.Ytbddcodljmglfaa
