/- From a form that is read to its run in the document: of no run. And what follows on it. -/
import Derived.Test.YtbddcodljmglfaaGreatDoorExecB
import Derived.Test.YtbddcodljmglfaaGreatDoorExecD
import Derived.Test.YtbddcodljmglfaaGreatDoorDocC
import Derived.Test.YtbddcodljmglfaaGreatDoorVarsB
import Derived.Test.YtbddcodljmglfaaGreatDoorDocD
set_option linter.unusedSimpArgs false
set_option linter.unusedVariables false
namespace Go.Proofs.YtbddcodljmglfaaGreatDoor

theorem fault_phis {bs : List BlockG} (h : faultG bs = none) : ∀ y ∈ itsFrom 0 bs, phiBad (edgesG 0 [] bs) bs.length y = false := by
  unfold faultG at h
  split at h
  · cases h
  · split at h
    · cases h
    · rename_i hf
      exact firstBad_none _ hf
theorem phiIts_at (k : Nat) : ∀ (L : List PhiG) (n j : Nat) (l : PhiG), L[j]? = some l → (⟨k, n + j, .phi l⟩ : It) ∈ phiIts k n L
  | [], n, j, l, h => by simp at h
  | x :: L, n, 0, l, h => by simp at h; subst h; simp [phiIts]
  | x :: L, n, j + 1, l, h => by
    have := phiIts_at k L (n + 1) j l (by simpa using h)
    rw [show n + 1 + j = n + (j + 1) by omega] at this
    simp [phiIts, this]
theorem Both.len {α β : Type} {R : α → β → Prop} {l : List α} {r : List β} (h : Both R l r) : l.length = r.length := by
  induction h with
  | nil => rfl
  | cons _ _ ih => simp [ih]
theorem body_len : ∀ (L : List BA) (nb i : Nat), (bodyL nb i L).length ≤ L.length
  | [], nb, i => by simp [bodyL]
  | s :: r, nb, i => by
    simp only [bodyL]
    split
    · have := body_len r (nb + 1) (i + 1)
      simp
      omega
    · have := body_len r nb (i + 1)
      simp
      omega
theorem one_for {p : PhiG} {b : Nat} (hn : (p.choices.map (·.1)).Nodup) (hm : b ∈ p.choices.map (·.1)) : OneFor p b := by
  obtain ⟨c, hc, rfl⟩ := List.mem_map.1 hm
  obtain ⟨s, t, h⟩ := List.append_of_mem hc
  refine ⟨s, c, t, h, rfl, fun d hd e => ?_, fun d hd e => ?_⟩
  · rw [h, List.map_append, List.nodup_append] at hn
    exact hn.2.2 d.1 (List.mem_map.2 ⟨d, hd, rfl⟩) c.1 (by simp) e
  · rw [h, List.map_append, List.nodup_append] at hn
    have := hn.2.1
    rw [List.map_cons, List.nodup_cons] at this
    exact this.1 (List.mem_map.2 ⟨d, hd, e⟩)
theorem args_rho : ∀ (bs : List BA) (acc A : List Ver), argsGo 1 acc bs = some A → A.map rho = acc.map rho ++ bs.map (·, 0) ∧ ∀ v ∈ A, v ∈ acc ∨ OKV v
  | [], acc, A, h => by
    simp [argsGo] at h
    subst h
    exact ⟨by simp, fun v hv => .inl hv⟩
  | b :: r, acc, A, h => by
    unfold argsGo at h
    cases hv : readVer 1 b with
    | none => rw [hv] at h; cases h
    | some v =>
      rw [hv] at h
      simp only at h
      split at h
      · obtain ⟨h1, h2⟩ := args_rho r _ A h
        refine ⟨?_, fun u hu => ?_⟩
        · rw [h1]
          simp [rho_of hv]
        · rcases h2 u hu with h3 | h3
          · rcases List.mem_append.1 h3 with h3 | h3
            · exact .inl h3
            · rw [List.mem_singleton] at h3
              subst h3
              exact .inr ⟨b, hv⟩
          · exact .inr h3
      · cases h

section
variable {T : List BA} {bs : List BlockG} (hF : FormT T bs) (hph : ∀ y ∈ itsFrom 0 bs, phiBad (edgesG 0 [] bs) bs.length y = false)
include hF
theorem line_at {b k : Nat} {B : BlockG} {l : LineG} (hB : bs[b]? = some B) (hk : B.lines[k]? = some l) : ∃ x, T[B.first + B.phis.length + k]? = some x ∧ isPhi (hd (cuts 32 x)) = false ∧ lineOf 1 (cuts 32 x) = some l ∧ bCnt (blkIdx 0 T) (B.first + B.phis.length + k) = b + 1 := by
  have hy : (⟨b, B.first + B.phis.length + k, .line l⟩ : It) ∈ itsFrom 0 bs := its_line bs 0 b B _ hB (by
    rw [Nat.zero_add]
    exact List.mem_append_right _ (lineIts_mem b B.lines _ k l hk))
  obtain ⟨-, h2, x, h3, h4⟩ := hF.item _ hy
  exact ⟨x, h3, h4.2.2.1, h4.2.2.2, h2⟩
include hph
theorem phi_at {b j : Nat} {B : BlockG} {p : PhiG} (hB : bs[b]? = some B) (hj : B.phis[j]? = some p) : ∃ x, T[B.first + j]? = some x ∧ isPhi (hd (cuts 32 x)) = true ∧ choicesOf ((cuts 32 x).drop 2) = some p.choices ∧ 2 ≤ (cuts 32 x).length ∧ readVer 1 ((cuts 32 x).getD 1 ByteArray.empty) = some p.sets ∧ b ≠ 0 ∧ p.choices.map (·.1) = aheadTo (edgesG 0 [] bs) b bs.length := by
  have hy : (⟨b, B.first + j, .phi p⟩ : It) ∈ itsFrom 0 bs := its_line bs 0 b B _ hB (by
    rw [Nat.zero_add]
    exact List.mem_append_left _ (phiIts_at b B.phis _ j p hj))
  have hf := hph _ hy
  obtain ⟨-, h2, x, h3, h4⟩ := hF.item _ hy
  have hset := sets_item h4
  obtain ⟨-, -, h5, h6⟩ := h4
  simp only at h5 h6
  unfold phiBad at hf
  simp at hf
  have hc40 : p.choices.length ≤ 40 := by
    have h1 := congrArg List.length hf.2
    have h2 := aheadTo_le (edgesG 0 [] bs) b bs.length
    have h3 := hF.n40
    simp at h1
    omega
  refine ⟨x, h3, h5, phi_choices h6 hc40, phi_two h6, ?_, hf.1, hf.2⟩
  rcases hset with ⟨h7, -⟩ | ⟨v, h7, h8⟩
  · cases h7
  · simp only [setOf] at h7
    injection h7 with h7
    subst h7
    unfold setsFS setsFR at h8
    rw [if_pos h5] at h8
    exact h8
theorem phi_one {b n j : Nat} {B : BlockG} {p : PhiG} (hB : bs[n]? = some B) (hj : B.phis[j]? = some p) (he : (b, n) ∈ edgesG 0 [] bs) : OneFor p b := by
  obtain ⟨x, -, -, -, -, -, -, h7⟩ := phi_at hF hph hB hj
  refine one_for ?_ ?_
  · rw [h7]
    unfold aheadTo
    exact List.nodup_range.filter _
  · rw [h7]
    unfold aheadTo
    rw [List.mem_filter]
    exact ⟨by simpa using (hF.edges _ he).1, by simpa using he⟩
theorem phi_ok {b n j : Nat} {B : BlockG} {p : PhiG} (hB : bs[n]? = some B) (hj : B.phis[j]? = some p) (he : (b, n) ∈ edgesG 0 [] bs) : OKV p.sets ∧ OKV (takenP p b) := by
  obtain ⟨x, -, -, h3, -, h5, -, -⟩ := phi_at hF hph hB hj
  refine ⟨⟨_, h5⟩, ?_⟩
  obtain ⟨c, h1, h2⟩ := (phi_one hF hph hB hj he).taken
  rw [h1]
  have hc : c ∈ p.choices := (List.mem_filter.1 (h2 ▸ List.mem_singleton.2 rfl : c ∈ p.choices.filter _)).1
  obtain ⟨j, hjc⟩ := List.mem_iff_getElem?.1 hc
  obtain ⟨g1, g2⟩ := choices_at _ _ h3
  have hjl := (List.getElem?_eq_some_iff.1 hjc).1
  obtain ⟨z, hz⟩ : ∃ z, ((cuts 32 x).drop 2)[j]? = some z := ⟨_, List.getElem?_eq_getElem (by omega)⟩
  obtain ⟨c', h6, h7⟩ := g2 j z hz
  rw [hjc] at h6
  injection h6 with h6
  subst h6
  exact ⟨_, (choice_what h7).2⟩
end

/-- All that the run of a form needs of it. -/
structure RunF (T : List BA) (A : List Ver) (bs : List BlockG) (U : List Ver) : Prop where
  form : FormT T bs
  ok : RunOK bs
  args : A.length ≤ 4 ∧ (∀ v ∈ A, OKV v) ∧ ∃ x0, T[0]? = some x0 ∧ A.map rho = ((cuts 32 x0).drop 1).map (·, 0)
  blocks : ∀ b (hb : b < (blkIdx 0 T).length), (blkIdx 0 T)[b] + (phisAt bs b).length ≤ 1000 ∧ LsF T (blkIdx 0 T) U bs b ((blkIdx 0 T)[b] + 1 + (phisAt bs b).length) (linesAt (bs.map renB) b) ∧ ∀ p ∈ phisAt bs b, rho p.sets ∈ U
  first : phisAt bs 0 = []
  far : U.length ≤ 5000 ∧ ∀ a ∈ A.map rho, a ∈ U
  begins : ∀ x, T[(blkIdx 0 T).getD 0 0 + 1]? = some x → isPhi (hd (cuts 32 x)) = false
noncomputable def setIt (y : It) : Ver := match y.it with | .phi p => rho p.sets | .line l => rho l.sets

theorem form_run {s : BA} {A : List Ver} {bs : List BlockG} (h : formG s = .ok (A, bs)) : RunF (cuts 10 s) A bs (A.map rho ++ (itsFrom 0 bs).map setIt) := by
  obtain ⟨hr, hf⟩ := form_read h
  have hF := form_T hr
  have hph := fault_phis hf
  obtain ⟨f1, f2, f3, x0, fx0, fa⟩ := form_its hr
  obtain ⟨c1, c2, c3⟩ := readG_count hr
  obtain ⟨g1, -, -⟩ := form_blocks hr
  have hA4 := (form_far h).1
  clear h hr hf
  generalize cuts 10 s = T at *
  have hlen : (blkIdx 0 T).length = bs.length := hF.bl
  have hfirst : ∀ b B, bs[b]? = some B → ∃ h : b < (blkIdx 0 T).length, B.first = (blkIdx 0 T)[b] + 1 := by
    intro b B hB
    have hb := (List.getElem?_eq_some_iff.1 hB).1
    refine ⟨by omega, ?_⟩
    have := congrArg (·[b]?) f1
    simpa [hB, show b < (blkIdx 0 T).length by omega] using this
  have hedge : ∀ b B l n, bs[b]? = some B → l ∈ B.lines → n ∈ l.leads → (b, n) ∈ edgesG 0 [] bs := by
    intro b B l n hB hl hn
    rw [mem_edgesG]
    exact .inr ⟨b, B, hB, by simp, l, hl, hn⟩
  have hphis : ∀ b B, bs[b]? = some B → phisAt bs b = B.phis ∧ linesAt bs b = B.lines := by
    intro b B hB
    simp [phisAt, linesAt, hB]
  have hl0 : ∀ (b : Nat) (B : BlockG), bs[b]? = some B → ∃ l, B.lines[0]? = some l := by
    intro b B hB
    obtain ⟨pre, last, h1, -⟩ := (g1 B (List.mem_of_getElem? hB)).lines
    rw [h1]
    cases pre with
    | nil => exact ⟨_, rfl⟩
    | cons a r => exact ⟨_, rfl⟩
  have hin : ∀ b n, (b, n) ∈ edgesG 0 [] bs → PhisIn T ((blkIdx 0 T).getD n 0 + 1) (phisAt bs n) b := by
    intro b n he
    have hn := (hF.edges _ he).2
    simp only at hn
    have hB : bs[n]? = some bs[n] := by simp [hn]
    generalize bs[n] = B at hB
    obtain ⟨hb, hfb⟩ := hfirst n B hB
    rw [(hphis n B hB).1, show (blkIdx 0 T).getD n 0 + 1 = B.first by rw [hfb]; simp [List.getD_eq_getElem?_getD, hb]]
    refine ⟨fun j p hj => ?_, ?_⟩
    · obtain ⟨x, h1, h2, h3, h4, h5, -, -⟩ := phi_at hF hph hB hj
      exact ⟨x, h1, h2, h3, h4, h5, phi_one hF hph hB hj he⟩
    · obtain ⟨l, hl⟩ := hl0 n B hB
      obtain ⟨x, h1, h2, -⟩ := line_at hF hB hl
      exact ⟨x, by simpa using h1, h2⟩
  have hB0 : ∃ B, bs[0]? = some B := ⟨bs[0], by simp⟩
  obtain ⟨B0, hB0⟩ := hB0
  have hp0 : B0.phis = [] := by
    cases hq : B0.phis with
    | nil => rfl
    | cons p r =>
      obtain ⟨x, -, -, -, -, -, h6, -⟩ := phi_at hF hph (j := 0) hB0 (by rw [hq]; rfl)
      exact absurd rfl h6
  have hU : ∀ y ∈ itsFrom 0 bs, setIt y ∈ A.map rho ++ (itsFrom 0 bs).map setIt := fun y hy => List.mem_append_right _ (List.mem_map.2 ⟨y, hy, rfl⟩)
  refine ⟨hF, ⟨?_, ?_⟩, ⟨hA4, ?_⟩, ?_, ?_, ⟨?_, fun a ha => List.mem_append_left _ ha⟩, ?_⟩
  · intro B hB l hl
    obtain ⟨b, hb⟩ := List.mem_iff_getElem?.1 hB
    obtain ⟨k, hk⟩ := List.mem_iff_getElem?.1 hl
    obtain ⟨x, -, -, h3, -⟩ := line_at hF hb hk
    obtain ⟨-, h4, h5⟩ := lineW1_of h3
    exact ⟨h4, h5, lineOf_ok h3⟩
  · intro b B hB l hl n hn
    have he := hedge b B l n hB hl hn
    have hnl := (hF.edges _ he).2
    simp only at hnl
    refine ⟨hnl, fun p hp => ?_⟩
    have hBn : bs[n]? = some bs[n] := by simp [hnl]
    rw [(hphis n _ hBn).1] at hp
    obtain ⟨j, hj⟩ := List.mem_iff_getElem?.1 hp
    exact phi_ok hF hph hBn hj he
  · obtain ⟨w0, ws, hc⟩ := cuts_cons x0
    have fa' := fa
    rw [hc, argsOf_cons] at fa'
    split at fa'
    · obtain ⟨a1, a2⟩ := args_rho ws [] A fa'
      refine ⟨fun v hv => ?_, x0, fx0, ?_⟩
      · rcases a2 v hv with h | h
        · cases h
        · exact h
      · rw [a1, hc]
        simp
    · cases fa'
  · intro b hb
    have hbb : b < bs.length := by omega
    have hB : bs[b]? = some bs[b] := by simp [hbb]
    have hBm : bs[b] ∈ bs := List.getElem_mem hbb
    generalize bs[b] = B at hB hBm
    obtain ⟨hb2, hfb⟩ := hfirst b B hB
    obtain ⟨e1, e2⟩ := hphis b B hB
    rw [linesAt_ren, e1, e2, ← hfb]
    obtain ⟨l, hl⟩ := hl0 b B hB
    obtain ⟨x, h1, -⟩ := line_at hF hB hl
    have := (List.getElem?_eq_some_iff.1 h1).1
    refine ⟨by omega, ⟨fun k l' hk => ?_, ?_, fun l' hl' k hk => ?_, fun l' hl' hw => ?_⟩, fun p hp => ?_⟩
    · rw [List.getElem?_map, Option.map_eq_some_iff] at hk
      obtain ⟨l, hkl, rfl⟩ := hk
      obtain ⟨x, h1, -, h3, h4⟩ := line_at hF hB hkl
      refine ⟨x, h1, (lineW1_of h3).1, ?_, ?_, h4⟩
      · unfold leadsS
        obtain ⟨x0, r, hc⟩ := cuts_cons x
        rw [hc] at h3 ⊢
        exact (line_what1 h3).2.2.symm
      · have h5 := lineOf_ok h3
        exact ⟨h5.num, h5.word, by simpa [renL] using h5.takes, h5.one, h5.two⟩
    · obtain ⟨pre, last, h1, h2, -⟩ := (g1 B hBm).lines
      exact ⟨pre.map renL, renL last, by rw [h1]; simp, h2⟩
    · obtain ⟨l, hl, rfl⟩ := List.mem_map.1 hl'
      have he := hedge b B l k hB hl hk
      exact ⟨by rw [hlen]; exact (hF.edges _ he).2, hin b k he⟩
    · obtain ⟨l, hl, rfl⟩ := List.mem_map.1 hl'
      obtain ⟨k, hk⟩ := List.mem_iff_getElem?.1 hl
      exact hU ⟨b, B.first + B.phis.length + k, .line l⟩ (its_line bs 0 b B _ hB (by
        rw [Nat.zero_add]
        exact List.mem_append_right _ (lineIts_mem b B.lines _ k l hk)))
    · obtain ⟨j, hj⟩ := List.mem_iff_getElem?.1 hp
      exact hU ⟨b, B.first + j, .phi p⟩ (its_line bs 0 b B _ hB (by
        rw [Nat.zero_add]
        exact List.mem_append_left _ (phiIts_at b B.phis _ j p hj)))
  · rw [(hphis 0 B0 hB0).1, hp0]
  · have h2 := body_len (T.drop 1) 0 1
    rw [f2.len] at h2
    simp at h2 ⊢
    omega
  · intro x hx
    obtain ⟨hb, hfb⟩ := hfirst 0 B0 hB0
    obtain ⟨l, hl⟩ := hl0 0 B0 hB0
    obtain ⟨y, h1, h2, -⟩ := line_at hF hB0 hl
    rw [hp0] at h1
    rw [show (blkIdx 0 T).getD 0 0 + 1 = B0.first by rw [hfb]; simp [List.getD_eq_getElem?_getD, hb]] at hx
    simp at h1
    rw [hx] at h1
    injection h1 with h1
    rw [h1]
    exact h2

end Go.Proofs.YtbddcodljmglfaaGreatDoor

namespace Go.Proofs.YtbddcodljmglfaaGreatDoor
open Go.RowKit

set_option maxRecDepth 100000 in
set_option maxHeartbeats 4000000 in
theorem dExec_err (w : World) (s : BA) (hs : s.size ≤ 4294967280) (c i : Nat) (hc : c ≠ 0) (hd : formG s = .error (c, i)) (argv : Value) (fuel : Int) :
    Calls Tryz.prog 32 #[.string s, argv, .int .i64 fuel] w fun e w' => e = .returned (.tuple #[resV ⟨false, 0, []⟩, .int .i64 (c : Int), .int .i64 (i : Int)]) ∧ Below w.heap.size w w' := by
  have HR : Hid (∀ W, Calls Tryz.prog 31 #[.string s] W fun e w' => (∃ pt, e = .returned (.tuple #[.pointer pt, .int .i64 (c : Int), .int .i64 (i : Int)])) ∧ Below W.heap.size W w') := fun W => (verified_any W s hs).mono (by
    rintro e w' ⟨h1, h2⟩
    exact ⟨⟨_, h1.1 c i hd⟩, h2⟩)
  have hc' : ((c : Int) == 0) = false := by rw [beq_eq_false_iff_ne]; omega
  clear hd
  go_enter Tryz.func32, Tryz.ntmps32
  go_wp2_with (first
    | (go_at_call 31; refine (HR.out _).mono ?_; rintro e w1 ⟨⟨pt, rfl⟩, hb1⟩; have HB1 : Hid (Below w.heap.size w w1) := ((Below.refl _ _).alloc (Nat.le_refl _) _).trans (hb1.mono (by simp)); have HX1 : Hid (BoxIn w1 w.heap.size 44 [.bool false, .int .i64 0, .string ⟨#[]⟩]) := (BoxIn.new w 44 [.bool false, .int .i64 0, .string ⟨#[]⟩]).below hb1; clear hb1)
    | (refine wpList_store_box aggRes2 rfl _ _ rfl _ rfl _ [.bool false, .int .i64 0, .string ⟨#[]⟩] rfl HX1.out rfl rfl (one_res false 0 ⟨#[]⟩) ?_; intro w8 hb8 hg8 hs8))
  refine bodyPost_ret (results_box3 aggRes2 Tryz.results32 rfl rfl rfl rfl hb8) rfl ?_
  exact ⟨rfl, HB1.out.trans (hg8.below HB1.out.size (fun q hq => by omega))⟩

set_option maxRecDepth 100000 in
set_option maxHeartbeats 4000000 in
theorem dExec_conf (w : World) (s : BA) (hs : s.size ≤ 4294967280) (r : List Ver × List BlockG) (hd : formG s = .ok r) (argv : Value) (fuel : Int) (hf : fuel < 0 ∨ 2000 < fuel) :
    Calls Tryz.prog 32 #[.string s, argv, .int .i64 fuel] w fun e w' => e = .returned (.tuple #[resV ⟨false, 0, []⟩, .int .i64 12, .int .i64 0]) ∧ Below w.heap.size w w' := by
  have HR : Hid (∀ W, Calls Tryz.prog 31 #[.string s] W fun e w' => (∃ pt, e = .returned (.tuple #[.pointer pt, .int .i64 0, .int .i64 0])) ∧ Below W.heap.size W w') := fun W => (verified_any W s hs).mono (by
    rintro e w' ⟨h1, h2⟩
    obtain ⟨tb, lv, bv, h3, -⟩ := h1.2 r.1 r.2 hd
    exact ⟨⟨_, h3⟩, h2⟩)
  clear hd
  rcases (by omega : fuel < 0 ∨ (¬ fuel < 0 ∧ 2000 < fuel)) with h1 | ⟨h1, h2⟩
  all_goals go_enter Tryz.func32, Tryz.ntmps32
  all_goals go_wp2_with (first
    | (go_at_call 31; refine (HR.out _).mono ?_; rintro e w1 ⟨⟨pt, rfl⟩, hb1⟩; have HB1 : Hid (Below w.heap.size w w1) := ((Below.refl _ _).alloc (Nat.le_refl _) _).trans (hb1.mono (by simp)); have HX1 : Hid (BoxIn w1 w.heap.size 44 [.bool false, .int .i64 0, .string ⟨#[]⟩]) := (BoxIn.new w 44 [.bool false, .int .i64 0, .string ⟨#[]⟩]).below hb1; clear hb1)
    | (refine wpList_store_box aggRes2 rfl _ _ rfl _ rfl _ [.bool false, .int .i64 0, .string ⟨#[]⟩] rfl HX1.out rfl rfl (one_res false 0 ⟨#[]⟩) ?_; intro w8 hb8 hg8 hs8))
  all_goals refine bodyPost_ret (results_box3 aggRes2 Tryz.results32 rfl rfl rfl rfl hb8) rfl ?_
  all_goals exact ⟨rfl, HB1.out.trans (hg8.below HB1.out.size (fun q hq => by omega))⟩

set_option maxRecDepth 100000 in
set_option maxHeartbeats 4000000 in
theorem dExec_ok (w : World) (s : BA) (hs : s.size ≤ 4294967280) (r : List Ver × List BlockG) (hd : formG s = .ok r) (argv : Value) (F : Nat) (hF : F ≤ 2000) (R : RunR)
    (hR : ∀ W tb lv bv, Below w.heap.size w W → TextO W tb (cuts 10 s) lv bv → Calls Tryz.prog 41 #[.pointer (some ⟨tb, 0, none⟩), argv, .int .i64 (F : Int)] W fun e w' => e = .returned (resV R) ∧ Below W.heap.size W w') :
    Calls Tryz.prog 32 #[.string s, argv, .int .i64 (F : Int)] w fun e w' => e = .returned (.tuple #[resV R, .int .i64 0, .int .i64 0]) ∧ Below w.heap.size w w' := by
  have HR : Hid (∀ W, Below w.heap.size w W → Calls Tryz.prog 31 #[.string s] W fun e w' => (∃ tb, e = .returned (.tuple #[.pointer (some ⟨tb, 0, none⟩), .int .i64 0, .int .i64 0]) ∧ ∀ W2, Below w'.heap.size w' W2 → Calls Tryz.prog 41 #[.pointer (some ⟨tb, 0, none⟩), argv, .int .i64 (F : Int)] W2 fun e w2 => e = .returned (resV R) ∧ Below W2.heap.size W2 w2) ∧ Below W.heap.size W w') := fun W hW => (verified_any W s hs).mono (by
    rintro e w' ⟨h1, h2⟩
    obtain ⟨tb, lv, bv, h4, hT⟩ := h1.2 r.1 r.2 hd
    exact ⟨⟨tb, h4, fun W2 h3 => hR W2 tb lv bv ((hW.trans (h2.mono hW.size)).trans (h3.mono (Nat.le_trans hW.size h2.size))) (hT.below h3)⟩, h2⟩)
  clear hd hR
  have h1 : ¬ (F : Int) < 0 := by omega
  have h2 : ¬ 2000 < (F : Int) := by omega
  obtain ⟨re, rv, rt⟩ := R
  unfold resV resCells at *
  go_enter Tryz.func32, Tryz.ntmps32
  go_wp2_with (first
    | (go_at_call 31; refine (HR.out _ ((Below.refl _ _).alloc (Nat.le_refl _) _)).mono ?_; rintro e w1 ⟨⟨tb, rfl, hrun⟩, hb1⟩; have HRN : Hid _ := hrun; have HB1 : Hid (Below w.heap.size w w1) := ((Below.refl _ _).alloc (Nat.le_refl _) _).trans (hb1.mono (by simp)); have HX1 : Hid (BoxIn w1 w.heap.size 44 [.bool false, .int .i64 0, .string ⟨#[]⟩]) := (BoxIn.new w 44 [.bool false, .int .i64 0, .string ⟨#[]⟩]).below hb1; clear hrun hb1)
    | (go_at_call 41; refine (HRN.out _ (Below.refl _ _)).mono ?_; rintro e w2 ⟨rfl, hb2⟩; have HB2 : Hid (Below w1.heap.size w1 w2) := hb2; clear hb2)
    | (refine wpList_store_box aggRes2 rfl _ _ rfl _ rfl _ [.bool re, .int .i64 rv, .string (traceB rt)] rfl (HX1.out.below HB2.out) rfl rfl (one_res _ _ _) ?_; intro w8 hb8 hg8 hs8))
  refine bodyPost_ret (results_box3 aggRes2 Tryz.results32 rfl rfl rfl rfl hb8) rfl ?_
  exact ⟨rfl, (HB1.out.trans (HB2.out.mono HB1.out.size)).trans (hg8.below (Nat.le_trans HB1.out.size HB2.out.size) (fun q hq => by omega))⟩

end Go.Proofs.YtbddcodljmglfaaGreatDoor
