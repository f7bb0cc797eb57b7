/- lines.split, lines.Read. -/
import Derived.Test.YtbddcodljmglfaaGreatDoorAddFn
import Derived.Test.YtbddcodljmglfaaGreatDoorBox
set_option linter.unusedSimpArgs false
set_option linter.unusedVariables false
namespace Go.Proofs.YtbddcodljmglfaaGreatDoor
open Go.RowKit

set_option maxRecDepth 10000 in
/-- Words in a row of their own. -/
theorem split_words (w : World) (base : Nat) (s : BA) (k : Nat) (hk : k = 3 ∨ k = 4) (hs : s.size ≤ 4294967280) (hE : Env base w) :
    Calls Tryz.prog 158 #[.string s, .int .i64 (k : Int)] w fun e w' => ∃ cap, e = .returned (.slice (some ⟨w.heap.size, 0, none⟩) (cutsN 32 (k + 2) s).length cap) ∧ RdT w' 9 1 (.slice (some ⟨w.heap.size, 0, none⟩) (cutsN 32 (k + 2) s).length cap) (cutsN 32 (k + 2) s).length (strs (cutsN 32 (k + 2) s)) ∧ Below w.heap.size w w' ∧ w.heap.size < w'.heap.size := by
  have HC : Hid (Calls _ _ _ _ _) := splitN_any w base s 32 (k + 2) (by omega) (by omega) hs hE
  clear hE
  rcases hk with rfl | rfl
  all_goals generalize cutsN 32 _ s = L at *
  all_goals go_enter Tryz.func158, Tryz.ntmps158
  all_goals (go_wp2_with (first | (go_at_call 181; refine HC.out.mono ?_; rintro e w1 ⟨cap, hcap, rfl, cells, rfl, hcells⟩)))
  all_goals go_ret
  all_goals (refine ⟨cap, rfl, ⟨by rw [strs_length, Nat.mul_one], _, _, rfl, hcap, ?_⟩, (Below.refl _ _).alloc (Nat.le_refl _) _, by rw [World.size_alloc]; exact Nat.lt_succ_self _⟩)
  all_goals (refine .inr ⟨w.heap.size, 0, cells, (0, 0), rfl, heap_alloc_new _ _, fun j u hj => ?_⟩)
  all_goals (simp only [strs, List.getElem?_map, Option.map_eq_some_iff] at hj)
  all_goals (obtain ⟨x, hx, rfl⟩ := hj)
  all_goals (rw [Nat.zero_add]; exact hcells j x hx)

theorem aggLine : AggT 117 6 [.int .i64 0, .string ⟨#[]⟩, .int .i64 0, .slice none 0 0, .int .i64 0, .slice none 0 0] := ⟨⟨_, Tryz.underlying117, rfl⟩, by kernel_rfl, by kernel_rfl, rfl⟩

theorem run_index_parts {PV : Array Value} {i : Nat} {p : Int} (hi : i < 3) (hidx : PV[i]? = some (.int .i64 p)) (w : World) : (Instr.index 171 (.agg PV) (.int .i64 (i : Int))).run Tryz.prog w = .ok (.int .i64 p) w := by
  have hu : Tryz.prog.underlying 171 = some (.array 3 170) := by kernel_rfl
  have hn : (0 ≤ (i : Int) ∧ (i : Int) < 3) := by omega
  simp [Instr.index, run_underlying hu, asIntOf, hn, go_sem]
  rw [if_pos hi, hidx]
  rfl

theorem parts_len : ∀ k, k < 10 → (partsOf k).length ≤ 3 := by decide
theorem parts_at_fin : ∀ k : Fin 10, ∀ i : Fin 3, i.val ≤ (partsOf k.val).length → ∃ p ∈ [0, 1, 2, 3, 4], (parts3 k.val)[i.val]? = some p ∧ ((p = 0 ∧ (partsOf k.val).drop i.val = []) ∨ (p ≠ 0 ∧ (partsOf k.val).drop i.val = p :: (partsOf k.val).drop (i.val + 1))) := by decide
theorem parts_at {k i : Nat} (hk : k < 10) (hi : i < 3) (h : i ≤ (partsOf k).length) : ∃ p, p ≤ 4 ∧ (parts3 k)[i]? = some p ∧ ((p = 0 ∧ (partsOf k).drop i = []) ∨ (p ≠ 0 ∧ (partsOf k).drop i = p :: (partsOf k).drop (i + 1))) := by
  obtain ⟨p, hp, h1, h2⟩ := parts_at_fin ⟨k, hk⟩ ⟨i, hi⟩ h
  refine ⟨p, ?_, h1, h2⟩
  simp at hp
  omega

section
variable {w w' : World} {t : TypeId} {g off n cap : Nat} {x : Value} {xs : List Value}
theorem RdT.zero (w : World) (t : TypeId) (ao : Option Addr) (cap : Nat) : RdT w t 1 (.slice ao 0 cap) 0 [] := ⟨rfl, _, _, rfl, Nat.zero_le _, .inl rfl⟩
theorem RdT.tail (h : RdT w t 1 (.slice (some ⟨g, off, none⟩) (n + 1) cap) (n + 1) (x :: xs)) : RdT w t 1 (.slice (some ⟨g, off + 1, none⟩) n (cap - 1)) n xs := by
  obtain ⟨hl, ao, c, hv, hc, h⟩ := h
  injection hv with h1 h2 h3
  subst h3
  refine ⟨by simp at hl; omega, _, _, rfl, by omega, ?_⟩
  rcases h with h | ⟨g', off', cur, fr, ha, hg, hx⟩
  · omega
  · rw [← h1] at ha
    injection ha with ha
    injection ha with e1 e2
    subst e1
    subst e2
    refine .inr ⟨g, off + 1, cur, fr, rfl, hg, fun j u hj => ?_⟩
    have := hx (j + 1) u (by simpa using hj)
    rw [show off + 1 + j = off + (j + 1) by omega]
    exact this
end

theorem addPart_count {tg p : Nat} {b : BA} {l l' : LineG} {i : Nat} (h : addPart tg p b l = some l') (ht : l.takes.length ≤ i) (hl : l.leads.length ≤ i) : l'.takes.length ≤ i + 1 ∧ l'.leads.length ≤ i + 1 := by
  unfold addPart at h
  split at h
  · split at h
    · injection h with h; subst h; exact ⟨by simp; omega, by simp; omega⟩
    · cases h
  · split at h
    · split at h
      · injection h with h; subst h; exact ⟨by simp; omega, by simp; omega⟩
      · cases h
    · split at h
      · split at h
        · injection h with h; subst h; exact ⟨by simp; omega, by simp; omega⟩
        · cases h
      · split at h
        · injection h with h; subst h; exact ⟨by simp; omega, by simp; omega⟩
        · cases h
theorem fillG_len (tg : Nat) : ∀ (ps : List Nat) (bs : List BA) (l l' : LineG), fillG tg ps bs l = some l' → bs.length = ps.length
  | [], [], _, _, _ => rfl
  | [], _ :: _, _, _, h => by simp [fillG] at h
  | _ :: _, [], _, _, h => by simp [fillG] at h
  | p :: ps, b :: bs, l, l', h => by
    simp only [fillG] at h
    split at h
    · rename_i l2 _
      have := fillG_len tg ps bs l2 l' h
      simp [this]
    · cases h
theorem lineOf_len {tg : Nat} {ws : List BA} {l : LineG} (h : lineOf tg ws = some l) : ws.length ≤ 4 := by
  cases ws with
  | nil => simp
  | cons x r =>
    simp only [lineOf] at h
    split at h
    · rename_i k hk
      have h1 := fillG_len tg _ _ _ _ h
      have h2 := parts_len k (kindOf_lt hk)
      simp
      omega
    · cases h
theorem lineOf_cutsN (tg : Nat) (s : BA) : lineOf tg (cutsN 32 5 s) = lineOf tg (cuts 32 s) := by
  by_cases h : (cuts 32 s).length ≤ 5
  · rw [cutsN_eq 32 5 s (by omega) h]
  · have h1 := cutsN_few 32 5 s (by omega) (by omega)
    have a : lineOf tg (cutsN 32 5 s) = none := by
      cases hq : lineOf tg (cutsN 32 5 s) with
      | none => rfl
      | some l => have := lineOf_len hq; omega
    have b : lineOf tg (cuts 32 s) = none := by
      cases hq : lineOf tg (cuts 32 s) with
      | none => rfl
      | some l => have := lineOf_len hq; omega
    rw [a, b]
theorem cutsN_len (n : Nat) (s : BA) (hn : 1 ≤ n) : 1 ≤ (cutsN 32 n s).length ∧ (cutsN 32 n s).length ≤ n := by
  have hne := cuts_ne 32 s
  by_cases h : (cuts 32 s).length ≤ n
  · rw [cutsN_eq 32 n s hn h]
    refine ⟨?_, h⟩
    cases hq : cuts 32 s with
    | nil => exact absurd hq hne
    | cons x r => simp
  · have := (cutsN_few 32 n s hn (by omega)).1
    omega
theorem cutsN_size (n : Nat) (s : BA) : ∀ x ∈ cutsN 32 n s, x.size ≤ s.size := by
  intro x hx
  unfold cutsN at hx
  have aux : ∀ (k : Nat) (s : BA), ∀ x ∈ Lib.splitB ⟨#[32]⟩ 0 k s, x.size ≤ s.size := by
    intro k
    induction k with
    | zero => intro s x hx; simp [Lib.splitB] at hx; subst hx; omega
    | succ k ih =>
      intro s x hx
      unfold Lib.splitB at hx
      split at hx
      · simp at hx; subst hx; omega
      · rcases List.mem_cons.1 hx with rfl | hx
        · exact size_extract_le _ _ _
        · exact Nat.le_trans (ih _ _ hx) (size_extract_le _ _ _)
  exact aux _ _ x hx

/-- What Read hands back. -/
structure LineOut (w : World) (base : Nat) (l : LineG) (v : Value) (tv lv : Value) : Prop where
  val : v = .agg (lineCells l tv lv)
  takes : OwnS w base 111 2 tv l.takes.length (vers l.takes)
  leads : OwnS w base 3 1 lv l.leads.length (nums l.leads)
  few : l.takes.length ≤ 3 ∧ l.leads.length ≤ 3

theorem words_after {w w1 : World} {N cap : Nat} {x0 : BA} {L' : List BA} {zs : List Value} {t : TypeId} (hrd : RdT w1 9 1 (.slice (some ⟨(w.alloc (.cells zs.toArray t)).heap.size, 0, none⟩) (N + 1) cap) (N + 1) (strs (x0 :: L')))
    (hb : Below (w.alloc (.cells zs.toArray t)).heap.size (w.alloc (.cells zs.toArray t)) w1) (hlt : (w.alloc (.cells zs.toArray t)).heap.size < w1.heap.size) :
    w1.cell? ⟨w.heap.size + 1, 0, none⟩ = some (.string x0) ∧ N + 1 ≤ cap ∧ RdT w1 9 1 (.slice (some ⟨w.heap.size + 1, 0, none⟩) (N + 1) cap) (N + 1) (strs (x0 :: L')) ∧ BoxIn w1 w.heap.size t zs ∧ w.heap.size + 2 ≤ w1.heap.size ∧ Below w.heap.size w w1 := by
  have e : (w.alloc (.cells zs.toArray t)).heap.size = w.heap.size + 1 := by simp
  rw [e] at hrd
  rw [e] at hlt
  obtain ⟨ao, cp, e1, hcap, hcell⟩ := hrd.cell
  injection e1 with e1 e2 e3
  subst e3
  obtain ⟨g, off, e4, _, hcell⟩ := hcell (by omega)
  rw [← e1] at e4
  injection e4 with e4
  injection e4 with e5 e6
  subst e5
  subst e6
  refine ⟨hcell 0 _ rfl, hcap, hrd, (BoxIn.new w t zs).below hb, by omega, ((Below.refl _ _).alloc (Nat.le_refl _) _).trans (hb.mono (by simp))⟩

/-- A value of the type Line, whatever it says. -/
def IsLine (v : Value) : Prop := ∃ cs : List Value, v = .agg cs.toArray ∧ cs.length = 6 ∧ cs.toArray.all (·.oneCell') = true

abbrev zLine : List Value := [.int .i64 0, .string ⟨#[]⟩, .int .i64 0, .slice none 0 0, .int .i64 0, .slice none 0 0]
theorem one_zLine : zLine.toArray.all (·.oneCell') = true := by simp [Value.oneCell']
theorem isLine_z : IsLine (.agg zLine.toArray) := ⟨_, rfl, rfl, one_zLine⟩
theorem one_line (l : LineG) {ao1 ao2 : Option Addr} {n1 n2 c1 c2 : Nat} : (lineCells l (.slice ao1 n1 c1) (.slice ao2 n2 c2)).toList.toArray.all (·.oneCell') = true := by simp [lineCells, Value.oneCell']

set_option maxRecDepth 100000 in
set_option maxHeartbeats 8000000 in
theorem read_some (w : World) (base0 : Nat) (tg : Nat) (htg : tg = 0 ∨ tg = 1) (s : BA) (hs : s.size ≤ 4294967280) (hE : Env base0 w) (x0 : BA) (L' : List BA) (hL : cutsN 32 5 s = x0 :: L') (k : Nat) (hk : kindOf x0 = some k) :
    Calls Tryz.prog 161 #[.string s, .int .i64 (tg : Int)] w fun e w' => (∃ v, e = .returned (.tuple #[v, .bool (fillG tg (partsOf k) L' ⟨k, noVer, [], 0, []⟩).isSome]) ∧ IsLine v ∧ ∀ l, fillG tg (partsOf k) L' ⟨k, noVer, [], 0, []⟩ = some l → ∃ tv lv, LineOut w' (w.heap.size + 1) l v tv lv) ∧ Below w.heap.size w w' := by
  have HE : Hid (Env base0 w) := hE
  have hlen := cutsN_len 5 s (by omega)
  have hsz0 := cutsN_size 5 s
  rw [hL] at hlen hsz0
  have HSZ : Hid (∀ x ∈ L', x.size ≤ 4294967280) := fun x hx => Nat.le_trans (hsz0 x (by simp [hx])) hs
  obtain ⟨N, hN⟩ : ∃ N, N = L'.length := ⟨_, rfl⟩
  have HN : Hid (N = L'.length) := hN
  have HC : Hid (∀ w1, Env base0 w1 → Calls Tryz.prog 158 #[.string s, .int .i64 3] w1 fun e w' => ∃ cap, e = .returned (.slice (some ⟨w1.heap.size, 0, none⟩) (N + 1) cap) ∧ RdT w' 9 1 (.slice (some ⟨w1.heap.size, 0, none⟩) (N + 1) cap) (N + 1) (strs (x0 :: L')) ∧ Below w1.heap.size w1 w' ∧ w1.heap.size < w'.heap.size) := by
    intro w1 h
    have := split_words w1 base0 s 3 (by omega) hs h
    rw [show 3 + 2 = 5 from rfl, hL, List.length_cons, ← hN] at this
    exact this
  have hN5 : N ≤ 4 := by simp at hlen; omega
  have hk10 := kindOf_lt hk
  have hpl := parts_len k hk10
  clear hL hE hN hlen hsz0
  go_enter Tryz.func161, Tryz.ntmps161
  go_wp2_with (first
    | (go_at_call 158; refine (HC.out _ (HE.out.below ((Below.refl _ _).alloc (Nat.le_refl _) _))).mono ?_; rintro e w1 ⟨cap, rfl, hrd0, hb0, hlt0⟩; obtain ⟨c0, hcap, hrd1, HB0, hsz, hbel0⟩ := words_after (zs := zLine) hrd0 hb0 hlt0; have hrd : Hid (RdT w1 9 1 (.slice (some ⟨w.heap.size + 1, 0, none⟩) (N + 1) cap) (N + 1) (strs (x0 :: L'))) := hrd1; have HB1 : Hid (BoxIn w1 w.heap.size 117 zLine) := HB0; have hbel1 : Hid (Below w.heap.size w w1) := hbel0; clear hrd0 hb0 hlt0 hrd1 HB0 hbel0)
    | (go_at_call 187; refine (find_any _ _).mono ?_; rintro e w1 ⟨rfl, rfl⟩; rw [hk, Option.getD_some, Option.isSome_some])
    | (go_at_call 188; refine (parts_any _ k hk10).mono ?_; rintro e w3 ⟨rfl, o, rfl⟩))
  · obtain ⟨PV, hpv⟩ : ∃ PV, (nums (parts3 k)).toArray = PV := ⟨_, rfl⟩
    have HPV : Hid ((nums (parts3 k)).toArray = PV) := hpv
    rw [hpv]
    clear hpv
    go_loopg [10, 31] 3 (fun g v10 v31 wr => ∃ (i : Nat) (l : LineG) (tv lv : Value) (n : Nat), i + g = 3 ∧ v31 = .int .i64 i ∧ i + n = N ∧ Hid (RdT wr 9 1 v10 n (strs (L'.drop i))) ∧ Hid (LineIn wr (w.heap.size + 1) w1.heap.size l tv lv) ∧ Hid (BoxIn wr w.heap.size 117 zLine) ∧ Hid (Below w.heap.size w wr) ∧ Hid (fillG tg (partsOf k) L' ⟨k, noVer, [], 0, []⟩ = fillG tg ((partsOf k).drop i) (L'.drop i) l) ∧ i ≤ (partsOf k).length ∧ l.takes.length ≤ i ∧ l.leads.length ≤ i)
    case atStart =>
      refine ⟨0, ⟨k, noVer, [], 0, []⟩, .slice none 0 0, .slice none 0 0, N, by omega, rfl, by omega, ?_, ?_, ?_, ?_, rfl, by omega, by simp, by simp⟩
      · have : N = 0 := by omega
        subst this
        rw [List.drop_zero, List.eq_nil_of_length_eq_zero (show L'.length = 0 from HN.out.symm)]
        exact RdT.zero _ _ _ _
      · refine ⟨?_, by omega, OwnS.nil _ _ _ _, OwnS.nil _ _ _ _, by simp⟩
        rw [Below.heap_alloc _ _ _ (by simp), heap_alloc_new]
        rfl
      · exact (HB1.out.below ((Below.refl _ _).alloc (Nat.le_refl _) _)).below ((Below.refl _ _).alloc (Nat.le_refl _) _)
      · exact (hbel1.out.alloc (by omega) _).alloc (by simp; omega) _
    case round =>
      obtain ⟨i, l, tv, lv, n, hig, rfl, hin, hrd9, HL, HB, hbel, hfill, hip, ht, hl⟩ := hrel
      have hszr := hbel.out.size
      have HF : Hid (RdT wr 9 1 _ n (strs (L'.drop i))) := hrd9
      obtain ⟨ao, cp, rfl, hcp, hcell⟩ := hrd9.out.cell
      clear hrd HB1 hbel1 c0 hrd9
      by_cases hend : i = 3 ∨ (partsOf k).drop i = []
      · have hdrop : (partsOf k).drop i = [] := by
          rcases hend with h | h
          · exact List.drop_eq_nil_of_le (by omega)
          · exact h
        obtain ⟨ao1, cp1, rfl⟩ := HL.out.takes.len
        obtain ⟨ao2, cp2, rfl⟩ := HL.out.leads.len
        have HBL : Hid (BoxIn wr w1.heap.size 117 (lineCells l (.slice ao1 l.takes.length cp1) (.slice ao2 l.leads.length cp2)).toList) := HL.out.box
        have hfin : Hid (∀ w6, Grew wr w6 (fun k => k = w.heap.size) → BoxIn w6 w.heap.size 117 (lineCells l (.slice ao1 l.takes.length cp1) (.slice ao2 l.leads.length cp2)).toList →
            (∃ v, (Ending.returned (.tuple #[.agg (lineCells l (.slice ao1 l.takes.length cp1) (.slice ao2 l.leads.length cp2)).toList.toArray, .bool (decide ((n : Int) = 0))])) = .returned (.tuple #[v, .bool (fillG tg (partsOf k) L' ⟨k, noVer, [], 0, []⟩).isSome]) ∧ IsLine v ∧ ∀ l, fillG tg (partsOf k) L' ⟨k, noVer, [], 0, []⟩ = some l → ∃ tv lv, LineOut w6 (w.heap.size + 1) l v tv lv) ∧ Below w.heap.size w w6) := by
          intro w6 hg6 hb6
          refine ⟨⟨.agg (lineCells l (.slice ao1 l.takes.length cp1) (.slice ao2 l.leads.length cp2)).toList.toArray, ?_, ⟨_, rfl, rfl, one_line _⟩, fun l' hl' => ?_⟩, hbel.out.trans (hg6.below hszr (fun k hk => by omega))⟩
          · rw [hfill.out, hdrop]
            by_cases hn0 : n = 0
            · have hd : L'.drop i = [] := List.drop_eq_nil_of_le (by have := HN.out; omega)
              rw [hd]
              simp [fillG, hn0]
            · cases hd : L'.drop i with
              | nil => have := List.drop_eq_nil_iff.1 hd; have := HN.out; omega
              | cons x r => simp [fillG, hn0]
          · rw [hfill.out, hdrop] at hl'
            cases hd : L'.drop i with
            | cons x r => rw [hd] at hl'; simp [fillG] at hl'
            | nil =>
              rw [hd] at hl'
              simp [fillG] at hl'
              subst hl'
              refine ⟨_, _, rfl, ?_, ?_, HL.out.few⟩
              · exact HL.out.takes.of_block fun k hk => hg6.block k (by have := (HL.out.takes.lt k hk).1; omega) (HL.out.takes.lt k hk).2
              · exact HL.out.leads.of_block fun k hk => hg6.block k (by have := (HL.out.leads.lt k hk).1; omega) (HL.out.leads.lt k hk).2
        by_cases hi3 : i < 3
        · obtain ⟨p, hp4, hp, hpd⟩ := parts_at hk10 hi3 hip
          rcases hpd with ⟨rfl, _⟩ | ⟨hp0, hpd⟩
          · have hidx : PV[i]? = some (.int .i64 ((0 : Nat) : Int)) := by
              rw [← HPV.out]
              simp [nums, hp]
            have hrun := run_index_parts hi3 hidx
            clear hidx hend
            go_wp2_with (first
              | (refine wpList_load_box aggLine rfl _ rfl _ rfl _ rfl HBL.out ?_)
              | (refine wpList_store_box aggLine rfl _ _ rfl _ rfl _ _ rfl HB.out rfl rfl (one_line _) ?_; intro w6 hb6 hg6 hs6))
            refine bodyPost_ret (results_box2 aggLine Tryz.results161 rfl rfl rfl hb6) rfl ?_
            exact hfin.out w6 hg6 hb6
          · rw [hdrop] at hpd; cases hpd
        · have hi9 : i = 3 := by omega
          subst hi9
          clear hend
          go_wp2_with (first
            | (refine wpList_load_box aggLine rfl _ rfl _ rfl _ rfl HBL.out ?_)
            | (refine wpList_store_box aggLine rfl _ _ rfl _ rfl _ _ rfl HB.out rfl rfl (one_line _) ?_; intro w6 hb6 hg6 hs6))
          refine bodyPost_ret (results_box2 aggLine Tryz.results161 rfl rfl rfl hb6) rfl ?_
          exact hfin.out w6 hg6 hb6
      · have hi3 : i < 3 := by
          have := hip
          omega
        obtain ⟨p, hp4, hp, hpd⟩ := parts_at hk10 hi3 hip
        rcases hpd with ⟨_, h⟩ | ⟨hp0, hpd⟩
        · exact absurd (.inr h) hend
        · have hidx : PV[i]? = some (.int .i64 (p : Int)) := by
            rw [← HPV.out]
            simp [nums, hp]
          have hrun := run_index_parts hi3 hidx
          clear hidx hend
          by_cases hn0 : n = 0
          · subst hn0
            have hno : Hid (fillG tg (partsOf k) L' ⟨k, noVer, [], 0, []⟩ = none) := by
              show _ = _
              have hd : L'.drop i = [] := List.drop_eq_nil_of_le (by have := HN.out; omega)
              rw [hfill.out, hpd, hd]
              rfl
            go_wp2_with (first | (refine wpList_store_box aggLine rfl _ _ rfl _ rfl _ zLine rfl HB.out rfl rfl one_zLine ?_; intro w6 hb6 hg6 hs6))
            refine bodyPost_ret (results_box2 aggLine Tryz.results161 rfl rfl rfl hb6) rfl ?_
            exact ⟨⟨_, by rw [hno.out]; rfl, isLine_z, fun l h => by rw [hno.out] at h; cases h⟩, hbel.out.trans (hg6.below hszr (fun k hk => by omega))⟩
          · exfalso
            omega
  · obtain ⟨PV, hpv⟩ : ∃ PV, (nums (parts3 k)).toArray = PV := ⟨_, rfl⟩
    have HPV : Hid ((nums (parts3 k)).toArray = PV) := hpv
    rw [hpv]
    clear hpv
    go_loopg [10, 31] 3 (fun g v10 v31 wr => ∃ (i : Nat) (l : LineG) (tv lv : Value) (n : Nat), i + g = 3 ∧ v31 = .int .i64 i ∧ i + n = N ∧ Hid (RdT wr 9 1 v10 n (strs (L'.drop i))) ∧ Hid (LineIn wr (w.heap.size + 1) w1.heap.size l tv lv) ∧ Hid (BoxIn wr w.heap.size 117 zLine) ∧ Hid (Below w.heap.size w wr) ∧ Hid (fillG tg (partsOf k) L' ⟨k, noVer, [], 0, []⟩ = fillG tg ((partsOf k).drop i) (L'.drop i) l) ∧ i ≤ (partsOf k).length ∧ l.takes.length ≤ i ∧ l.leads.length ≤ i)
    case atStart =>
      refine ⟨0, ⟨k, noVer, [], 0, []⟩, .slice none 0 0, .slice none 0 0, N, by omega, rfl, by omega, ?_, ?_, ?_, ?_, rfl, by omega, by simp, by simp⟩
      · exact (hrd.out.tail.below ((Below.refl _ _).alloc (Nat.le_refl _) _)).below ((Below.refl _ _).alloc (Nat.le_refl _) _)
      · refine ⟨?_, by omega, OwnS.nil _ _ _ _, OwnS.nil _ _ _ _, by simp⟩
        rw [Below.heap_alloc _ _ _ (by simp), heap_alloc_new]
        rfl
      · exact (HB1.out.below ((Below.refl _ _).alloc (Nat.le_refl _) _)).below ((Below.refl _ _).alloc (Nat.le_refl _) _)
      · exact (hbel1.out.alloc (by omega) _).alloc (by simp; omega) _
    case round =>
      obtain ⟨i, l, tv, lv, n, hig, rfl, hin, hrd9, HL, HB, hbel, hfill, hip, ht, hl⟩ := hrel
      have hszr := hbel.out.size
      have HF : Hid (RdT wr 9 1 _ n (strs (L'.drop i))) := hrd9
      obtain ⟨ao, cp, rfl, hcp, hcell⟩ := hrd9.out.cell
      clear hrd HB1 hbel1 c0 hrd9
      by_cases hend : i = 3 ∨ (partsOf k).drop i = []
      · have hdrop : (partsOf k).drop i = [] := by
          rcases hend with h | h
          · exact List.drop_eq_nil_of_le (by omega)
          · exact h
        obtain ⟨ao1, cp1, rfl⟩ := HL.out.takes.len
        obtain ⟨ao2, cp2, rfl⟩ := HL.out.leads.len
        have HBL : Hid (BoxIn wr w1.heap.size 117 (lineCells l (.slice ao1 l.takes.length cp1) (.slice ao2 l.leads.length cp2)).toList) := HL.out.box
        have hfin : Hid (∀ w6, Grew wr w6 (fun k => k = w.heap.size) → BoxIn w6 w.heap.size 117 (lineCells l (.slice ao1 l.takes.length cp1) (.slice ao2 l.leads.length cp2)).toList →
            (∃ v, (Ending.returned (.tuple #[.agg (lineCells l (.slice ao1 l.takes.length cp1) (.slice ao2 l.leads.length cp2)).toList.toArray, .bool (decide ((n : Int) = 0))])) = .returned (.tuple #[v, .bool (fillG tg (partsOf k) L' ⟨k, noVer, [], 0, []⟩).isSome]) ∧ IsLine v ∧ ∀ l, fillG tg (partsOf k) L' ⟨k, noVer, [], 0, []⟩ = some l → ∃ tv lv, LineOut w6 (w.heap.size + 1) l v tv lv) ∧ Below w.heap.size w w6) := by
          intro w6 hg6 hb6
          refine ⟨⟨.agg (lineCells l (.slice ao1 l.takes.length cp1) (.slice ao2 l.leads.length cp2)).toList.toArray, ?_, ⟨_, rfl, rfl, one_line _⟩, fun l' hl' => ?_⟩, hbel.out.trans (hg6.below hszr (fun k hk => by omega))⟩
          · rw [hfill.out, hdrop]
            by_cases hn0 : n = 0
            · have hd : L'.drop i = [] := List.drop_eq_nil_of_le (by have := HN.out; omega)
              rw [hd]
              simp [fillG, hn0]
            · cases hd : L'.drop i with
              | nil => have := List.drop_eq_nil_iff.1 hd; have := HN.out; omega
              | cons x r => simp [fillG, hn0]
          · rw [hfill.out, hdrop] at hl'
            cases hd : L'.drop i with
            | cons x r => rw [hd] at hl'; simp [fillG] at hl'
            | nil =>
              rw [hd] at hl'
              simp [fillG] at hl'
              subst hl'
              refine ⟨_, _, rfl, ?_, ?_, HL.out.few⟩
              · exact HL.out.takes.of_block fun k hk => hg6.block k (by have := (HL.out.takes.lt k hk).1; omega) (HL.out.takes.lt k hk).2
              · exact HL.out.leads.of_block fun k hk => hg6.block k (by have := (HL.out.leads.lt k hk).1; omega) (HL.out.leads.lt k hk).2
        by_cases hi3 : i < 3
        · obtain ⟨p, hp4, hp, hpd⟩ := parts_at hk10 hi3 hip
          rcases hpd with ⟨rfl, _⟩ | ⟨hp0, hpd⟩
          · have hidx : PV[i]? = some (.int .i64 ((0 : Nat) : Int)) := by
              rw [← HPV.out]
              simp [nums, hp]
            have hrun := run_index_parts hi3 hidx
            clear hidx hend
            go_wp2_with (first
              | (refine wpList_load_box aggLine rfl _ rfl _ rfl _ rfl HBL.out ?_)
              | (refine wpList_store_box aggLine rfl _ _ rfl _ rfl _ _ rfl HB.out rfl rfl (one_line _) ?_; intro w6 hb6 hg6 hs6))
            refine bodyPost_ret (results_box2 aggLine Tryz.results161 rfl rfl rfl hb6) rfl ?_
            exact hfin.out w6 hg6 hb6
          · rw [hdrop] at hpd; cases hpd
        · have hi9 : i = 3 := by omega
          subst hi9
          clear hend
          go_wp2_with (first
            | (refine wpList_load_box aggLine rfl _ rfl _ rfl _ rfl HBL.out ?_)
            | (refine wpList_store_box aggLine rfl _ _ rfl _ rfl _ _ rfl HB.out rfl rfl (one_line _) ?_; intro w6 hb6 hg6 hs6))
          refine bodyPost_ret (results_box2 aggLine Tryz.results161 rfl rfl rfl hb6) rfl ?_
          exact hfin.out w6 hg6 hb6
      · have hi3 : i < 3 := by
          have := hip
          omega
        obtain ⟨p, hp4, hp, hpd⟩ := parts_at hk10 hi3 hip
        rcases hpd with ⟨_, h⟩ | ⟨hp0, hpd⟩
        · exact absurd (.inr h) hend
        · have hidx : PV[i]? = some (.int .i64 (p : Int)) := by
            rw [← HPV.out]
            simp [nums, hp]
          have hrun := run_index_parts hi3 hidx
          clear hidx hend
          by_cases hn0 : n = 0
          · subst hn0
            have hno : Hid (fillG tg (partsOf k) L' ⟨k, noVer, [], 0, []⟩ = none) := by
              show _ = _
              have hd : L'.drop i = [] := List.drop_eq_nil_of_le (by have := HN.out; omega)
              rw [hfill.out, hpd, hd]
              rfl
            go_wp2_with (first | (refine wpList_store_box aggLine rfl _ _ rfl _ rfl _ zLine rfl HB.out rfl rfl one_zLine ?_; intro w6 hb6 hg6 hs6))
            refine bodyPost_ret (results_box2 aggLine Tryz.results161 rfl rfl rfl hb6) rfl ?_
            exact ⟨⟨_, by rw [hno.out]; rfl, isLine_z, fun l h => by rw [hno.out] at h; cases h⟩, hbel.out.trans (hg6.below hszr (fun k hk => by omega))⟩
          · obtain ⟨x, r, hx⟩ : ∃ x r, L'.drop i = x :: r := by
              cases hd : L'.drop i with
              | nil => have := List.drop_eq_nil_iff.1 hd; have := HN.out; omega
              | cons x r => exact ⟨x, r, rfl⟩
            have hr : Hid (L'.drop (i + 1) = r) := by
              show _ = _
              rw [← List.drop_drop, hx]
              rfl
            obtain ⟨g, off, rfl, hglt, hcell⟩ := hcell (by omega)
            have cx : wr.cell? ⟨g, off, none⟩ = some (.string x) := hcell 0 _ (by rw [hx]; rfl)
            have hxs : x.size ≤ 4294967280 := HSZ.out x (List.mem_of_mem_drop (by rw [hx]; simp))
            have hR : Hid (RdT wr 9 1 (.slice (some ⟨g, off, none⟩) n cp) n (.string x :: strs r)) := by
              have := HF.out
              rw [hx] at this
              exact this
            have hfl : Hid (fillG tg (partsOf k) L' ⟨k, noVer, [], 0, []⟩ = match addPart tg p x l with | some l' => fillG tg ((partsOf k).drop (i + 1)) r l' | none => none) := by
              show _ = _
              rw [hfill.out, hpd, hx]
              rfl
            have HADD : Hid (Calls _ _ _ _ _) := add_any wr base0 (w.heap.size + 1) w1.heap.size tg htg l tv lv p (by omega) x hxs (HE.out.keep (hbel.out.mono HE.out.size)) (by have := HL.out.le; have := blk_lt HL.out.box; omega) HL.out (by omega)
            clear hcell HF hfill hx
            have hn1 : (0 : Int) < (n : Int) := by omega
            cases hadd : addPart tg p x l with
            | none =>
              have hno : Hid (fillG tg (partsOf k) L' ⟨k, noVer, [], 0, []⟩ = none) := by
                show _ = _
                rw [hfl.out, hadd]
              rw [hadd] at HADD
              go_wp2_with (first
                | (go_at_call 189; refine HADD.out.mono ?_; rintro e w5 ⟨rfl, -, hb5, -⟩; have HB5 : Hid (BoxIn w5 w.heap.size 117 zLine) := HB.out.of_block (hb5.block _ (by omega)); have hbl5 : Hid (Below w.heap.size w w5) := hbel.out.trans (hb5.mono (by omega)); clear hb5)
                | (refine wpList_store_box aggLine rfl _ _ rfl _ rfl _ zLine rfl HB5.out rfl rfl one_zLine ?_; intro w6 hb6 hg6 hs6))
              refine bodyPost_ret (results_box2 aggLine Tryz.results161 rfl rfl rfl hb6) rfl ?_
              exact ⟨⟨_, by rw [hno.out]; rfl, isLine_z, fun l h => by rw [hno.out] at h; cases h⟩, hbl5.out.trans (hg6.below hbl5.out.size (fun k hk => by omega))⟩
            | some l2 =>
              rw [hadd] at HADD
              have hfl2 : Hid (fillG tg (partsOf k) L' ⟨k, noVer, [], 0, []⟩ = fillG tg ((partsOf k).drop (i + 1)) r l2) := by
                show _ = _
                rw [hfl.out, hadd]
              have hcnt : l2.takes.length ≤ i + 1 ∧ l2.leads.length ≤ i + 1 := addPart_count hadd ht hl
              have hip1 : i + 1 ≤ (partsOf k).length := by
                have := congrArg List.length hpd
                simp at this
                omega
              go_wp2_with (first
                | (go_at_call 189; refine HADD.out.mono ?_; rintro e w5 ⟨rfl, hl5, hb5, hk5⟩; obtain ⟨tv5, lv5, hl5⟩ := hl5 l2 rfl; have HL5 : Hid (LineIn w5 (w.heap.size + 1) w1.heap.size l2 tv5 lv5) := hl5; have HB5 : Hid (BoxIn w5 w.heap.size 117 zLine) := HB.out.of_block (hb5.block _ (by omega)); have hbl5 : Hid (Below w.heap.size w w5) := hbel.out.trans (hb5.mono (by omega)); have hR5 : Hid (RdT w5 9 1 (.slice (some ⟨g, off, none⟩) n cp) n (.string x :: strs r)) := hR.out.keep hk5; clear hb5 hk5 hl5))
              all_goals (obtain ⟨m, rfl⟩ : ∃ m, n = m + 1 := ⟨n - 1, by omega⟩)
              · have hm0 : m = 0 := by omega
                subst hm0
                go_roundg (3 - (i + 1))
                case measure => omega
                case rel =>
                  refine ⟨i + 1, l2, tv5, lv5, 0, by omega, by go_num, by omega, ?_, HL5, HB5, hbl5, ?_, hip1, hcnt.1, hcnt.2⟩
                  · have hd : r = [] := by
                      have := hR5.out.1
                      simpa [strs] using this
                    show RdT _ _ _ _ _ _
                    rw [hr.out, hd]
                    exact RdT.zero _ _ _ _
                  · show _ = _
                    rw [hr.out]
                    exact hfl2.out
              · go_roundg (3 - (i + 1))
                case measure => omega
                case rel =>
                  refine ⟨i + 1, l2, tv5, lv5, m, by omega, by go_num, by omega, ?_, HL5, HB5, hbl5, ?_, hip1, hcnt.1, hcnt.2⟩
                  · show RdT _ _ _ _ _ _
                    rw [hr.out]
                    exact hR5.out.tail
                  · show _ = _
                    rw [hr.out]
                    exact hfl2.out

set_option maxRecDepth 100000 in
set_option maxHeartbeats 8000000 in
theorem read_none (w : World) (base0 : Nat) (tg : Nat) (s : BA) (hs : s.size ≤ 4294967280) (hE : Env base0 w) (x0 : BA) (L' : List BA) (hL : cutsN 32 5 s = x0 :: L') (hk : kindOf x0 = none) :
    Calls Tryz.prog 161 #[.string s, .int .i64 (tg : Int)] w fun e w' => (∃ v, e = .returned (.tuple #[v, .bool false]) ∧ IsLine v) ∧ Below w.heap.size w w' := by
  have HE : Hid (Env base0 w) := hE
  obtain ⟨N, hN⟩ : ∃ N, N = L'.length := ⟨_, rfl⟩
  have HC : Hid (∀ w1, Env base0 w1 → Calls Tryz.prog 158 #[.string s, .int .i64 3] w1 fun e w' => ∃ cap, e = .returned (.slice (some ⟨w1.heap.size, 0, none⟩) (N + 1) cap) ∧ RdT w' 9 1 (.slice (some ⟨w1.heap.size, 0, none⟩) (N + 1) cap) (N + 1) (strs (x0 :: L')) ∧ Below w1.heap.size w1 w' ∧ w1.heap.size < w'.heap.size) := by
    intro w1 h
    have := split_words w1 base0 s 3 (by omega) hs h
    rw [show 3 + 2 = 5 from rfl, hL, List.length_cons, ← hN] at this
    exact this
  clear hL hE hN
  go_enter Tryz.func161, Tryz.ntmps161
  go_wp2_with (first
    | (go_at_call 158; refine (HC.out _ (HE.out.below ((Below.refl _ _).alloc (Nat.le_refl _) _))).mono ?_; rintro e w1 ⟨cap, rfl, hrd0, hb0, hlt0⟩; obtain ⟨c0, hcap, hrd1, HB0, hsz, hbel0⟩ := words_after (zs := zLine) hrd0 hb0 hlt0; have HB1 : Hid (BoxIn w1 w.heap.size 117 zLine) := HB0; have hbel1 : Hid (Below w.heap.size w w1) := hbel0; clear hrd0 hb0 hlt0 hrd1 HB0 hbel0)
    | (go_at_call 187; refine (find_any _ _).mono ?_; rintro e w1 ⟨rfl, rfl⟩; rw [hk])
    | (refine wpList_store_box aggLine rfl _ _ rfl _ rfl _ zLine rfl HB1.out rfl rfl one_zLine ?_; intro w6 hb6 hg6 hs6))
  refine bodyPost_ret (results_box2 aggLine Tryz.results161 rfl rfl rfl hb6) rfl ?_
  exact ⟨⟨_, rfl, isLine_z⟩, hbel1.out.trans (hg6.below hbel1.out.size (fun k hk => by omega))⟩

/-- A line within a block. -/
theorem read_any (w : World) (base0 : Nat) (tg : Nat) (htg : tg = 0 ∨ tg = 1) (s : BA) (hs : s.size ≤ 4294967280) (hE : Env base0 w) :
    Calls Tryz.prog 161 #[.string s, .int .i64 (tg : Int)] w fun e w' => (∃ v, e = .returned (.tuple #[v, .bool (lineOf tg (cuts 32 s)).isSome]) ∧ IsLine v ∧ ∀ l, lineOf tg (cuts 32 s) = some l → ∃ tv lv, LineOut w' (w.heap.size + 1) l v tv lv) ∧ Below w.heap.size w w' := by
  rw [← lineOf_cutsN]
  have hlen := cutsN_len 5 s (by omega)
  cases hL : cutsN 32 5 s with
  | nil => rw [hL] at hlen; simp at hlen
  | cons x0 L' =>
    cases hk : kindOf x0 with
    | some k =>
      have e : lineOf tg (x0 :: L') = fillG tg (partsOf k) L' ⟨k, noVer, [], 0, []⟩ := by simp only [lineOf, hk]
      rw [e]
      exact read_some w base0 tg htg s hs hE x0 L' hL k hk
    | none =>
      have e : lineOf tg (x0 :: L') = none := by simp only [lineOf, hk]
      rw [e]
      refine (read_none w base0 tg s hs hE x0 L' hL hk).mono ?_
      rintro e' w' ⟨⟨v, rfl, hv⟩, hb⟩
      exact ⟨⟨v, rfl, hv, fun l h => by cases h⟩, hb⟩

end Go.Proofs.YtbddcodljmglfaaGreatDoor
