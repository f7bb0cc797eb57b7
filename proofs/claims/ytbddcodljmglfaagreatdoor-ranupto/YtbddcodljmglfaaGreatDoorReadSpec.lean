/- What a text says, line by line: of no program's run. -/
import Derived.Test.YtbddcodljmglfaaGreatDoorCutMath
set_option linter.unusedSimpArgs false
set_option linter.unusedVariables false
namespace Go.Proofs.YtbddcodljmglfaaGreatDoor

/-- A phi: what it sets, and for each block ahead what it takes. -/
structure PhiG where
  sets : Ver
  choices : List (Nat × Ver)
structure BlockG where
  first : Nat
  phis : List PhiG
  lines : List LineG

def choiceOf (s : BA) : Option (Nat × Ver) :=
  match blkB (cutHead 58 s) with
  | some n => (match readVer 1 (cutTail 58 s) with | some v => some (n, v) | none => none)
  | none => none
def choicesOf : List BA → Option (List (Nat × Ver))
  | [] => some []
  | b :: r => match choiceOf b with
    | some c => (match choicesOf r with | some l => some (c :: l) | none => none)
    | none => none
/-- A phi, by its words; of its choices only so many are kept. -/
def phiOf : List BA → Option PhiG
  | p :: v :: cs => if ByteArray.toList p = [112, 104, 105] then (match readVer 1 v with
      | some sv => (match choicesOf cs with | some l => some ⟨sv, l.take 41⟩ | none => none)
      | none => none) else none
  | _ => none

/-- A program, as far as it is read: the blocks that have ended, and the one that is open. -/
structure PG where
  args : List Ver
  closed : List BlockG
  cur : Option BlockG

/-- A line within a block: the block with it, and whether it ends there. -/
def inB (tg : Nat) (b : BlockG) (s : BA) : Option (BlockG × Bool) :=
  match (if tg = 1 ∧ b.lines.length = 0 then phiOf (cuts 32 s) else none) with
  | some ph => some ({ b with phis := b.phis ++ [ph] }, false)
  | none => match lineOf tg (cuts 32 s) with
    | some l => some ({ b with lines := b.lines ++ [l] }, endsK l.word)
    | none => none

def stepL (tg mb i : Nat) (s : BA) (p : PG) : Option PG :=
  if i = 0 then (match argsOf tg (cuts 32 s) with | some a => some { p with args := a } | none => none)
  else match p.cur with
    | some b => (match inB tg b s with
      | some (b', true) => some { p with closed := p.closed ++ [b'], cur := none }
      | some (b', false) => some { p with cur := some b' }
      | none => none)
    | none => if ByteArray.toList s = [98, 108, 111, 99, 107] ∧ p.closed.length < mb then some { p with cur := some ⟨i + 1, [], []⟩ } else none

/-- All lines; the number of the line by which it is seen that they are none. -/
def runL (tg mb : Nat) : Nat → List BA → PG → Except Nat PG
  | i, [], p => if p.cur.isNone = true ∧ p.closed.length ≠ 0 then .ok p else .error i
  | i, s :: r, p => match stepL tg mb i s p with | some p' => runL tg mb (i + 1) r p' | none => .error i

def lostB (n : Nat) (b : BlockG) (j : Nat) : List LineG → Option Nat
  | [] => none
  | l :: r => if l.leads.any (fun k => decide (n ≤ k)) = true then some (b.first + b.phis.length + j) else lostB n b (j + 1) r
/-- The first line that leads to a block that there is not. -/
def lostG (n : Nat) : List BlockG → Option Nat
  | [] => none
  | b :: r => match lostB n b 0 b.lines with | some i => some i | none => lostG n r

def named (l : List Ver) (v : Ver) : List Ver := if v.1.size = 0 then l else if verHas l v = true then l else l ++ [v]
def namedAll (l : List Ver) (vs : List Ver) : List Ver := vs.foldl named l
def crowdB (b : BlockG) (names : List Ver) (j : Nat) : List LineG → Nat ⊕ List Ver
  | [] => .inr names
  | l :: r => if 8 < (namedAll names (l.sets :: l.takes)).length then .inl (b.first + b.phis.length + j) else crowdB b (namedAll names (l.sets :: l.takes)) (j + 1) r
/-- The first line that has a ninth name. -/
def crowdG (names : List Ver) : List BlockG → Option Nat
  | [] => none
  | b :: r => match crowdB b names 0 b.lines with | .inl i => some i | .inr names' => crowdG names' r

/-- A text: the program, or the error and the line. -/
def readG (tg mb ml : Nat) (s : BA) : Except (Nat × Nat) (List Ver × List BlockG) :=
  if ml < (cuts 10 s).length then .error (6, 0)
  else match runL tg mb 0 (cuts 10 s) ⟨[], [], none⟩ with
    | .error i => .error (7, i)
    | .ok p => match lostG p.closed.length p.closed with
      | some i => .error (8, i)
      | none => .ok (p.args, p.closed)
def progG (s : BA) : Except (Nat × Nat) (List Ver × List BlockG) :=
  match readG 0 20 120 s with
  | .error e => .error e
  | .ok (a, bs) => match crowdG a bs with | some i => .error (9, i) | none => .ok (a, bs)

end Go.Proofs.YtbddcodljmglfaaGreatDoor
