/- What the words of a line are, and what a line says: of no program's run. -/
import Derived.Test.YtbddcodljmglfaaGreatDoorNumMath
set_option linter.unusedSimpArgs false
set_option linter.unusedVariables false
namespace Go.Proofs.YtbddcodljmglfaaGreatDoor

def isNm (s : BA) : Bool := decide (1 ≤ s.size) && decide (s.size ≤ 3) && s.data.toList.all (fun b => decide (97 ≤ b.toNat) && decide (b.toNat ≤ 122))

def wSet : BA := ⟨#[115, 101, 116]⟩
def wCopy : BA := ⟨#[99, 111, 112, 121]⟩
def wAdd : BA := ⟨#[97, 100, 100]⟩
def wSub : BA := ⟨#[115, 117, 98]⟩
def wMul : BA := ⟨#[109, 117, 108]⟩
def wLess : BA := ⟨#[108, 101, 115, 115]⟩
def wOut : BA := ⟨#[111, 117, 116]⟩
def wGoto : BA := ⟨#[103, 111, 116, 111]⟩
def wIf : BA := ⟨#[105, 102]⟩
def wEnd : BA := ⟨#[101, 110, 100]⟩
def wArgs : BA := ⟨#[97, 114, 103, 115]⟩
def wBlock : BA := ⟨#[98, 108, 111, 99, 107]⟩

/-- Which word a text is, by its row. -/
def kindOf (s : BA) : Option Nat :=
  if (ByteArray.toList s == [115, 101, 116]) = true then some 0 else if (ByteArray.toList s == [99, 111, 112, 121]) = true then some 1 else if (ByteArray.toList s == [97, 100, 100]) = true then some 2 else
  if (ByteArray.toList s == [115, 117, 98]) = true then some 3 else if (ByteArray.toList s == [109, 117, 108]) = true then some 4 else if (ByteArray.toList s == [108, 101, 115, 115]) = true then some 5 else
  if (ByteArray.toList s == [111, 117, 116]) = true then some 6 else if (ByteArray.toList s == [103, 111, 116, 111]) = true then some 7 else if (ByteArray.toList s == [105, 102]) = true then some 8 else
  if (ByteArray.toList s == [101, 110, 100]) = true then some 9 else none

/-- What stands behind a word: 1 what it sets, 2 what it takes, 3 a number, 4 a block's. -/
def partsOf : Nat → List Nat
  | 0 => [1, 3]
  | 1 => [1, 2]
  | 2 => [1, 2, 2]
  | 3 => [1, 2, 2]
  | 4 => [1, 2, 2]
  | 5 => [1, 2, 2]
  | 6 => [2]
  | 7 => [4]
  | 8 => [2, 4, 4]
  | 9 => [2]
  | _ => []

def endsK (k : Nat) : Bool := k == 7 || k == 8 || k == 9

/-- The place of the first byte c, or none. -/
def cutAt (c : UInt8) (s : BA) : Option Nat := s.data.toList.findIdx? (· == c)
def cutHead (c : UInt8) (s : BA) : BA := match cutAt c s with | some i => s.extract 0 i | none => s
def cutTail (c : UInt8) (s : BA) : BA := match cutAt c s with | some i => s.extract (i + 1) s.size | none => ByteArray.empty

/-- A version: a name and a number (in programs 0). -/
abbrev Ver := BA × Nat
/-- Which version a word is; tg: 0 in programs, 1 in forms. -/
def readVer (tg : Nat) (s : BA) : Option Ver :=
  if tg = 0 then (if isNm s = true then some (s, 0) else none)
  else match numB (cutTail 46 s) with
    | some v => if isNm (cutHead 46 s) = true ∧ 0 ≤ v ∧ v ≤ 999 then some (cutHead 46 s, v.toNat) else none
    | none => none

theorem ba_ext {s t : BA} (h : ByteArray.toList s = ByteArray.toList t) : s = t := by
  rw [ByteArray.toList_eq, ByteArray.toList_eq] at h
  cases s
  cases t
  simpa using h

/-- Are two versions one? -/
def verEq (a b : Ver) : Bool := (ByteArray.toList a.1 == ByteArray.toList b.1) && decide ((a.2 : Int) = b.2)
theorem verEq_iff {a b : Ver} : verEq a b = true ↔ a = b := by
  simp only [verEq, Bool.and_eq_true, beq_iff_eq, decide_eq_true_eq]
  constructor
  · intro h; exact Prod.ext (ba_ext h.1) (by omega)
  · rintro rfl; exact ⟨rfl, rfl⟩
/-- Is it among these? -/
def verHas (l : List Ver) (v : Ver) : Bool := l.any fun x => verEq v x
theorem verHas_iff {l : List Ver} {v : Ver} : verHas l v = true ↔ v ∈ l := by
  simp only [verHas, List.any_eq_true, verEq_iff]
  exact ⟨fun ⟨x, hx, h⟩ => h ▸ hx, fun h => ⟨v, h, rfl⟩⟩

structure LineG where
  word : Nat
  sets : Ver
  takes : List Ver
  number : Int
  leads : List Nat

def noVer : Ver := (ByteArray.empty, 0)
def blkB (s : BA) : Option Nat := match numB s with | some v => if 0 ≤ v then some v.toNat else none | none => none

def addPart (tg p : Nat) (b : BA) (l : LineG) : Option LineG :=
  if p = 1 then (match readVer tg b with | some v => some { l with sets := v } | none => none)
  else if p = 2 then (match readVer tg b with | some v => some { l with takes := l.takes ++ [v] } | none => none)
  else if p = 3 then (match numB b with | some v => some { l with number := v } | none => none)
  else (match blkB b with | some n => some { l with leads := l.leads ++ [n] } | none => none)

def fillG (tg : Nat) : List Nat → List BA → LineG → Option LineG
  | [], [], l => some l
  | [], _ :: _, _ => none
  | _ :: _, [], _ => none
  | p :: ps, b :: bs, l => match addPart tg p b l with | some l' => fillG tg ps bs l' | none => none

def lineOf (tg : Nat) : List BA → Option LineG
  | [] => none
  | w :: bs => match kindOf w with | some k => fillG tg (partsOf k) bs ⟨k, noVer, [], 0, []⟩ | none => none

/-- The names of an args line. -/
def argsGo (tg : Nat) (acc : List Ver) : List BA → Option (List Ver)
  | [] => some acc
  | b :: r => match readVer tg b with | some v => if v.2 = 0 ∧ verHas acc v = false then argsGo tg (acc ++ [v]) r else none | none => none
def argsOf (tg : Nat) : List BA → Option (List Ver)
  | [] => none
  | w :: bs => if ByteArray.toList w = [97, 114, 103, 115] ∧ bs.length ≤ 4 then argsGo tg [] bs else none

end Go.Proofs.YtbddcodljmglfaaGreatDoor
