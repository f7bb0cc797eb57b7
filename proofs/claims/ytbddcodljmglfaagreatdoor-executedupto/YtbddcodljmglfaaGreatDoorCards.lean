/-
  DERIVED. GIVEN WITH THE SEED: THE CARDS: each row of YtbddcodljmglfaaGreatDoorRows.lean that lists a variable, with what it lists TIED to the program's text (the seventh form; the later family's looks); each row that meets fmt, with fmt's text TOLD by the authors' own Lean function (tested against real Go, not proved from fmt's source: count such statements apart). THE CARD IS WHAT COUNTS. Prove the row's statement (the work); the ties are given (YtbddcodljmglfaaGreatDoorTie.lean); close each card by the builder's one call (the guide's Derived/Test/ToyasCard.lean, 'card_holds'). Laid BY PROGRAM, IN A SANDBOX (cutbox-door.mjs). By AI agents, Wed Nov 11 2026. No macro, syntax, notation, axiom, sorry.
-/
import Derived.Test.YtbddcodljmglfaaGreatDoorRows
import GoSem.ClaimSeven
namespace Go.Proofs.YtbddcodljmglfaaGreatDoor
namespace Rows

/-- THE TIED CARD OF 'ridgelaw.Checked'. -/
def checkedCard : Claim7 := { stood := { row := checkedRow, standIns := [], harness := (true, "3ab42b082ca2932bae75dec74baacc4c3b801a9ae8b5b781ed83ca0887040e03"), looks := true }, kinds := [], alts := [], laidByText := true, laidKinds := [.data, .data, .data, .data, .sentinel, .sentinel, .pinned], laidTests := true, laidLooks := .later }
def CheckedCardSaid : Prop := Claim7.holds Tryz.pinned (.plain (OpenSpec.ofChange checkedSpec)) checkedCard

/-- THE TIED CARD OF 'ridgelaw.Ran'. -/
def ranCard : Claim7 := { stood := { row := ranRow, standIns := [], harness := (true, "3ab42b082ca2932bae75dec74baacc4c3b801a9ae8b5b781ed83ca0887040e03"), looks := true }, kinds := [], alts := [], laidByText := true, laidKinds := [.data, .data, .data, .data, .sentinel, .sentinel, .pinned], laidTests := true, laidLooks := .later }
def RanCardSaid : Prop := Claim7.holds Tryz.pinned (.plain (OpenSpec.ofChange ranSpec)) ranCard

/-- THE TIED CARD OF 'ridgekeep.Fueled'. -/
def fueledCard : Claim7 := { stood := { row := fueledRow, standIns := [], harness := (true, "3ab42b082ca2932bae75dec74baacc4c3b801a9ae8b5b781ed83ca0887040e03"), looks := true }, kinds := [], alts := [], laidByText := true, laidKinds := [.data, .data, .data, .data, .sentinel, .sentinel, .pinned], laidTests := true, laidLooks := .later }
def FueledCardSaid : Prop := Claim7.holds Tryz.pinned (.plain (OpenSpec.ofChange fueledSpec)) fueledCard

/-- THE TIED CARD OF 'ridgelaw.Verified'. -/
def verifiedCard : Claim7 := { stood := { row := verifiedRow, standIns := [], harness := (true, "3ab42b082ca2932bae75dec74baacc4c3b801a9ae8b5b781ed83ca0887040e03"), looks := true }, kinds := [], alts := [], laidByText := true, laidKinds := [.data, .data, .data, .data, .sentinel, .sentinel, .pinned], laidTests := true, laidLooks := .later }
def VerifiedCardSaid : Prop := Claim7.holds Tryz.pinned (.plain (OpenSpec.ofChange verifiedSpec)) verifiedCard

/-- THE TIED CARD OF 'ridgelaw.Executed'. -/
def executedCard : Claim7 := { stood := { row := executedRow, standIns := [], harness := (true, "3ab42b082ca2932bae75dec74baacc4c3b801a9ae8b5b781ed83ca0887040e03"), looks := true }, kinds := [], alts := [], laidByText := true, laidKinds := [.data, .data, .data, .data, .sentinel, .sentinel, .pinned], laidTests := true, laidLooks := .later }
def ExecutedCardSaid : Prop := Claim7.holds Tryz.pinned (.plain (OpenSpec.ofChange executedSpec)) executedCard

/-- THE SECOND FORM's CARD OF 'ridgelaw.Checked'. -/
def checkedUptoCard : Claim7 := { stood := { row := checkedUptoRow, standIns := [], harness := (true, "3ab42b082ca2932bae75dec74baacc4c3b801a9ae8b5b781ed83ca0887040e03"), looks := true }, kinds := [], alts := [], laidByText := true, laidKinds := [.data, .data, .data, .data, .sentinel, .sentinel, .pinned], laidTests := true, laidLooks := .later }
def CheckedUptoCardSaid : Prop := Claim7.holds Tryz.pinned (.plain (OpenSpec.upto checkedSpec)) checkedUptoCard

/-- THE SECOND FORM's CARD OF 'ridgelaw.Ran'. -/
def ranUptoCard : Claim7 := { stood := { row := ranUptoRow, standIns := [], harness := (true, "3ab42b082ca2932bae75dec74baacc4c3b801a9ae8b5b781ed83ca0887040e03"), looks := true }, kinds := [], alts := [], laidByText := true, laidKinds := [.data, .data, .data, .data, .sentinel, .sentinel, .pinned], laidTests := true, laidLooks := .later }
def RanUptoCardSaid : Prop := Claim7.holds Tryz.pinned (.plain (OpenSpec.upto ranSpec)) ranUptoCard

/-- THE SECOND FORM's CARD OF 'ridgekeep.Fueled'. -/
def fueledUptoCard : Claim7 := { stood := { row := fueledUptoRow, standIns := [], harness := (true, "3ab42b082ca2932bae75dec74baacc4c3b801a9ae8b5b781ed83ca0887040e03"), looks := true }, kinds := [], alts := [], laidByText := true, laidKinds := [.data, .data, .data, .data, .sentinel, .sentinel, .pinned], laidTests := true, laidLooks := .later }
def FueledUptoCardSaid : Prop := Claim7.holds Tryz.pinned (.plain (OpenSpec.upto fueledSpec)) fueledUptoCard

/-- THE SECOND FORM's CARD OF 'ridgelaw.Verified'. -/
def verifiedUptoCard : Claim7 := { stood := { row := verifiedUptoRow, standIns := [], harness := (true, "3ab42b082ca2932bae75dec74baacc4c3b801a9ae8b5b781ed83ca0887040e03"), looks := true }, kinds := [], alts := [], laidByText := true, laidKinds := [.data, .data, .data, .data, .sentinel, .sentinel, .pinned], laidTests := true, laidLooks := .later }
def VerifiedUptoCardSaid : Prop := Claim7.holds Tryz.pinned (.plain (OpenSpec.upto verifiedSpec)) verifiedUptoCard

/-- THE SECOND FORM's CARD OF 'ridgelaw.Executed'. -/
def executedUptoCard : Claim7 := { stood := { row := executedUptoRow, standIns := [], harness := (true, "3ab42b082ca2932bae75dec74baacc4c3b801a9ae8b5b781ed83ca0887040e03"), looks := true }, kinds := [], alts := [], laidByText := true, laidKinds := [.data, .data, .data, .data, .sentinel, .sentinel, .pinned], laidTests := true, laidLooks := .later }
def ExecutedUptoCardSaid : Prop := Claim7.holds Tryz.pinned (.plain (OpenSpec.upto executedSpec)) executedUptoCard
end Rows
end Go.Proofs.YtbddcodljmglfaaGreatDoor
