/-
  DERIVED. GIVEN WITH THE SEED: THE CARDS: each row of YtodmdkhdbfbfgabGreatDoorRows.lean that lists a variable, with what it lists TIED to the program's text (the seventh form; the later family's looks); each row that meets fmt, with fmt's text TOLD by the authors' own Lean function (tested against real Go, not proved from fmt's source: count such statements apart). THE CARD IS WHAT COUNTS. Prove the row's statement (the work); the ties are given (YtodmdkhdbfbfgabGreatDoorTie.lean); close each card by the builder's one call (the guide's Derived/Test/ToyasCard.lean, 'card_holds'). Laid BY PROGRAM, IN A SANDBOX (cutbox-door.mjs). By AI agents, Wed Nov 11 2026. No macro, syntax, notation, axiom, sorry.
-/
import Derived.Test.YtodmdkhdbfbfgabGreatDoorRows
import GoSem.ClaimSeven
namespace Go.Proofs.YtodmdkhdbfbfgabGreatDoor
namespace Rows

/-- THE TIED CARD OF 'nandkeep.Steady'. -/
def steadyCard : Claim7 := { stood := { row := steadyRow, standIns := [], harness := (true, "7748b8d6d6e8cea0c5a19182a5a5b5393cbfee740d4625b606f05ba8baa82cd3"), looks := true }, kinds := [], alts := [], laidByText := true, laidKinds := [.data, .pinned], laidTests := true, laidLooks := .later }
def SteadyCardSaid : Prop := Claim7.holds Tryz.pinned (.plain (OpenSpec.ofChange steadySpec)) steadyCard

/-- THE TIED CARD OF 'nandkeep.Fails'. -/
def failsCard : Claim7 := { stood := { row := failsRow, standIns := [], harness := (true, "7748b8d6d6e8cea0c5a19182a5a5b5393cbfee740d4625b606f05ba8baa82cd3"), looks := true }, kinds := [], alts := [], laidByText := true, laidKinds := [.data, .pinned], laidTests := true, laidLooks := .later }
def FailsCardSaid : Prop := Claim7.holds Tryz.pinned (.plain (OpenSpec.ofChange failsSpec)) failsCard

/-- THE TIED CARD OF 'nandkeep.Full'. -/
def fullCard : Claim7 := { stood := { row := fullRow, standIns := [], harness := (true, "7748b8d6d6e8cea0c5a19182a5a5b5393cbfee740d4625b606f05ba8baa82cd3"), looks := true }, kinds := [], alts := [], laidByText := true, laidKinds := [.data, .pinned], laidTests := true, laidLooks := .later }
def FullCardSaid : Prop := Claim7.holds Tryz.pinned (.plain (OpenSpec.ofChange fullSpec)) fullCard

/-- THE SECOND FORM's CARD OF 'nandkeep.Steady'. -/
def steadyUptoCard : Claim7 := { stood := { row := steadyUptoRow, standIns := [], harness := (true, "7748b8d6d6e8cea0c5a19182a5a5b5393cbfee740d4625b606f05ba8baa82cd3"), looks := true }, kinds := [], alts := [], laidByText := true, laidKinds := [.data, .pinned], laidTests := true, laidLooks := .later }
def SteadyUptoCardSaid : Prop := Claim7.holds Tryz.pinned (.plain (OpenSpec.upto steadySpec)) steadyUptoCard

/-- THE SECOND FORM's CARD OF 'nandkeep.Fails'. -/
def failsUptoCard : Claim7 := { stood := { row := failsUptoRow, standIns := [], harness := (true, "7748b8d6d6e8cea0c5a19182a5a5b5393cbfee740d4625b606f05ba8baa82cd3"), looks := true }, kinds := [], alts := [], laidByText := true, laidKinds := [.data, .pinned], laidTests := true, laidLooks := .later }
def FailsUptoCardSaid : Prop := Claim7.holds Tryz.pinned (.plain (OpenSpec.upto failsSpec)) failsUptoCard

/-- THE SECOND FORM's CARD OF 'nandkeep.Full'. -/
def fullUptoCard : Claim7 := { stood := { row := fullUptoRow, standIns := [], harness := (true, "7748b8d6d6e8cea0c5a19182a5a5b5393cbfee740d4625b606f05ba8baa82cd3"), looks := true }, kinds := [], alts := [], laidByText := true, laidKinds := [.data, .pinned], laidTests := true, laidLooks := .later }
def FullUptoCardSaid : Prop := Claim7.holds Tryz.pinned (.plain (OpenSpec.upto fullSpec)) fullUptoCard
end Rows
end Go.Proofs.YtodmdkhdbfbfgabGreatDoor
