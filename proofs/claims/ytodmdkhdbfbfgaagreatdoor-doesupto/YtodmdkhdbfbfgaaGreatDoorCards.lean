/-
  DERIVED. GIVEN WITH THE SEED: THE CARDS: each row of YtodmdkhdbfbfgaaGreatDoorRows.lean that lists a variable, with what it lists TIED to the program's text (the seventh form; the later family's looks); each row that meets fmt, with fmt's text TOLD by the authors' own Lean function (tested against real Go, not proved from fmt's source: count such statements apart). THE CARD IS WHAT COUNTS. Prove the row's statement (the work); the ties are given (YtodmdkhdbfbfgaaGreatDoorTie.lean); close each card by the builder's one call (the guide's Derived/Test/ToyasCard.lean, 'card_holds'). Laid BY PROGRAM, IN A SANDBOX (cutbox-door.mjs). By AI agents, Wed Nov 11 2026. No macro, syntax, notation, axiom, sorry.
-/
import Derived.Test.YtodmdkhdbfbfgaaGreatDoorRows
import GoSem.ClaimSeven
namespace Go.Proofs.YtodmdkhdbfbfgaaGreatDoor
namespace Rows

/-- THE TIED CARD OF 'nandlaw.Lays'. -/
def laysCard : Claim7 := { stood := { row := laysRow, standIns := [], harness := (true, "5a1a4f46b4621a318d587c13783e08470f8730458600b53dbbeda48cea3c0e3a"), looks := true }, kinds := [], alts := [], laidByText := true, laidKinds := [.data, .pinned], laidTests := true, laidLooks := .later }
def LaysCardSaid : Prop := Claim7.holds Tryz.pinned (.plain (OpenSpec.ofChange laysSpec)) laysCard

/-- THE TIED CARD OF 'nandlaw.Does'. -/
def doesCard : Claim7 := { stood := { row := doesRow, standIns := [], harness := (true, "5a1a4f46b4621a318d587c13783e08470f8730458600b53dbbeda48cea3c0e3a"), looks := true }, kinds := [], alts := [], laidByText := true, laidKinds := [.data, .pinned], laidTests := true, laidLooks := .later }
def DoesCardSaid : Prop := Claim7.holds Tryz.pinned (.plain (OpenSpec.ofChange doesSpec)) doesCard

/-- THE TIED CARD OF 'nandkeep.Kept'. -/
def keptCard : Claim7 := { stood := { row := keptRow, standIns := [], harness := (true, "5a1a4f46b4621a318d587c13783e08470f8730458600b53dbbeda48cea3c0e3a"), looks := true }, kinds := [], alts := [], laidByText := true, laidKinds := [.data, .pinned], laidTests := true, laidLooks := .later }
def KeptCardSaid : Prop := Claim7.holds Tryz.pinned (.plain (OpenSpec.ofChange keptSpec)) keptCard

/-- THE TIED CARD OF 'nandkeep.Rebuilt'. -/
def rebuiltCard : Claim7 := { stood := { row := rebuiltRow, standIns := [], harness := (true, "5a1a4f46b4621a318d587c13783e08470f8730458600b53dbbeda48cea3c0e3a"), looks := true }, kinds := [], alts := [], laidByText := true, laidKinds := [.data, .pinned], laidTests := true, laidLooks := .later }
def RebuiltCardSaid : Prop := Claim7.holds Tryz.pinned (.plain (OpenSpec.ofChange rebuiltSpec)) rebuiltCard

/-- THE TIED CARD OF 'nandkeep.Survives'. -/
def survivesCard : Claim7 := { stood := { row := survivesRow, standIns := [], harness := (true, "5a1a4f46b4621a318d587c13783e08470f8730458600b53dbbeda48cea3c0e3a"), looks := true }, kinds := [], alts := [], laidByText := true, laidKinds := [.data, .pinned], laidTests := true, laidLooks := .later }
def SurvivesCardSaid : Prop := Claim7.holds Tryz.pinned (.plain (OpenSpec.ofChange survivesSpec)) survivesCard

/-- THE SECOND FORM's CARD OF 'nandlaw.Lays'. -/
def laysUptoCard : Claim7 := { stood := { row := laysUptoRow, standIns := [], harness := (true, "5a1a4f46b4621a318d587c13783e08470f8730458600b53dbbeda48cea3c0e3a"), looks := true }, kinds := [], alts := [], laidByText := true, laidKinds := [.data, .pinned], laidTests := true, laidLooks := .later }
def LaysUptoCardSaid : Prop := Claim7.holds Tryz.pinned (.plain (OpenSpec.upto laysSpec)) laysUptoCard

/-- THE SECOND FORM's CARD OF 'nandlaw.Does'. -/
def doesUptoCard : Claim7 := { stood := { row := doesUptoRow, standIns := [], harness := (true, "5a1a4f46b4621a318d587c13783e08470f8730458600b53dbbeda48cea3c0e3a"), looks := true }, kinds := [], alts := [], laidByText := true, laidKinds := [.data, .pinned], laidTests := true, laidLooks := .later }
def DoesUptoCardSaid : Prop := Claim7.holds Tryz.pinned (.plain (OpenSpec.upto doesSpec)) doesUptoCard

/-- THE SECOND FORM's CARD OF 'nandkeep.Kept'. -/
def keptUptoCard : Claim7 := { stood := { row := keptUptoRow, standIns := [], harness := (true, "5a1a4f46b4621a318d587c13783e08470f8730458600b53dbbeda48cea3c0e3a"), looks := true }, kinds := [], alts := [], laidByText := true, laidKinds := [.data, .pinned], laidTests := true, laidLooks := .later }
def KeptUptoCardSaid : Prop := Claim7.holds Tryz.pinned (.plain (OpenSpec.upto keptSpec)) keptUptoCard

/-- THE SECOND FORM's CARD OF 'nandkeep.Rebuilt'. -/
def rebuiltUptoCard : Claim7 := { stood := { row := rebuiltUptoRow, standIns := [], harness := (true, "5a1a4f46b4621a318d587c13783e08470f8730458600b53dbbeda48cea3c0e3a"), looks := true }, kinds := [], alts := [], laidByText := true, laidKinds := [.data, .pinned], laidTests := true, laidLooks := .later }
def RebuiltUptoCardSaid : Prop := Claim7.holds Tryz.pinned (.plain (OpenSpec.upto rebuiltSpec)) rebuiltUptoCard

/-- THE SECOND FORM's CARD OF 'nandkeep.Survives'. -/
def survivesUptoCard : Claim7 := { stood := { row := survivesUptoRow, standIns := [], harness := (true, "5a1a4f46b4621a318d587c13783e08470f8730458600b53dbbeda48cea3c0e3a"), looks := true }, kinds := [], alts := [], laidByText := true, laidKinds := [.data, .pinned], laidTests := true, laidLooks := .later }
def SurvivesUptoCardSaid : Prop := Claim7.holds Tryz.pinned (.plain (OpenSpec.upto survivesSpec)) survivesUptoCard
end Rows
end Go.Proofs.YtodmdkhdbfbfgaaGreatDoor
