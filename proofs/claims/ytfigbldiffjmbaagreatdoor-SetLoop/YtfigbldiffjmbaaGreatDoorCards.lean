/-
  DERIVED. GIVEN WITH THE SEED: THE CARDS: each row of YtfigbldiffjmbaaGreatDoorRows.lean that lists a variable, with what it lists TIED to the program's text (the seventh form; the later family's looks); each row that meets fmt, with fmt's text TOLD by the authors' own Lean function (tested against real Go, not proved from fmt's source: count such statements apart). THE CARD IS WHAT COUNTS. Prove the row's statement (the work); the ties are given (YtfigbldiffjmbaaGreatDoorTie.lean); close each card by the builder's one call (the guide's Derived/Test/ToyasCard.lean, 'card_holds'). Laid BY PROGRAM, IN A SANDBOX (cutbox-door.mjs). By AI agents, Wed Nov 11 2026. No macro, syntax, notation, axiom, sorry.
-/
import Derived.Test.YtfigbldiffjmbaaGreatDoorRows
import GoSem.ClaimSeven
namespace Go.Proofs.YtfigbldiffjmbaaGreatDoor
namespace Rows

/-- THE TIED CARD OF 'sterlinglaw14.SetLoop'. -/
def setLoopCard : Claim7 := { stood := { row := setLoopRow, standIns := [], harness := (true, "a3d9a567b8701bec0ad2d0653f7e80e23b15d25b7d2f3efe274f16ec5c4ac08a"), looks := true }, kinds := [], alts := [], laidByText := true, laidKinds := [.data, .data, .data, .sentinel, .sentinel, .data], laidTests := true, laidLooks := .later }
def SetLoopCardSaid : Prop := Claim7.holds Tryz.pinned (.plain (OpenSpec.ofChange setLoopSpec)) setLoopCard

/-- THE TIED CARD OF 'sterlinglaw14.SetMeet'. -/
def setMeetCard : Claim7 := { stood := { row := setMeetRow, standIns := [], harness := (true, "a3d9a567b8701bec0ad2d0653f7e80e23b15d25b7d2f3efe274f16ec5c4ac08a"), looks := true }, kinds := [], alts := [], laidByText := true, laidKinds := [.data, .data, .data, .sentinel, .sentinel, .data], laidTests := true, laidLooks := .later }
def SetMeetCardSaid : Prop := Claim7.holds Tryz.pinned (.plain (OpenSpec.ofChange setMeetSpec)) setMeetCard

/-- THE SECOND FORM's CARD OF 'sterlinglaw14.SetLoop'. -/
def setLoopUptoCard : Claim7 := { stood := { row := setLoopUptoRow, standIns := [], harness := (true, "a3d9a567b8701bec0ad2d0653f7e80e23b15d25b7d2f3efe274f16ec5c4ac08a"), looks := true }, kinds := [], alts := [], laidByText := true, laidKinds := [.data, .data, .data, .sentinel, .sentinel, .data], laidTests := true, laidLooks := .later }
def SetLoopUptoCardSaid : Prop := Claim7.holds Tryz.pinned (.plain (OpenSpec.upto setLoopSpec)) setLoopUptoCard

/-- THE SECOND FORM's CARD OF 'sterlinglaw14.SetMeet'. -/
def setMeetUptoCard : Claim7 := { stood := { row := setMeetUptoRow, standIns := [], harness := (true, "a3d9a567b8701bec0ad2d0653f7e80e23b15d25b7d2f3efe274f16ec5c4ac08a"), looks := true }, kinds := [], alts := [], laidByText := true, laidKinds := [.data, .data, .data, .sentinel, .sentinel, .data], laidTests := true, laidLooks := .later }
def SetMeetUptoCardSaid : Prop := Claim7.holds Tryz.pinned (.plain (OpenSpec.upto setMeetSpec)) setMeetUptoCard
end Rows
end Go.Proofs.YtfigbldiffjmbaaGreatDoor
