/-
  DERIVED. GIVEN WITH THE SEED: THE CARDS: each row of YtfbacidpjpghiaaGreatDoorRows.lean that lists a variable, with what it lists TIED to the program's text (the seventh form; the later family's looks); each row that meets fmt, with fmt's text TOLD by the authors' own Lean function (tested against real Go, not proved from fmt's source: count such statements apart). THE CARD IS WHAT COUNTS. Prove the row's statement (the work); the ties are given (YtfbacidpjpghiaaGreatDoorTie.lean); close each card by the builder's one call (the guide's Derived/Test/ToyasCard.lean, 'card_holds'). Laid BY PROGRAM, IN A SANDBOX (cutbox-door.mjs). By AI agents, Wed Nov 11 2026. No macro, syntax, notation, axiom, sorry.
-/
import Derived.Test.YtfbacidpjpghiaaGreatDoorRows
import GoSem.ClaimSeven
namespace Go.Proofs.YtfbacidpjpghiaaGreatDoor
namespace Rows

/-- THE TIED CARD OF 'sterlinglaw7.ReadReader'. -/
def readReaderCard : Claim7 := { stood := { row := readReaderRow, standIns := [], harness := (true, "710718bd84002d8274644c4dff42e38d4825117409b7d1de652aadad9efceb9a"), looks := true }, kinds := [], alts := [], laidByText := true, laidKinds := [.data, .data, .data, .data, .sentinel, .sentinel, .pinned], laidTests := true, laidLooks := .later }
def ReadReaderCardSaid : Prop := Claim7.holds Tryz.pinned (.plain (OpenSpec.ofChange readReaderSpec)) readReaderCard

/-- THE SECOND FORM's CARD OF 'sterlinglaw7.ReadReader'. -/
def readReaderUptoCard : Claim7 := { stood := { row := readReaderUptoRow, standIns := [], harness := (true, "710718bd84002d8274644c4dff42e38d4825117409b7d1de652aadad9efceb9a"), looks := true }, kinds := [], alts := [], laidByText := true, laidKinds := [.data, .data, .data, .data, .sentinel, .sentinel, .pinned], laidTests := true, laidLooks := .later }
def ReadReaderUptoCardSaid : Prop := Claim7.holds Tryz.pinned (.plain (OpenSpec.upto readReaderSpec)) readReaderUptoCard
end Rows
end Go.Proofs.YtfbacidpjpghiaaGreatDoor
