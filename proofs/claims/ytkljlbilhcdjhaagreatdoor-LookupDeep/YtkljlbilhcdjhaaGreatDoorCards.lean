/-
  DERIVED. GIVEN WITH THE SEED: THE CARDS: each row of YtkljlbilhcdjhaaGreatDoorRows.lean that lists a variable, with what it lists TIED to the program's text (the seventh form; the later family's looks); each row that meets fmt, with fmt's text TOLD by the authors' own Lean function (tested against real Go, not proved from fmt's source: count such statements apart). THE CARD IS WHAT COUNTS. Prove the row's statement (the work); the ties are given (YtkljlbilhcdjhaaGreatDoorTie.lean); close each card by the builder's one call (the guide's Derived/Test/ToyasCard.lean, 'card_holds'). Laid BY PROGRAM, IN A SANDBOX (cutbox-door.mjs). By AI agents, Wed Nov 11 2026. No macro, syntax, notation, axiom, sorry.
-/
import Derived.Test.YtkljlbilhcdjhaaGreatDoorRows
import GoSem.ClaimSeven
namespace Go.Proofs.YtkljlbilhcdjhaaGreatDoor
namespace Rows

/-- THE TIED CARD OF 'sterlinglaw15.LookupDeep'. -/
def lookupDeepCard : Claim7 := { stood := { row := lookupDeepRow, standIns := [], harness := (true, "ce325644800f76fe49e77926fee5d4525b75428eca384e8a8e1b3239200583bf"), looks := true }, kinds := [], alts := [], laidByText := true, laidKinds := [.data, .data, .data, .sentinel, .sentinel, .data], laidTests := true, laidLooks := .later }
def LookupDeepCardSaid : Prop := Claim7.holds Tryz.pinned (.plain (OpenSpec.ofChange lookupDeepSpec)) lookupDeepCard

/-- THE SECOND FORM's CARD OF 'sterlinglaw15.LookupDeep'. -/
def lookupDeepUptoCard : Claim7 := { stood := { row := lookupDeepUptoRow, standIns := [], harness := (true, "ce325644800f76fe49e77926fee5d4525b75428eca384e8a8e1b3239200583bf"), looks := true }, kinds := [], alts := [], laidByText := true, laidKinds := [.data, .data, .data, .sentinel, .sentinel, .data], laidTests := true, laidLooks := .later }
def LookupDeepUptoCardSaid : Prop := Claim7.holds Tryz.pinned (.plain (OpenSpec.upto lookupDeepSpec)) lookupDeepUptoCard
end Rows
end Go.Proofs.YtkljlbilhcdjhaaGreatDoor
