/-
  DERIVED. GIVEN WITH THE SEED: THE CARDS: each row of YtcibkkpljcablaaGreatDoorRows.lean that lists a variable, with what it lists TIED to the program's text (the seventh form; the later family's looks); each row that meets fmt, with fmt's text TOLD by the authors' own Lean function (tested against real Go, not proved from fmt's source: count such statements apart). THE CARD IS WHAT COUNTS. Prove the row's statement (the work); the ties are given (YtcibkkpljcablaaGreatDoorTie.lean); close each card by the builder's one call (the guide's Derived/Test/ToyasCard.lean, 'card_holds'). Laid BY PROGRAM, IN A SANDBOX (cutbox-door.mjs). By AI agents, Wed Nov 11 2026. No macro, syntax, notation, axiom, sorry.
-/
import Derived.Test.YtcibkkpljcablaaGreatDoorRows
import GoSem.ClaimSeven
namespace Go.Proofs.YtcibkkpljcablaaGreatDoor
namespace Rows

/-- THE TIED CARD OF 'sterlinglaw13.EnvNew'. -/
def envNewCard : Claim7 := { stood := { row := envNewRow, standIns := [], harness := (true, "38d6a1140ad95cde1bf907a8c238045723f8fd964aeb17ad5764c515a6aff2b1"), looks := true }, kinds := [], alts := [], laidByText := true, laidKinds := [.data, .data, .data, .sentinel, .sentinel, .data], laidTests := true, laidLooks := .later }
def EnvNewCardSaid : Prop := Claim7.holds Tryz.pinned (.plain (OpenSpec.ofChange envNewSpec)) envNewCard

/-- THE TIED CARD OF 'sterlinglaw13.EnvUnder'. -/
def envUnderCard : Claim7 := { stood := { row := envUnderRow, standIns := [], harness := (true, "38d6a1140ad95cde1bf907a8c238045723f8fd964aeb17ad5764c515a6aff2b1"), looks := true }, kinds := [], alts := [], laidByText := true, laidKinds := [.data, .data, .data, .sentinel, .sentinel, .data], laidTests := true, laidLooks := .later }
def EnvUnderCardSaid : Prop := Claim7.holds Tryz.pinned (.plain (OpenSpec.ofChange envUnderSpec)) envUnderCard

/-- THE TIED CARD OF 'sterlinglaw13.EnvNone'. -/
def envNoneCard : Claim7 := { stood := { row := envNoneRow, standIns := [], harness := (true, "38d6a1140ad95cde1bf907a8c238045723f8fd964aeb17ad5764c515a6aff2b1"), looks := true }, kinds := [], alts := [], laidByText := true, laidKinds := [.data, .data, .data, .sentinel, .sentinel, .data], laidTests := true, laidLooks := .later }
def EnvNoneCardSaid : Prop := Claim7.holds Tryz.pinned (.plain (OpenSpec.ofChange envNoneSpec)) envNoneCard

/-- THE TIED CARD OF 'sterlinglaw13.EnvChain'. -/
def envChainCard : Claim7 := { stood := { row := envChainRow, standIns := [], harness := (true, "38d6a1140ad95cde1bf907a8c238045723f8fd964aeb17ad5764c515a6aff2b1"), looks := true }, kinds := [], alts := [], laidByText := true, laidKinds := [.data, .data, .data, .sentinel, .sentinel, .data], laidTests := true, laidLooks := .later }
def EnvChainCardSaid : Prop := Claim7.holds Tryz.pinned (.plain (OpenSpec.ofChange envChainSpec)) envChainCard

/-- THE SECOND FORM's CARD OF 'sterlinglaw13.EnvNew'. -/
def envNewUptoCard : Claim7 := { stood := { row := envNewUptoRow, standIns := [], harness := (true, "38d6a1140ad95cde1bf907a8c238045723f8fd964aeb17ad5764c515a6aff2b1"), looks := true }, kinds := [], alts := [], laidByText := true, laidKinds := [.data, .data, .data, .sentinel, .sentinel, .data], laidTests := true, laidLooks := .later }
def EnvNewUptoCardSaid : Prop := Claim7.holds Tryz.pinned (.plain (OpenSpec.upto envNewSpec)) envNewUptoCard

/-- THE SECOND FORM's CARD OF 'sterlinglaw13.EnvUnder'. -/
def envUnderUptoCard : Claim7 := { stood := { row := envUnderUptoRow, standIns := [], harness := (true, "38d6a1140ad95cde1bf907a8c238045723f8fd964aeb17ad5764c515a6aff2b1"), looks := true }, kinds := [], alts := [], laidByText := true, laidKinds := [.data, .data, .data, .sentinel, .sentinel, .data], laidTests := true, laidLooks := .later }
def EnvUnderUptoCardSaid : Prop := Claim7.holds Tryz.pinned (.plain (OpenSpec.upto envUnderSpec)) envUnderUptoCard

/-- THE SECOND FORM's CARD OF 'sterlinglaw13.EnvNone'. -/
def envNoneUptoCard : Claim7 := { stood := { row := envNoneUptoRow, standIns := [], harness := (true, "38d6a1140ad95cde1bf907a8c238045723f8fd964aeb17ad5764c515a6aff2b1"), looks := true }, kinds := [], alts := [], laidByText := true, laidKinds := [.data, .data, .data, .sentinel, .sentinel, .data], laidTests := true, laidLooks := .later }
def EnvNoneUptoCardSaid : Prop := Claim7.holds Tryz.pinned (.plain (OpenSpec.upto envNoneSpec)) envNoneUptoCard

/-- THE SECOND FORM's CARD OF 'sterlinglaw13.EnvChain'. -/
def envChainUptoCard : Claim7 := { stood := { row := envChainUptoRow, standIns := [], harness := (true, "38d6a1140ad95cde1bf907a8c238045723f8fd964aeb17ad5764c515a6aff2b1"), looks := true }, kinds := [], alts := [], laidByText := true, laidKinds := [.data, .data, .data, .sentinel, .sentinel, .data], laidTests := true, laidLooks := .later }
def EnvChainUptoCardSaid : Prop := Claim7.holds Tryz.pinned (.plain (OpenSpec.upto envChainSpec)) envChainUptoCard
end Rows
end Go.Proofs.YtcibkkpljcablaaGreatDoor
