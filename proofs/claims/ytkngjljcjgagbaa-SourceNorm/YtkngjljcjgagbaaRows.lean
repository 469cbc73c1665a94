/-
  No cell of these rows narrows 'for every input' (looked for: loops, veiled, ifaces, maps, wideKeys, modest, calm, conditions, laid).
  DERIVED. THE GIVEN ROWS OF THIS SEAT. 4 by the template 'for every input the law returns true; each argument reads behind the call as it read before'; 0 by the template 'total and deterministic' (their statements: YtkngjljcjgagbaaTotals.lean).
  GIVEN WITH THE SEED: the statements are not yours to turn. If you find one false, say at which input.
  Laid BY PROGRAM, IN A SANDBOX (cutbox-rows.mjs): the forced cells as the released guide's own fill.sh prints them over the translation e00212b249ddf1bf… (all of the seat's roots in one cut). By AI agents, Wed Nov 11 2026. No macro, syntax, notation, axiom, sorry.
-/
import Derived.Test.YtkngjljcjgagbaaChecked
import GoSem.Claim
import GoSem.ClaimJoined
import GoSem.ClaimMapViews
import Derived.JoinedTies
import Derived.KernelRfl
namespace Go.Proofs.Ytkngjljcjgagbaa
/- THE CELL 'sum', in the pinned program and in every row, IS THE sha256 OF THE DUMP (.gsa) THAT YtkngjljcjgagbaaProg.lean LOADS. Nothing in Lean hashes anything: it is a label: what it is worth is what the hold of that sum in a sandbox is worth. -/
noncomputable def Try.pinned : Pinned := { name := "ytkngjljcjgagbaa", sum := "e00212b249ddf1bf4f00fa86e9a5379251cd0f12b81cdb59f8ab6d6c93fa8297", checked := Try.checked }
namespace Rows
def none {H : Type} : Left H := { results := [], args := [] }

/-- 'sterlinglaw4.SourceNorm': WHATEVER THE INPUT: true; the input reads as it did. -/
def sourceNormSpec : ChangeSpec := { name := "sourceNorm", fn := fun _ => fun
  | [d] => { results := [.lit (.bool true)], args := [d] }
  | _ => none }
def sourceNormRow : OpenClaim := { program := "ytkngjljcjgagbaa", sum := "e00212b249ddf1bf4f00fa86e9a5379251cd0f12b81cdb59f8ab6d6c93fa8297", func := "sterling/sterlinglaw4.SourceNorm", spec := "sourceNorm", inPlace := ["internal/bytealg.abigen_runtime_cmpstring"], unfollowed := true, recurses := true, apart := false }
def SourceNormSaid : Prop := sourceNormRow.holds Try.pinned (OpenSpec.ofChange sourceNormSpec)

/-- ITS FALSE NEIGHBOUR: 'it returns false'. Refute it at one input. -/
def sourceNormWrong : ChangeSpec := { name := "sourceNorm", fn := fun _ => fun
  | [d] => { results := [.lit (.bool false)], args := [d] }
  | _ => none }
def SourceNormWrongFalsely : Prop := sourceNormRow.holds Try.pinned (OpenSpec.ofChange sourceNormWrong)

/-- 'sterlinglaw4.SourcePlace': WHATEVER THE INPUT: true; the input reads as it did. -/
def sourcePlaceSpec : ChangeSpec := { name := "sourcePlace", fn := fun _ => fun
  | [d1, d2] => { results := [.lit (.bool true)], args := [d1, d2] }
  | _ => none }
def sourcePlaceRow : OpenClaim := { program := "ytkngjljcjgagbaa", sum := "e00212b249ddf1bf4f00fa86e9a5379251cd0f12b81cdb59f8ab6d6c93fa8297", func := "sterling/sterlinglaw4.SourcePlace", spec := "sourcePlace", inPlace := ["internal/bytealg.abigen_runtime_cmpstring"], unfollowed := true, recurses := true, apart := false }
def SourcePlaceSaid : Prop := sourcePlaceRow.holds Try.pinned (OpenSpec.ofChange sourcePlaceSpec)

/-- ITS FALSE NEIGHBOUR: 'it returns false'. Refute it at one input. -/
def sourcePlaceWrong : ChangeSpec := { name := "sourcePlace", fn := fun _ => fun
  | [d1, d2] => { results := [.lit (.bool false)], args := [d1, d2] }
  | _ => none }
def SourcePlaceWrongFalsely : Prop := sourcePlaceRow.holds Try.pinned (OpenSpec.ofChange sourcePlaceWrong)

/-- 'sterlinglaw4.SourceDiags': WHATEVER THE INPUT: true; the input reads as it did. -/
def sourceDiagsSpec : ChangeSpec := { name := "sourceDiags", fn := fun _ => fun
  | [d] => { results := [.lit (.bool true)], args := [d] }
  | _ => none }
def sourceDiagsRow : OpenClaim := { program := "ytkngjljcjgagbaa", sum := "e00212b249ddf1bf4f00fa86e9a5379251cd0f12b81cdb59f8ab6d6c93fa8297", func := "sterling/sterlinglaw4.SourceDiags", spec := "sourceDiags", inPlace := ["internal/bytealg.abigen_runtime_cmpstring"], unfollowed := true, recurses := true, apart := false }
def SourceDiagsSaid : Prop := sourceDiagsRow.holds Try.pinned (OpenSpec.ofChange sourceDiagsSpec)

/-- ITS FALSE NEIGHBOUR: 'it returns false'. Refute it at one input. -/
def sourceDiagsWrong : ChangeSpec := { name := "sourceDiags", fn := fun _ => fun
  | [d] => { results := [.lit (.bool false)], args := [d] }
  | _ => none }
def SourceDiagsWrongFalsely : Prop := sourceDiagsRow.holds Try.pinned (OpenSpec.ofChange sourceDiagsWrong)

/-- 'sterlinglaw4.SourcePath': WHATEVER THE INPUT: true; the input reads as it did. -/
def sourcePathSpec : ChangeSpec := { name := "sourcePath", fn := fun _ => fun
  | [d] => { results := [.lit (.bool true)], args := [d] }
  | _ => none }
def sourcePathRow : OpenClaim := { program := "ytkngjljcjgagbaa", sum := "e00212b249ddf1bf4f00fa86e9a5379251cd0f12b81cdb59f8ab6d6c93fa8297", func := "sterling/sterlinglaw4.SourcePath", spec := "sourcePath", inPlace := ["internal/bytealg.abigen_runtime_cmpstring"], unfollowed := true, recurses := true, apart := false }
def SourcePathSaid : Prop := sourcePathRow.holds Try.pinned (OpenSpec.ofChange sourcePathSpec)

/-- ITS FALSE NEIGHBOUR: 'it returns false'. Refute it at one input. -/
def sourcePathWrong : ChangeSpec := { name := "sourcePath", fn := fun _ => fun
  | [d] => { results := [.lit (.bool false)], args := [d] }
  | _ => none }
def SourcePathWrongFalsely : Prop := sourcePathRow.holds Try.pinned (OpenSpec.ofChange sourcePathWrong)

/- THE SECOND FORM. 'bulk': how many values and letters a reading holds, each counted each time it is reached (what is shared counts as often as it is met; a slice's spare places count too). A statement '..UptoSaid' is the law's where the arguments, and the package variables that the reading takes, are together of bulk at most 1048576: NARROWER than '..Said'. Prove '..Said' where nothing that the law and all that it calls make is longer than what came in: it says more and counts as full. Else prove '..UptoSaid'. A law counts once. -/
mutual
def uptoBulk {H : Type} : DataW H → Nat
  | .lit (.string bytes) => bytes.length + 1
  | .lit _ => 1
  | .nil => 1
  | .ptr d => uptoBulk d + 1
  | .slice elems spare => uptoBulkAll elems + uptoBulkAll spare + 1
  | .agg parts => uptoBulkAll parts + 1
  | .iface _ d => uptoBulk d + 1
  | .map entries => uptoBulkEntries entries + 1
  | .held _ => 1
def uptoBulkAll {H : Type} : List (DataW H) → Nat
  | [] => 0
  | d :: r => uptoBulk d + uptoBulkAll r
def uptoBulkEntries {H : Type} : List (Lit × DataW H) → Nat
  | [] => 0
  | x :: r => uptoBulkEntry x + uptoBulkEntries r
def uptoBulkEntry {H : Type} : Lit × DataW H → Nat
  | (.string bytes, d) => bytes.length + uptoBulk d + 1
  | (_, d) => uptoBulk d + 1
 end
def uptoSmall : (H : Type) → List (DataW H) → Bool := fun _ ds => decide (uptoBulkAll ds ≤ 1048576)
def OpenSpec.upto (s : _root_.Go.ChangeSpec) : _root_.Go.OpenSpec := { _root_.Go.OpenSpec.ofChange s with cond := some uptoSmall }

/-- 'sterlinglaw4.SourceNorm', WHERE WHAT IT READS IS OF BULK AT MOST 1048576: true; the input reads as it did. -/
def sourceNormUptoRow : OpenClaim := { program := "ytkngjljcjgagbaa", sum := "e00212b249ddf1bf4f00fa86e9a5379251cd0f12b81cdb59f8ab6d6c93fa8297", func := "sterling/sterlinglaw4.SourceNorm", spec := "sourceNorm", inPlace := ["internal/bytealg.abigen_runtime_cmpstring"], unfollowed := true, recurses := true, apart := false, narrowed := true }
def SourceNormUptoSaid : Prop := sourceNormUptoRow.holds Try.pinned (OpenSpec.upto sourceNormSpec)

/-- 'sterlinglaw4.SourcePlace', WHERE WHAT IT READS IS OF BULK AT MOST 1048576: true; the input reads as it did. -/
def sourcePlaceUptoRow : OpenClaim := { program := "ytkngjljcjgagbaa", sum := "e00212b249ddf1bf4f00fa86e9a5379251cd0f12b81cdb59f8ab6d6c93fa8297", func := "sterling/sterlinglaw4.SourcePlace", spec := "sourcePlace", inPlace := ["internal/bytealg.abigen_runtime_cmpstring"], unfollowed := true, recurses := true, apart := false, narrowed := true }
def SourcePlaceUptoSaid : Prop := sourcePlaceUptoRow.holds Try.pinned (OpenSpec.upto sourcePlaceSpec)

/-- 'sterlinglaw4.SourceDiags', WHERE WHAT IT READS IS OF BULK AT MOST 1048576: true; the input reads as it did. -/
def sourceDiagsUptoRow : OpenClaim := { program := "ytkngjljcjgagbaa", sum := "e00212b249ddf1bf4f00fa86e9a5379251cd0f12b81cdb59f8ab6d6c93fa8297", func := "sterling/sterlinglaw4.SourceDiags", spec := "sourceDiags", inPlace := ["internal/bytealg.abigen_runtime_cmpstring"], unfollowed := true, recurses := true, apart := false, narrowed := true }
def SourceDiagsUptoSaid : Prop := sourceDiagsUptoRow.holds Try.pinned (OpenSpec.upto sourceDiagsSpec)

/-- 'sterlinglaw4.SourcePath', WHERE WHAT IT READS IS OF BULK AT MOST 1048576: true; the input reads as it did. -/
def sourcePathUptoRow : OpenClaim := { program := "ytkngjljcjgagbaa", sum := "e00212b249ddf1bf4f00fa86e9a5379251cd0f12b81cdb59f8ab6d6c93fa8297", func := "sterling/sterlinglaw4.SourcePath", spec := "sourcePath", inPlace := ["internal/bytealg.abigen_runtime_cmpstring"], unfollowed := true, recurses := true, apart := false, narrowed := true }
def SourcePathUptoSaid : Prop := sourcePathUptoRow.holds Try.pinned (OpenSpec.upto sourcePathSpec)

end Rows
end Go.Proofs.Ytkngjljcjgagbaa
